import PyProof.Rows.All
import Wide.All
import OpenK.AllK
import Wide.FinOn
import Lean
import PyProof.EqAt
import PyProof.EqKinds
import PyProof.TupleCall
import PyProof.Cells
import PyProof.SumWalkG
import PyProof.EnumStmt
import PyProof.EnumMake
import PyProof.InstStoreFacts
import KE.KDictList
import PySem.Challenge.RW_ohmyard_k72_shapes
set_option Elab.async false
set_option linter.all false
set_option maxRecDepth 100000
namespace L2
open PySem PySem.Spec PyProof.Rows
abbrev Key:=Sum Int Str
def wQ:Key->Value->Bool
 | .inl k,v=>Value.isInt k v
 | .inr x,v=>Value.isStrOf x v
def Yj (w:World):Key->Int
 | .inl k=>hashInt k
 | .inr x=>hashStr w x
theorem dL:∀{k:Key} {v:Value},wQ k v=true->(∃i t,k=Sum.inl i/\v=Value.int i t)\/(∃x t,k=Sum.inr x/\v=Value.str x t)
 | .inl i,v,h=>by
  obtain⟨t,e⟩:=Value.isInt_shape (k:=i) (v:=v) h;exact .inl ⟨i,t,rfl,e⟩
 | .inr x,v,h=>by
  obtain⟨t,e⟩:=Value.isStrOf_shape (x:=x) (v:=v) h;exact .inr ⟨x,t,rfl,e⟩
theorem Iu (i:Int)(t:Tok):wQ (.inl i) (.int i t)=true:=by simp[wQ,Value.isInt]
theorem Gj (x:Str)(t:Tok):wQ (.inr x) (.str x t)=true:=by simp[wQ,Value.isStrOf]
theorem Sr (a b:Int):decide ((Sum.inl a:Key)=Sum.inl b)=(a == b):=by
 by_cases e:a=b
 ·subst e;simp
 ·have h:¬(Sum.inl a:Key)=Sum.inl b:=fun q=>e (Sum.inl.inj q);rw[decide_eq_false h];exact(beq_eq_false_iff_ne.mpr e).symm
theorem Td (a b:Str):decide ((Sum.inr a:Key)=Sum.inr b)=decide (a=b):=by
 by_cases e:a=b
 ·subst e;simp
 ·have h:¬(Sum.inr a:Key)=Sum.inr b:=fun q=>e (Sum.inr.inj q);rw[decide_eq_false h,decide_eq_false e]
theorem Ut (a:Int)(b:Str):decide ((Sum.inl a:Key)=Sum.inr b)=false:=decide_eq_false (fun q=>nomatch q)
theorem Vi (a:Str)(b:Int):decide ((Sum.inr a:Key)=Sum.inl b)=false:=decide_eq_false (fun q=>nomatch q)
def dP (prog:Program)(w:World):PySem.KeyKind prog w Key where
 is:=wQ
 hash:=Yj w
 inj:=fun v a b ha hb=>by
  rcases dL ha with ⟨i,t,rfl,rfl⟩ | ⟨x,t,rfl,rfl⟩
  ·rcases dL hb with ⟨j,u,rfl,e⟩ | ⟨y,u,rfl,e⟩
   ·injection e with e1 _;rw[e1]
   ·exact nomatch e
  ·rcases dL hb with ⟨j,u,rfl,e⟩ | ⟨y,u,rfl,e⟩
   ·exact nomatch e
   ·injection e with e1 _;rw[e1]
 byValue:=fun k v h=>by
  rcases dL h with ⟨i,t,rfl,rfl⟩ | ⟨x,t,rfl,rfl⟩<;>rfl
 pyHash:=fun hv h=>by
  rcases dL hv with ⟨i,t,rfl,rfl⟩ | ⟨x,t,rfl,rfl⟩
  ·exact wpAny_pyHash_int h
  ·exact wpAny_pyHash_str h
 eqBool:=fun hu hv h=>by
  rcases dL hu with ⟨i,t,rfl,rfl⟩ | ⟨x,t,rfl,rfl⟩
  ·rcases dL hv with ⟨j,u,rfl,rfl⟩ | ⟨y,u,rfl,rfl⟩
   ·rw[Sr] at h;exact wpAny_eqBool_int h
   ·rw[Ut] at h;exact SeqAt.EqAt.int_str i t y u _ _ _ _ h
  ·rcases dL hv with ⟨j,u,rfl,rfl⟩ | ⟨y,u,rfl,rfl⟩
   ·rw[Vi] at h;exact SeqAt.EqAt.str_int x t j u _ _ _ _ h
   ·rw[Td] at h;exact wpAny_eqBool_str h
 «strs»:=fun k x t v h=>by
  rcases dL h with ⟨i,u,rfl,e⟩ | ⟨y,u,rfl,e⟩
  ·exact nomatch e
  ·injection e with e1 _
   subst e1
   cases v<;>rfl
theorem zI (prog:Program)(w:World)(i:Int)(t:Tok):(dP prog w).is (.inl i) (.int i t)=true:=Iu i t
theorem Ar (prog:Program)(w:World)(x:Str)(t:Tok):(dP prog w).is (.inr x) (.str x t)=true:=Gj x t
inductive V where
 |non | bl (b:Bool) | int (i:Int) | str (x:Str) | byt (b:Array UInt8) | flt (b:UInt64) | ref (a:Addr) | ty (n:String)
 deriving DecidableEq
def cD:V->Value->Prop
 | .non,u=>u=Value.none
 | .bl b,u=>u=Value.bool b
 | .int i,u=>∃t,u=Value.int i t
 | .str x,u=>∃t,u=Value.str x t
 | .byt b,u=>∃t,u=Value.bytes b t
 | .flt b,u=>∃t,u=Value.float b t
 | .ref a,u=>u=Value.ref a
 | .ty n,u=>u=Value.type n
abbrev bY:List V->List Value->Prop:=Paired cD
theorem bY.length {xs:List V}{us:List Value}(r:bY xs us):xs.length=us.length:=Paired.length r
theorem bY.get:∀{xs:List V} {us:List Value} {i:Nat} {x:V},bY xs us->xs[i]?=some x->∃u,us[i]?=some u/\cD x u
 |_,_,_,_,.nil,e=>by simp at e
 |_,_,0,_,.cons r _,e=>by simp at e;subst e;exact⟨_,rfl,r⟩
 |_,_,i+1,x,.cons _ t,e=>by
  obtain⟨u,h1,h2⟩:=bY.get (i:=i) (x:=x) t (by simpa using e);exact⟨u,by simpa using h1,h2⟩
theorem bY.set {x:V}{u:Value}(r:cD x u):∀{xs:List V} {us:List Value} (i:Nat),bY xs us->bY (xs.set i x) (us.set i u)
 |_,_,_,.nil=>.nil
 |_,_,0,.cons _ t=>.cons r t
 |_,_,i+1,.cons q t=>.cons q (bY.set r i t)
theorem bY.append:∀{xs ys:List V} {us ws:List Value},bY xs us->bY ys ws->bY (xs++ys) (us++ws)
 |_,_,_,_,.nil,s=>s
 |_,_,_,_,.cons r t,s=>.cons r (bY.append t s)
theorem bY.take:∀{xs:List V} {us:List Value} (n:Nat),bY xs us->bY (xs.take n) (us.take n)
 |_,_,0,_=>.nil
 |_,_,_+1,.nil=>.nil
 |_,_,n+1,.cons r t=>.cons r (bY.take n t)
theorem bY.drop:∀{xs:List V} {us:List Value} (n:Nat),bY xs us->bY (xs.drop n) (us.drop n)
 |_,_,0,r=>r
 |_,_,_+1,.nil=>.nil
 |_,_,n+1,.cons _ t=>bY.drop n t
def kF:Option V->Option Value->Prop
 |some v,some u=>cD v u
 |none,none=>True
 |_,_=>False
def KV {κ:Type}:List (κ × V)->List (κ × Value)->Prop:=Paired fun (p:κ × V) (q:κ × Value)=>p.1=q.1/\cD p.2 q.2
def kV:Key->V
 | .inl i=>.int i
 | .inr x=>.str x
inductive HO where
 |lst (xs:List V)
 |tup (xs:List V)
 |dK (kvs:List (Key × V)) | dT (kvs:List (List Key × V))
 |set (S:Int->Bool) (n:Nat)
 |ins (C dx:Addr) (fs:List (Str × V))
 |own (x:Addr)
 |xd (fs:List (Str × V))
 |met (f x:Addr)
 |rng (lo hi:Int)
 |frz (o:Obj) (u:HO)
 |tbl (ps:Array Value)
 |ext (φ:Heap->Prop)
abbrev Hp:=Addr->Option HO
def upd (H:Hp)(a:Addr)(o:HO):Hp:=fun b=>if b=a then some o else H b
theorem aB {H:Hp}{a:Addr}{o:HO}:upd H a o a=some o:=by unfold upd;rw[if_pos rfl]
theorem bC {H:Hp}{a b:Addr}{o:HO}(h:b≠a):upd H a o b=H b:=by unfold upd;rw[if_neg h]
theorem nI {H:Hp}{a:Addr}{o u:HO}:upd (upd H a o) a u=upd H a u:=by
 funext b;unfold upd;split<;>rfl
theorem iN {H:Hp}{a b:Addr}{o u:HO}(h:H a=some o)(h':H b=some u)(d:o≠u):a≠b:=by
 intro e;subst e;rw[h] at h';exact d (Option.some.inj h')
theorem aU {H:Hp}{a b:Addr}{o:HO}(h:H a=some o)(h':H b=none):a≠b:=by
 intro e;subst e;rw[h] at h';cases h'
section
variable (P:Program) (w:World)
def dQ (H:Hp)(h:Heap)(a:Addr):HO->Prop
 | .lst xs=>xs.length<=sizeLine/\∃(its:List Value) (n:Nat),bY xs its/\h.get? a=some { cls:=.type "list",data:=.seq its.toArray n }
 | .tup xs=>xs.length<=sizeLine/\∃its:List Value,bY xs its/\IsTup h a its.toArray
 | .dK kvs=>kvs.length<=sizeLine/\(a == sysModules)=false/\∃vs,KV kvs vs/\h.DictOf (dP P w) a vs
 | .dT kvs=>kvs.length<=sizeLine/\(a == sysModules)=false/\∃xs:List (List Key × Addr × Value),
   Paired (fun (p:List Key × V) (q:List Key × Addr × Value)=>p.1=q.1/\H q.2.1=some (.tup (p.1.map kV))/\cD p.2 q.2.2) kvs xs/\
   ∃o es ep,h.get? a=some o/\o.ExactDict/\o.data=.dict es ep/\es.toList=xs.map (entryOfKey (tupleKind (dP P w)))/\(xs.map (·.1)).Nodup
 | .set S n=>h.SetOf (intKind P w) a S n
 | .ins C dx fs=>H dx=some (.own a)/\fs.length<=1000/\dx≠a/\h.get? a=some (PySem.W.instObj C dx)/\
   ∃mA,h.Ns1 dx mA/\(∀f,kF (fs.lookup f) (mA f))/\PySem.Within mA (fs.map (·.1))
 | .own _=>∃o,h.get? a=some o
 | .xd fs=>∃mA,h.Ns1 a mA/\∀f,kF (fs.lookup f) (mA f)
 | .rng lo hi=>∃t u v,h.get? a=some { cls:=.type "range",data:=.fields #[.int lo t,.int hi u,.int 1 v] }
 | .frz o u=>h.get? a=some o/\dQ H h a u
 | .tbl ps=>h.get? a=some { cls:=.none,data:=.fields ps }
 | .met f x=>h.get? a=some (PySem.W.methodObj (.ref f) (.ref x))
 | .ext φ=>φ h/\(∃o,h.get? a=some o)/\∀h1 h2:Heap,φ h1->(∀o,h1.get? a=some o->h2.get? a=some o)->φ h2
def HOk (H:Hp)(h:Heap):Prop:=∀a o,H a=some o->dQ P w H h a o
end
section
variable {P:Program} {w:World} {H H':Hp} {h h':Heap} {a:Addr} {o:HO}
theorem dQ.lt (x:dQ P w H h a o):a < h.objs.size:=by
 cases o with
 |lst xs=>obtain⟨_,_,_,_,e⟩:=x;exact Heap.lt_size e
 |tup xs=>obtain⟨_,_,_,p⟩:=x;exact p.lt
 |dK kvs=>obtain⟨_,_,_,_,o,_,_,e,_⟩:=x;exact Heap.lt_size e
 |dT kvs=>obtain⟨_,_,_,_,o,_,_,e,_⟩:=x;exact Heap.lt_size e
 |set S n=>obtain⟨o,_,_,_,e,_⟩:=x;exact Heap.lt_size e
 |ins C dx fs=>obtain⟨_,_,_,e,_⟩:=x;exact Heap.lt_size e
 |own y=>obtain⟨_,e⟩:=x;exact Heap.lt_size e
 |xd fs=>obtain⟨_,⟨_,_,_,e,_⟩,_⟩:=x;exact Heap.lt_size e
 |rng lo hi=>obtain⟨_,_,_,e⟩:=x;exact Heap.lt_size e
 |frz ob u=>obtain⟨e,_⟩:=x;exact Heap.lt_size e
 |tbl ps=>exact Heap.lt_size (show h.get? a=some _ from x)
 |met f y=>exact Heap.lt_size (show h.get? a=some _ from x)
 |ext φ=>obtain⟨_,⟨_,e⟩,_⟩:=x;exact Heap.lt_size e
theorem Paired.mapP {α β:Type}{F G:α->β->Prop}:∀{l₁:List α} {l₂:List β},Paired F l₁ l₂->(∀a b,F a b->G a b)->Paired G l₁ l₂
 |_,_,.nil,_=>.nil
 |_,_,.cons r t,f=>.cons (f _ _ r) (Paired.mapP t f)
theorem dQ.stay (x:dQ P w H h a o)(k:∀b u,(b=a\/H b=some (.own a))->h.get? b=some u->h'.get? b=some u)(ho:∀b,H b=some (.own a)->H' b=some (.own a))(ht:∀b xs,H b=some (.tup xs)->H' b=some (.tup xs)):dQ P w H' h' a o:=by
 induction o with
 |lst xs=>obtain⟨z,its,n,r,e⟩:=x;exact⟨z,its,n,r,k _ _ (.inl rfl) e⟩
 |tup xs=>obtain⟨z,its,r,ob,e,c⟩:=x;exact⟨z,its,r,ob,k _ _ (.inl rfl) e,c⟩
 |dK kvs=>obtain⟨z,y,vs,r,ob,es,ep,e,c⟩:=x;exact⟨z,y,vs,r,ob,es,ep,k _ _ (.inl rfl) e,c⟩
 |dT kvs=>
  obtain⟨z,y,xs,r,ob,es,ep,e,c⟩:=x;exact⟨z,y,xs,Paired.mapP r fun p q z=>⟨z.1,ht _ _ z.2.1,z.2.2⟩,ob,es,ep,k _ _ (.inl rfl) e,c⟩
 |set S n=>obtain⟨ob,es,ep,t,e,c⟩:=x;exact⟨ob,es,ep,t,k _ _ (.inl rfl) e,c⟩
 |ins C dx fs=>
  obtain⟨d,z,ne,e,mA,⟨od,es,ep,e2,c⟩,r⟩:=x;exact⟨ho _ d,z,ne,k _ _ (.inl rfl) e,mA,⟨od,es,ep,k _ _ (.inr d) e2,c⟩,r⟩
 |own y=>obtain⟨ob,e⟩:=x;exact⟨ob,k _ _ (.inl rfl) e⟩
 |xd fs=>obtain⟨mA,⟨od,es,ep,e,c⟩,r⟩:=x;exact⟨mA,⟨od,es,ep,k _ _ (.inl rfl) e,c⟩,r⟩
 |rng lo hi=>obtain⟨t,u,v,e⟩:=x;exact⟨t,u,v,k _ _ (.inl rfl) e⟩
 |frz ob u ih=>obtain⟨e,q⟩:=x;exact⟨k _ _ (.inl rfl) e,ih q⟩
 |tbl ps=>
  have e:h.get? a=some { cls:=.none,data:=.fields ps }:=x;show h'.get? a=some { cls:=.none,data:=.fields ps };exact k a _ (.inl rfl) e
 |met f y=>
  have e:h.get? a=some (PySem.W.methodObj (.ref f) (.ref y)):=x;show h'.get? a=some (PySem.W.methodObj (.ref f) (.ref y));exact k a _ (.inl rfl) e
 |ext φ=>obtain⟨p,⟨o,e⟩,st⟩:=x;exact⟨st _ _ p fun o q=>k _ _ (.inl rfl) q,⟨o,k _ _ (.inl rfl) e⟩,st⟩
theorem HOk.lt (x:HOk P w H h)(e:H a=some o):a < h.objs.size:=(x a o e).lt
theorem HOk.fresh (x:HOk P w H h)(e:h.objs.size<=a):H a=none:=by
 cases q:H a with
 |none=>rfl
 |some u=>exact absurd (Nat.lt_of_lt_of_le (x.lt q) e) (Nat.lt_irrefl _)
theorem HOk.kept (x:HOk P w H h)(k:∀b u,h.get? b=some u->h'.get? b=some u):HOk P w H h':=fun a o e=>
 (x a o e).stay (fun b u _ q=>k b u q) (fun _ q=>q) fun _ _ q=>q
theorem HOk.laid (x:HOk P w H h)(k:∀b u,h.get? b=some u->h'.get? b=some u)(hp:h.objs.size<=a)(new:dQ P w (upd H a o) h' a o):HOk P w (upd H a o) h':=fun b u e=>by
 have hn:=x.fresh hp
 by_cases hb:b=a
 ·subst hb;rw[aB] at e;cases e;exact new
 ·rw[bC hb] at e;exact(x b u e).stay (fun c v _ q=>k c v q) (fun c q=>by rw[bC (aU q hn)];exact q) fun c xs q=>by rw[bC (aU q hn)];exact q
end
def Rd (H:Hp)(a:Addr)(u:HO):Prop:=H a=some u\/∃o,H a=some (.frz o u)
theorem Rd.ok {P:Program}{w:World}{H:Hp}{h:Heap}{a:Addr}{u:HO}(r:Rd H a u)(x:HOk P w H h):dQ P w H h a u:=by
 rcases r with r | ⟨o,r⟩
 ·exact x a u r
 ·obtain⟨_,q⟩:=x a _ r;exact q
def Mut:Option HO->Prop
 |some (.lst _)=>True
 |some (.dK _)=>True
 |some (.dT _)=>True
 |some (.set _ _)=>True
 |some (.ins _ _ _)=>True
 |some (.ext _)=>True
 |_=>False
section
variable {P:Program} {w:World} {H:Hp} {h h':Heap} {x e:Addr} {o':HO}
theorem HOk.write (ok:HOk P w H h)(mu:Mut (H x))(he:e=x\/H e=some (.own x))(k:∀b u,b≠e->h.get? b=some u->h'.get? b=some u)(heo:∃u,h'.get? e=some u)(new:dQ P w (upd H x o') h' x o'):HOk P w (upd H x o') h':=fun b u q=>by
 have nown:∀c y,H c=some (.own y)->c≠x:=fun c y r z=>by subst z;rw[r] at mu;exact mu
 have ntup:∀c xs,H c=some (.tup xs)->c≠x:=fun c xs r z=>by subst z;rw[r] at mu;exact mu
 by_cases hb:b=x
 ·subst hb;rw[aB] at q;cases q;exact new
 ·rw[bC hb] at q
  by_cases hbe:b=e
  ·have q':H b=some (.own x):=by
    rcases he with z | z
    ·exact absurd (hbe.trans z) hb
    ·rw[hbe];exact z
   rw[q] at q';cases q';obtain⟨v,hv⟩:=heo;exact⟨v,by rw[hbe];exact hv⟩
  ·refine(ok b u q).stay (fun c v hc r=>k c v ?_ r) (fun c r=>by rw[bC (nown c b r)];exact r) fun c xs r=>by rw[bC (ntup c xs r)];exact r
   rcases hc with rfl | hc
   ·exact hbe
   ·rintro rfl;rcases he with z | z
    ·exact nown c b hc z
    ·rw[hc] at z;cases z;exact hb rfl
end
structure Un (fs ex:List Addr) (H H':Hp) (h h':Heap):Prop where
 keep:∀b o,h.get? b=some o->H b=none->b∉fs->b∉ex->h'.get? b=some o
 slot:∀b o,h.get? b=some o->H b=none->b∈fs->b∉ex->∃sl,h'.get? b=some { o with slots:=sl }
 free:∀b o,h.get? b=some o->H b=none->b∉ex->H' b=none
 there:∀b o,h.get? b=some o->b∉ex->∃o',h'.get? b=some o'
 tups:∀b xs,H b=some (.tup xs)->H' b=some (.tup xs)
 frzs:∀b o u,H b=some (.frz o u)->H' b=some (.frz o u)
 tbls:∀b ps,H b=some (.tbl ps)->∃more,H' b=some (.tbl (ps++more))
section
variable {fs fs' ex ex':List Addr} {H H1 H2:Hp} {h h1 h2 h':Heap} {a x e:Addr} {o:HO}
theorem Un.any (u:Un fs ex H H1 h h1){b:Addr}{ob:Obj}(q:h.get? b=some ob)(n:H b=none)(hx:b∉ex):∃sl,h1.get? b=some { ob with slots:=sl }:=by
 by_cases hb:b∈fs
 ·exact u.slot b ob q n hb hx
 ·exact⟨ob.slots,u.keep b ob q n hb hx⟩
theorem Un.kept (k:∀b u,h.get? b=some u->h'.get? b=some u):Un fs ex H H h h':=
 ⟨fun b ob q _ _ _=>k b ob q,fun b ob q _ _ _=>⟨ob.slots,k b ob q⟩,fun _ _ _ n _=>n,fun b ob q _=>⟨ob,k b ob q⟩,fun _ _ q=>q,fun _ _ _ q=>q,fun _ ps q=>⟨#[],by rw[q];simp⟩⟩
theorem Un.refl:Un fs ex H H h h:=Un.kept fun _ _ q=>q
theorem Un.laid (k:∀b u,h.get? b=some u->h'.get? b=some u)(hp:h.objs.size<=a)(hn:H a=none):Un fs ex H (upd H a o) h h' where
 keep:=fun b u q _ _ _=>k b u q
 slot:=fun b u q _ _ _=>⟨u.slots,k b u q⟩
 free:=fun b u q n _=>by rw[bC (Nat.ne_of_lt (Nat.lt_of_lt_of_le (Heap.lt_size q) hp))];exact n
 there:=fun b u q _=>⟨u,k b u q⟩
 tups:=fun b xs q=>by rw[bC (aU q hn)];exact q
 frzs:=fun b u xs q=>by rw[bC (aU q hn)];exact q
 tbls:=fun b ps q=>⟨#[],by rw[bC (aU q hn),q];simp⟩
theorem Un.write (mu:Mut (H x))(he:e=x\/H e=some (.own x))(k:∀b u,b≠e->h.get? b=some u->h'.get? b=some u)(heo:∃u,h'.get? e=some u):Un fs ex H (upd H x o) h h':=by
 have hx:∀b,H b=none->b≠x:=fun b n z=>by subst z;rw[n] at mu;exact mu
 have hb:∀b,H b=none->b≠e:=fun b n z=>by
  subst z;rcases he with r | r
  ·exact hx b n r
  ·rw[n] at r;cases r
 have hm:∀b u,H b=some u->¬Mut (some u)->b≠x:=fun b u q nm z=>by subst z;rw[q] at mu;exact nm mu
 refine⟨fun b u q n _ _=>k b u (hb b n) q,fun b u q n _ _=>⟨u.slots,k b u (hb b n) q⟩,fun b u q n _=>by rw[bC (hx b n)];exact n,fun b u q _=>?_,
  fun b xs q=>by rw[bC (hm b _ q fun z=>z)];exact q,fun b u xs q=>by rw[bC (hm b _ q fun z=>z)];exact q,fun b ps q=>⟨#[],by rw[bC (hm b _ q fun z=>z),q];simp⟩⟩
 by_cases hbe:b=e
 ·subst hbe;exact heo
 ·exact⟨u,k b u hbe q⟩
end
def trk (h:Heap)(H:Hp):List Addr:=(List.range h.objs.size).filter fun a=>(H a).isSome
def xF (h:Heap)(H:Hp):Heap:=PySem.W.hideAll h (trk h H)
theorem Hi (h:Heap)(H:Hp):(xF h H).objs.size=h.objs.size:=PySem.W.hideAll_size _ _
theorem Nx {h:Heap}{H:Hp}{b:Addr}{o:Obj}(e:h.get? b=some o)(n:H b=none):(xF h H).get? b=some o:=
 PySem.W.hideAll_get _ e fun hm=>by
  have q:(H b).isSome=true:=(List.mem_filter.mp hm).2;rw[n] at q;simp at q
theorem On {h:Heap}{H:Hp}{b:Addr}{o:Obj}(e:(xF h H).get? b=some o):h.get? b=some o/\H b=none:=by
 have e':h.get? b=some o:=PySem.W.of_hideAll (trk h H) e;refine⟨e',?_⟩
 cases q:H b with
 |none=>rfl
 |some x=>
  have hm:b∈trk h H:=List.mem_filter.mpr ⟨List.mem_range.mpr (Heap.lt_size e'),by simp[q]⟩;have z:(xF h H).get? b=none:=PySem.W.hideAll_none (trk h H) hm;rw[z] at e;cases e
structure Mod (K:PySem.W.Frag) (mg:Str->Option Value) (base:Heap):Prop where
 kin:K.In base
 glob:base.Ns mainGlobals mg
 blt:∃mb,base.Ns builtinsNs mb/\∀x:Str,x≠"__name__"->mb x=bootBuiltins x
 nolimit:base.NoLimit
structure Cx where
 prog:Program
 w:World
 K:PySem.W.Frag
 mg:Str->Option Value
 base:Heap
 A:Around
 N:List Str
 s₀:Shared
 H₀:Hp
 env:Env
 outer:List Env
 stack:List Env
 ex:List Addr
 fn:Str->Bool
 calm:Bool
 pn:List (Addr × Obj)
 xe:Value->Shared->Prop
def frs (l:List Env):List Addr:=l.filterMap (·.frame)
abbrev Cx.fs (X:Cx):List Addr:=frs X.outer
def Vis (sc:Scope)(x:Str):Prop:=sc.names.lookup x=some .local\/sc.names.lookup x=some .cell\/sc.names.lookup x=some .free
def Loc (sc:Scope)(x:Str):Prop:=sc.names.lookup x=some .local\/sc.names.lookup x=some .cell
def Zd (env:Env)(h:Heap)(m:Str->Option Value)(x:Str)(u:Value):Prop:=
 (env.kindOf x=some .local/\m x=some u)\/((env.kindOf x=some .cell\/env.kindOf x=some .free)/\∃c,env.cells.lookup x=some c/\h.IsCell c (some u))
structure Cx.Ok (X:Cx):Prop where
 mod:Mod X.K X.mg X.base
 kind:X.env.scope.kind=.function
 glob:X.env.globals=mainGlobals
 blt:X.env.builtins=builtinsNs
 above:X.s₀.heap.objs.size<=X.env.locals
 inj:∀x y c,X.env.cells.lookup x=some c->X.env.cells.lookup y=some c->x=y
 has:∀x,(X.env.kindOf x=some .cell\/X.env.kindOf x=some .free)->∃c,X.env.cells.lookup x=some c
 cab:∀x c,X.fn x=true->X.env.cells.lookup x=some c->X.s₀.heap.objs.size<=c
 hd:X.calm=true->X.A.handled=none
 frames:X.A.frames=some X.stack
 stk:X.stack=X.outer\/(X.stack=X.env :: X.outer/\X.env.frame=some X.env.locals)
 exf:∀b∈X.ex,b≠X.env.locals/\∀x c,X.env.cells.lookup x=some c->c≠b
 bs:∀b o,X.base.get? b=some o->X.s₀.heap.get? b=some o/\X.H₀ b=none
 bsz:X.base.objs.size<=X.s₀.heap.objs.size
 noex:∀b o,X.base.get? b=some o->b∉X.ex
 exfs:∀b∈X.ex,b∉X.fs
 funs:X.s₀.heap.FunFrames X.base X.outer
 frf:∀b∈X.fs,X.H₀ b=none
structure Inv (X:Cx) (pins:List (Addr × Obj)) (σ:List (Option V)) (H:Hp) (s:Shared):Prop where
 ok:X.Ok
 os:s.os=X.s₀.os
 bare:AllBare s.gens
 base:Un X.fs X.ex X.H₀ H X.s₀.heap s.heap
 loc:∃m,s.heap.Ns X.env.locals m/\∀(i:Nat) (x:Str) (v:V),X.N[i]?=some x->σ[i]?=some (some v)->Vis X.env.scope x->∃u,cD v u/\Zd X.env s.heap m x u
 cell:∀x c,X.env.cells.lookup x=some c->∃v,s.heap.IsCell c v
 free:H X.env.locals=none
 freeC:∀x c,X.env.cells.lookup x=some c->H c=none
 pin:∀p∈X.pn++pins,s.heap.get? p.1=some p.2/\H p.1=none/\p.1≠X.env.locals/\p.1∉X.fs/\∀v,p.2.data≠.cell v
 hok:HOk X.prog X.w H s.heap
 len:σ.length=X.N.length
section
variable {X:Cx} {pins:List (Addr × Obj)} {σ:List (Option V)} {H H':Hp} {s:Shared} {h':Heap}
theorem Cx.Ok.nofr (ok:X.Ok){b:Addr}{o:Obj}(e:X.base.get? b=some o):b∉X.fs:=fun hb=>by
 have:=(ok.funs.mem hb).1;rw[e] at this;cases this
theorem Inv.bs (I:Inv X pins σ H s):∀b o,X.base.get? b=some o->s.heap.get? b=some o/\H b=none:=fun b o e=>
 ⟨I.base.keep b o (I.ok.bs b o e).1 (I.ok.bs b o e).2 (I.ok.nofr e) (I.ok.noex b o e),I.base.free b o (I.ok.bs b o e).1 (I.ok.bs b o e).2 (I.ok.noex b o e)⟩
theorem Inv.bk (I:Inv X pins σ H s):∀b o,X.base.get? b=some o->s.heap.get? b=some o:=fun b o e=>(I.bs b o e).1
theorem Inv.mod (I:Inv X pins σ H s):Mod X.K X.mg X.base:=I.ok.mod
theorem Inv.kIn (I:Inv X pins σ H s):X.K.In s.heap:=I.ok.mod.kin.keeps I.bk
theorem Inv.lt (I:Inv X pins σ H s):X.env.locals < s.heap.objs.size:=let ⟨_,hn,_⟩:=I.loc;hn.lt
theorem Inv.sz (I:Inv X pins σ H s):X.s₀.heap.objs.size<=s.heap.objs.size:=Nat.le_trans I.ok.above (Nat.le_of_lt I.lt)
theorem Inv.nofs (I:Inv X pins σ H s){a:Addr}(h:s.heap.objs.size<=a):a∉X.fs:=fun hb=>by
 obtain⟨_,o,ho,_⟩:=I.ok.funs.mem hb;exact absurd (Nat.lt_of_lt_of_le (Heap.lt_size ho) (Nat.le_trans I.sz h)) (Nat.lt_irrefl _)
theorem Inv.cne (I:Inv X pins σ H s):∀x c,X.env.cells.lookup x=some c->c≠X.env.locals:=fun x c e z=>by
 obtain⟨v,o,ho,hd⟩:=I.cell x c e;obtain⟨m,⟨o',es,ep,ho',hd',_⟩,_⟩:=I.loc;rw[z,ho'] at ho;cases ho;rw[hd'] at hd;cases hd
theorem Inv.funs (I:Inv X pins σ H s):s.heap.FunFrames X.base X.outer:=by
 have all:∀(l:List Env),(∀b∈frs l,b∈X.fs)->X.s₀.heap.FunFrames X.base l->s.heap.FunFrames X.base l:=by
  intro l
  induction l with
  |nil=>intro _ _;trivial
  |cons env r ih=>
   intro hs hl;obtain⟨hk,⟨L,o,hf,hn,ho,hd⟩,hr⟩:=hl;have hL:L∈X.fs:=hs L (by unfold frs;rw[List.filterMap_cons,hf];exact List.mem_cons_self);obtain⟨sl,e⟩:=I.base.slot L o ho (I.ok.frf L hL) hL fun z=>I.ok.exfs L z hL;exact⟨hk,⟨L,_,hf,hn,e,hd⟩,ih (fun b hb=>hs b (by unfold frs;rw[List.filterMap_cons,hf];exact List.mem_cons_of_mem _ hb)) hr⟩
 exact all X.outer (fun _ hb=>hb) I.ok.funs
theorem Inv.stack (I:Inv X pins σ H s):s.heap.FunFrames X.base X.stack:=by
 rcases I.ok.stk with e | ⟨e,hf⟩
 ·rw[e];exact I.funs
 ·rw[e];obtain⟨m,hn,_⟩:=I.loc;refine .cons (by rw[I.ok.kind];decide) hf hn ?_ I.funs;exact Heap.get?_none_of_le (Nat.le_trans I.ok.bsz I.ok.above)
theorem Inv.stkSub (I:Inv X pins σ H s):∀b∈frs X.stack,b∈X.env.locals :: X.fs:=fun b hb=>by
 rcases I.ok.stk with e | ⟨e,hf⟩
 ·rw[e] at hb;exact List.mem_cons_of_mem _ hb
 ·rw[e] at hb;unfold frs at hb;rw[List.filterMap_cons,hf] at hb;exact hb
theorem Inv.stkFree (I:Inv X pins σ H s):∀b∈frs X.stack,H b=none:=fun b hb=>by
 rcases List.mem_cons.mp (I.stkSub b hb) with e | hb
 ·rw[e];exact I.free
 ·obtain⟨_,o,ho,_⟩:=I.ok.funs.mem hb;exact I.base.free b o ho (I.ok.frf b hb) fun z=>I.ok.exfs b z hb
theorem Inv.step {g':Array GenState}{t':Nat}{d':Drawn}{ch:List Addr}(I:Inv X pins σ H s)(hch:∀b∈ch,(b∈X.ex\/X.s₀.heap.objs.size<=b)/\b≠X.env.locals/\(∀x c,X.env.cells.lookup x=some c->c≠b)/\∀p∈X.pn++pins,p.1≠b)(keep:∀b o,b≠X.env.locals->b∉X.fs->b∉ch->s.heap.get? b=some o->H b=none->h'.get? b=some o)(slot:∀b o,b≠X.env.locals->b∈X.fs->b∉ch->s.heap.get? b=some o->H b=none->∃sl,h'.get? b=some { o with slots:=sl })(free:∀b o,b∉ch->s.heap.get? b=some o->H b=none->H' b=none)(there:∀b o,b∉ch->s.heap.get? b=some o->∃o',h'.get? b=some o')(tups:∀b xs,H b=some (.tup xs)->H' b=some (.tup xs))(frzs:∀b o u,H b=some (.frz o u)->H' b=some (.frz o u))(tbls:∀b ps,H b=some (.tbl ps)->∃more,H' b=some (.tbl (ps++more)))(ns:∀m,s.heap.Ns X.env.locals m->h'.Ns X.env.locals m)(hok:HOk X.prog X.w H' h')(hg:AllBare g') :
  Inv X pins σ H' { s with heap:=h',gens:=g',drawn:=d',toks:=t' }:=by
 have neL:∀b o,X.s₀.heap.get? b=some o->b≠X.env.locals:=fun b o e=>Nat.ne_of_lt (Nat.lt_of_lt_of_le (Heap.lt_size e) I.ok.above);have neC:∀b o,X.s₀.heap.get? b=some o->b∉X.ex->b∉ch:=fun b o e hx hb=>by
  rcases (hch b hb).1 with z | z
  ·exact hx z
  ·exact absurd (Nat.lt_of_lt_of_le (Heap.lt_size e) z) (Nat.lt_irrefl _)
 have cellK:∀x c,X.env.cells.lookup x=some c->∀v,s.heap.IsCell c v->h'.IsCell c v:=fun x c e v ⟨o,ho,hd⟩=>by
  have nch:c∉ch:=fun z=>(hch c z).2.2.1 x c e rfl
  by_cases hc:c∈X.fs
  ·obtain⟨sl,q⟩:=slot c o (I.cne x c e) hc nch ho (I.freeC x c e);exact⟨_,q,hd⟩
  ·exact⟨o,keep c o (I.cne x c e) hc nch ho (I.freeC x c e),hd⟩
 refine⟨I.ok,I.os,hg,⟨fun b o e n hb hx=>?_,fun b o e n hb hx=>?_,fun b o e n hx=>?_,fun b o e hx=>?_,fun b xs e=>tups b xs (I.base.tups b xs e),fun b o xs e=>frzs b o xs (I.base.frzs b o xs e),fun b ps e=>?_⟩,?_,fun x c e=>?_,?_,fun x c e=>?_,fun p hp=>?_,hok,I.len⟩
 ·exact keep b o (neL b o e) hb (neC b o e hx) (I.base.keep b o e n hb hx) (I.base.free b o e n hx)
 ·obtain⟨sl,e1⟩:=I.base.slot b o e n hb hx;obtain⟨sl',e2⟩:=slot b _ (neL b o e) hb (neC b o e hx) e1 (I.base.free b o e n hx);exact⟨sl',e2⟩
 ·obtain⟨o',e1⟩:=I.base.there b o e hx;exact free b o' (neC b o e hx) e1 (I.base.free b o e n hx)
 ·obtain⟨o',e1⟩:=I.base.there b o e hx;exact there b o' (neC b o e hx) e1
 ·obtain⟨m1,e1⟩:=I.base.tbls b ps e;obtain⟨m2,e2⟩:=tbls b _ e1;exact⟨m1++m2,by rw[e2,Array.append_assoc]⟩
 ·obtain⟨m,hn,hl⟩:=I.loc;refine⟨m,ns m hn,fun i x v e1 e2 e3=>?_⟩;obtain⟨u,r,l⟩:=hl i x v e1 e2 e3;refine⟨u,r,?_⟩;rcases l with l | ⟨k,c,e,z⟩
  ·exact .inl l
  ·exact .inr ⟨k,c,e,cellK x c e _ z⟩
 ·obtain⟨v,z⟩:=I.cell x c e;exact⟨v,cellK x c e v z⟩
 ·obtain⟨m,⟨o,_,_,ho,_⟩,_⟩:=I.loc;exact free _ o (fun z=>(hch _ z).2.1 rfl) ho I.free
 ·obtain⟨v,o,ho,hd⟩:=I.cell x c e;exact free c o (fun z=>(hch c z).2.2.1 x c e rfl) ho (I.freeC x c e)
 ·obtain⟨e,n,ne,nf,d⟩:=I.pin p hp;have nch:p.1∉ch:=fun z=>(hch p.1 z).2.2.2 p hp rfl;exact⟨keep p.1 p.2 ne nf nch e n,free p.1 p.2 nch e n,ne,nf,d⟩
theorem Inv.un {t':Nat}(I:Inv X pins σ H s)(u:Un X.fs [] H H' s.heap h')(hok:HOk X.prog X.w H' h'):Inv X pins σ H' { s with heap:=h',toks:=t' }:=by
 obtain⟨m,⟨o,es,ep,ho,r⟩,_⟩:=id I.loc;obtain⟨sl,hL⟩:=u.any ho I.free (by simp);exact I.step (g':=s.gens) (d':=s.drawn) (ch:=[]) (fun _ z=>nomatch z) (fun b o _ hb _ e n=>u.keep b o e n hb (by simp)) (fun b o _ hb _ e n=>u.slot b o e n hb (by simp)) (fun b o _ e n=>u.free b o e n (by simp)) (fun b o _ e=>u.there b o e (by simp)) u.tups u.frzs u.tbls (fun m' hm=>by
  obtain⟨o',es',ep',ho',r'⟩:=hm;rw[ho] at ho';cases ho';exact⟨_,es',ep',hL,r'⟩) hok I.bare
theorem Inv.call {g':Array GenState}{t':Nat}{d':Drawn}{ch:List Addr}(I:Inv X pins σ H s)(u:Un (frs X.stack) ch H H' s.heap h')(hok:HOk X.prog X.w H' h')(hg:AllBare g')(hch:∀b∈ch,(b∈X.ex\/X.s₀.heap.objs.size<=b)/\b≠X.env.locals/\(∀x c,X.env.cells.lookup x=some c->c≠b)/\∀p∈X.pn++pins,p.1≠b) :
  Inv X pins σ H' { s with heap:=h',gens:=g',drawn:=d',toks:=t' }:=by
 obtain⟨m,⟨o,es,ep,ho,r⟩,_⟩:=id I.loc;obtain⟨sl,hL⟩:=u.any ho I.free fun z=>(hch _ z).2.1 rfl;exact I.step (ch:=ch) hch (fun b o hL hb hc e n=>u.keep b o e n (fun z=>(List.mem_cons.mp (I.stkSub b z)).elim hL hb) hc) (fun b o _ _ hc e n=>u.any e n hc) (fun b o hc e n=>u.free b o e n hc) (fun b o hc e=>u.there b o e hc) u.tups u.frzs u.tbls (fun m' hm=>by
  obtain⟨o',es',ep',ho',r'⟩:=hm;rw[ho] at ho';cases ho';exact⟨_,es',ep',hL,r'⟩) hok hg
theorem Inv.turned {t':Nat}{it:Addr}(I:Inv X pins σ H s)(k:∀b o,b≠it->s.heap.get? b=some o->h'.get? b=some o)(hn:H it=none)(hL:it≠X.env.locals)(h1:it∈X.ex\/X.s₀.heap.objs.size<=it)(h2:∀x c,X.env.cells.lookup x=some c->c≠it)(h3:∀p∈X.pn++pins,p.1≠it):Inv X pins σ H { s with heap:=h',toks:=t' }:=by
 have nit:∀b u,H b=some u->b≠it:=fun b u e z=>by rw[z,hn] at e;cases e
 refine I.step (g':=s.gens) (d':=s.drawn) (ch:=[it]) (fun b hb=>?_) (fun b o _ _ hc e _=>k b o (fun z=>hc (by simp[z])) e) (fun b o _ _ hc e _=>⟨o.slots,k b o (fun z=>hc (by simp[z])) e⟩) (fun _ _ _ _ n=>n)
  (fun b o hc e=>⟨o,k b o (fun z=>hc (by simp[z])) e⟩) (fun _ _ e=>e) (fun _ _ _ e=>e) (fun b ps e=>⟨#[],by rw[e];simp⟩) (fun m hm=>?_) (fun b u e=>?_) I.bare
 ·have e:b=it:=by simpa using hb
  subst e;exact⟨h1,hL,h2,h3⟩
 ·obtain⟨o,es,ep,ho,r⟩:=hm;exact⟨o,es,ep,k _ o (Ne.symm hL) ho,r⟩
 ·refine(I.hok b u e).stay (fun c v hc q=>k c v ?_ q) (fun _ q=>q) fun _ _ q=>q;rcases hc with z | z
  ·rw[z];exact nit b u e
  ·exact nit c _ z
theorem Inv.tok (I:Inv X pins σ H s)(t:Nat):Inv X pins σ H { s with toks:=t }:=I.un (h':=s.heap) (t':=t) Un.refl I.hok
theorem Inv.kept {t':Nat}(I:Inv X pins σ H s)(k:∀b u,s.heap.get? b=some u->h'.get? b=some u):Inv X pins σ H { s with heap:=h',toks:=t' }:=I.un (Un.kept k) (I.hok.kept k)
theorem Inv.laid {a:Addr}{o:HO}{t':Nat}(I:Inv X pins σ H s)(k:∀b u,s.heap.get? b=some u->h'.get? b=some u)(hp:s.heap.objs.size<=a)(new:dQ X.prog X.w (upd H a o) h' a o) :
  Inv X pins σ (upd H a o) { s with heap:=h',toks:=t' }:=I.un (Un.laid k hp (I.hok.fresh hp)) (I.hok.laid k hp new)
theorem Inv.write {x e:Addr}{o:HO}{t':Nat}(I:Inv X pins σ H s)(mu:Mut (H x))(he:e=x\/H e=some (.own x))(k:∀b u,b≠e->s.heap.get? b=some u->h'.get? b=some u)(heo:∃u,h'.get? e=some u)(new:dQ X.prog X.w (upd H x o) h' x o):Inv X pins σ (upd H x o) { s with heap:=h',toks:=t' }:=I.un (Un.write mu he k heo) (I.hok.write mu he k heo new)
theorem Inv.weak {σ':List (Option V)}(I:Inv X pins σ H s)(hl:σ'.length=σ.length)(w:∀(i:Nat) v,σ'[i]?=some (some v)->σ[i]?=some (some v)):Inv X pins σ' H s:=
 ⟨I.ok,I.os,I.bare,I.base,let ⟨m,hn,hl'⟩:=I.loc;⟨m,hn,fun i x v e1 e2 e3=>hl' i x v e1 (w i v e2) e3⟩,I.cell,I.free,I.freeC,I.pin,I.hok,hl.trans I.len⟩
theorem Inv.pins_of {pins':List (Addr × Obj)}(I:Inv X pins σ H s)(h:∀p∈pins',s.heap.get? p.1=some p.2/\H p.1=none/\p.1≠X.env.locals/\p.1∉X.fs/\∀v,p.2.data≠.cell v):Inv X pins' σ H s:=
 ⟨I.ok,I.os,I.bare,I.base,I.loc,I.cell,I.free,I.freeC,fun p hp=>(List.mem_append.mp hp).elim (fun z=>I.pin p (List.mem_append_left _ z)) (h p),I.hok,I.len⟩
theorem Av {N:List Str}(hN:N.Nodup){i j:Nat}{x:Str}(a:N[i]?=some x)(b:N[j]?=some x):i=j:=by
 obtain⟨h1,e1⟩:=List.getElem?_eq_some_iff.mp a;obtain⟨h2,e2⟩:=List.getElem?_eq_some_iff.mp b;exact(List.getElem_inj hN).mp (e1.trans e2.symm)
theorem uV {M:Model}{A:Around}{E:Value->Shared->Prop}{i:Nat}{x:Str}{v:V}{u:Value}{Q:Unit->Shared->Prop}(I:Inv X pins σ H s)(hN:X.N.Nodup)(hi:X.N[i]?=some x)(hx:Loc X.env.scope x)(r:cD v u)(h:∀s',Inv X pins (σ.set i (some v)) H s'->(∃a,Heap.SameBut a s.heap s'.heap/\(a=X.env.locals\/X.env.cells.lookup x=some a))->Q () s')(hf:X.fn x=true\/X.env.scope.names.lookup x=some .local:=by first | exact .inl rfl | exact .inr rfl | assumption):wpAny M A (storeName X.env x u) Q E s:=by
 obtain⟨m,hn,hl⟩:=id I.loc;have hcls:(X.env.scope.kind == .class || (X.env.scope.kind == .module && X.env.locals != X.env.globals))=false:=by rw[I.ok.kind];rfl
 have hiσ:i < σ.length:=by rw[I.len];exact(List.getElem?_eq_some_iff.mp hi).1
 have cne:=I.cne;have tracked:∀{a:Addr} {h':Heap},(∃o,s.heap.get? a=some o/\H a=none)->Heap.SameBut a s.heap h'->HOk X.prog X.w H h':=fun {a h'} ha hs b ob e=>by
  obtain⟨_,_,hfree⟩:=ha;refine(I.hok b ob e).stay (fun c w' hc q=>(hs.2 c ?_).trans q) (fun _ q=>q) fun _ _ q=>q;rintro rfl;rcases hc with rfl | hc
  ·rw[hfree] at e;cases e
  ·rw[hfree] at hc;cases hc
 rcases hx with hk | hk
 ·refine wpAny_storeName_local hk hn (fun h' hn' hs=>?_) hcls;obtain⟨oL,_,_,hoL,_⟩:=id hn;refine h _ ⟨I.ok,I.os,I.bare,⟨fun b o e n hb hx=>?_,fun b o e n hb hx=>?_,I.base.free,fun b o e hx=>?_,I.base.tups,I.base.frzs,I.base.tbls⟩,⟨_,hn',fun j y v' e1 e2 e3=>?_⟩,fun y c e=>?_,I.free,I.freeC,fun p hp=>?_,tracked ⟨oL,hoL,I.free⟩ hs,by simpa using I.len⟩ ⟨_,hs,.inl rfl⟩
  ·exact(hs.2 b (Nat.ne_of_lt (Nat.lt_of_lt_of_le (Heap.lt_size e) I.ok.above))).trans (I.base.keep b o e n hb hx)
  ·obtain⟨sl,e1⟩:=I.base.slot b o e n hb hx;exact⟨sl,(hs.2 b (Nat.ne_of_lt (Nat.lt_of_lt_of_le (Heap.lt_size e) I.ok.above))).trans e1⟩
  ·obtain⟨o',e1⟩:=I.base.there b o e hx;exact⟨o',(hs.2 b (Nat.ne_of_lt (Nat.lt_of_lt_of_le (Heap.lt_size e) I.ok.above))).trans e1⟩
  ·by_cases hj:j=i
   ·subst hj;rw[hi] at e1;cases e1;rw[List.getElem?_set_self hiσ] at e2
    cases e2
    exact⟨u,r,.inl ⟨hk,by simp⟩⟩
   ·rw[List.getElem?_set_ne (Ne.symm hj)] at e2;obtain⟨u',r',q⟩:=hl j y v' e1 e2 e3;refine⟨u',r',?_⟩;rcases q with ⟨k,e⟩ | ⟨k,c,e,z⟩
    ·refine .inl ⟨k,?_⟩;have:y≠x:=fun e=>hj (Av hN e1 (e ▸ hi));simp[this,e]
    ·exact .inr ⟨k,c,e,z.sameBut hs (cne y c e)⟩
  ·obtain⟨w',z⟩:=I.cell y c e;exact⟨w',z.sameBut hs (cne y c e)⟩
  ·obtain⟨e,n,ne,nf,d⟩:=I.pin p hp;exact⟨(hs.2 p.1 ne).trans e,n,ne,nf,d⟩
 ·have hfn:X.fn x=true:=by
   rcases hf with z | z
   ·exact z
   ·rw[z] at hk;cases hk
  obtain⟨c,hc⟩:=I.ok.has x (.inl hk);obtain⟨w',z⟩:=I.cell x c hc;refine wpAny_storeName_cell I.ok.kind hk hc z (fun h' hc' hs=>?_);obtain⟨oc,hoc,hocd⟩:=id z;refine h { s with heap:=h' } ⟨I.ok,I.os,I.bare,⟨fun b o e n hb hx=>?_,fun b o e n hb hx=>?_,I.base.free,fun b o e hx=>?_,I.base.tups,I.base.frzs,I.base.tbls⟩,⟨m,hn.sameBut hs (Ne.symm (cne x c hc)),fun j y v' e1 e2 e3=>?_⟩,fun y c' e=>?_,I.free,I.freeC,fun p hp=>?_,tracked ⟨oc,hoc,I.freeC x c hc⟩ hs,by simpa using I.len⟩ ⟨c,hs,.inr hc⟩
  ·exact(hs.2 b (Nat.ne_of_lt (Nat.lt_of_lt_of_le (Heap.lt_size e) (I.ok.cab x c hfn hc)))).trans (I.base.keep b o e n hb hx)
  ·obtain⟨sl,e1⟩:=I.base.slot b o e n hb hx;exact⟨sl,(hs.2 b (Nat.ne_of_lt (Nat.lt_of_lt_of_le (Heap.lt_size e) (I.ok.cab x c hfn hc)))).trans e1⟩
  ·obtain⟨o',e1⟩:=I.base.there b o e hx;exact⟨o',(hs.2 b (Nat.ne_of_lt (Nat.lt_of_lt_of_le (Heap.lt_size e) (I.ok.cab x c hfn hc)))).trans e1⟩
  ·by_cases hj:j=i
   ·subst hj;rw[hi] at e1;cases e1;rw[List.getElem?_set_self hiσ] at e2
    cases e2
    exact⟨u,r,.inr ⟨.inl hk,c,hc,hc'⟩⟩
   ·rw[List.getElem?_set_ne (Ne.symm hj)] at e2;obtain⟨u',r',q⟩:=hl j y v' e1 e2 e3;refine⟨u',r',?_⟩;rcases q with q | ⟨k,c',e,z'⟩
    ·exact .inl q
    ·refine .inr ⟨k,c',e,z'.sameBut hs ?_⟩;rintro rfl;exact hj (Av hN e1 (I.ok.inj _ _ _ e hc ▸ hi))
  ·by_cases hcc:c'=c
   ·subst hcc;exact⟨_,hc'⟩
   ·obtain⟨w2,z2⟩:=I.cell y c' e;exact⟨w2,z2.sameBut hs hcc⟩
  ·obtain⟨e,n,ne,nf,d⟩:=I.pin p hp;refine⟨(hs.2 p.1 ?_).trans e,n,ne,nf,d⟩;intro q;rw[q,hoc] at e;have q':oc=p.2:=Option.some.inj e;exact d w' (by rw[<- q'];exact hocd)
theorem kT {M:Model}{A:Around}{E:Value->Shared->Prop}{i:Nat}{x:Str}{v:V}{u:Value}{Q:Unit->Shared->Prop}(I:Inv X pins σ H s)(hN:X.N.Nodup)(hi:X.N[i]?=some x)(hx:Loc X.env.scope x)(r:cD v u)(h:∀s',Inv X pins (σ.set i (some v)) H s'->Q () s')(hf:X.fn x=true\/X.env.scope.names.lookup x=some .local:=by first | exact .inl rfl | exact .inr rfl | assumption):wpAny M A (storeName X.env x u) Q E s:=
 uV I hN hi hx r (fun s' I' _=>h s' I') hf
theorem Inv.call' {s':Shared}{ch:List Addr}(I:Inv X pins σ H s)(ho:s'.os=s.os)(u:Un (frs X.stack) ch H H' s.heap s'.heap)(hok:HOk X.prog X.w H' s'.heap)(hg:AllBare s'.gens)(hch:∀b∈ch,(b∈X.ex\/X.s₀.heap.objs.size<=b)/\b≠X.env.locals/\(∀x c,X.env.cells.lookup x=some c->c≠b)/\∀p∈X.pn++pins,p.1≠b):Inv X pins σ H' s':=by
 obtain⟨h',g',d',t',o'⟩:=s';have e:o'=s.os:=ho;subst e;exact I.call (g':=g') (t':=t') (d':=d') u hok hg hch
end
abbrev XK:=Value->Option Addr->Hp->Prop
abbrev St:=List (Option V)
abbrev VK:=V->Hp->Prop
abbrev TE:=St->Hp->VK->Prop
abbrev TT:=St->Hp->(Bool->Hp->Prop)->Prop
abbrev TA:=St->Hp->(List V->Hp->Prop)->Prop
structure mF where
 nx:St->Hp->Prop
 rt:VK
 bk:St->Hp->Prop:=fun _ _=>False
 ct:St->Hp->Prop:=fun _ _=>False
abbrev TS:=mF->St->Hp->Prop
def EP (X:Cx)(pins:List (Addr × Obj))(σ:St)(Q:VK)(u:Value)(s':Shared):Prop:=∃v H',Inv X pins σ H' s'/\cD v u/\Q v H'
def TP (X:Cx)(pins:List (Addr × Obj))(σ:St)(Q:Bool->Hp->Prop)(b:Bool)(s':Shared):Prop:=∃H',Inv X pins σ H' s'/\Q b H'
def AP (X:Cx)(pins:List (Addr × Obj))(σ:St)(Q:List V->Hp->Prop)(us:List Value)(s':Shared):Prop:=∃vs H',Inv X pins σ H' s'/\bY vs us/\Q vs H'
def SP (X:Cx)(pins:List (Addr × Obj))(D:mF)(f:Flow)(s':Shared):Prop:=
 match f with
 | .next=>∃σ' H',Inv X pins σ' H' s'/\D.nx σ' H'
 | .brk=>∃σ' H',Inv X pins σ' H' s'/\D.bk σ' H'
 | .cont=>∃σ' H',Inv X pins σ' H' s'/\D.ct σ' H'
 | .ret u=>∃v σ' H',Inv X pins σ' H' s'/\cD v u/\D.rt v H'
def PE (X:Cx)(e:Expr)(t:TE):Prop:=
 ∀(pins:List (Addr × Obj)) (s:Shared) (σ:St) (H:Hp) (Q:VK),Inv X pins σ H s->t σ H Q->wpAny (model X.prog X.w) X.A (eval e X.env) (EP X pins σ Q) X.xe s
def PT (X:Cx)(e:Expr)(t:TT):Prop:=
 ∀(pins:List (Addr × Obj)) (s:Shared) (σ:St) (H:Hp) (Q:Bool->Hp->Prop),Inv X pins σ H s->t σ H Q->wpAny (model X.prog X.w) X.A (isTrue e X.env (eval e X.env)) (TP X pins σ Q) X.xe s
def PW (X:Cx)(e:Expr)(t:TT):Prop:=
 ∀(whole:Sem Value) (pins:List (Addr × Obj)) (s:Shared) (σ:St) (H:Hp) (Q:Bool->Hp->Prop),Inv X pins σ H s->t σ H Q->wpAny (model X.prog X.w) X.A (isTrue e X.env whole) (TP X pins σ Q) X.xe s
theorem PW.pt {X:Cx}{e:Expr}{t:TT}(h:PW X e t):PT X e t:=h _
def PA (X:Cx)(es:List Expr)(t:TA):Prop:=
 ∀(pos:Pos) (pins:List (Addr × Obj)) (s:Shared) (σ:St) (H:Hp) (Q:List V->Hp->Prop),Inv X pins σ H s->t σ H Q->wpAny (model X.prog X.w) X.A (spliced (backTo pos (starEach es X.env))) (AP X pins σ Q) X.xe s
def PS (X:Cx)(st:Stmt)(t:TS):Prop:=
 ∀(pins:List (Addr × Obj)) (s:Shared) (σ:St) (H:Hp) (D:mF),Inv X pins σ H s->t D σ H->wpAny (model X.prog X.w) X.A (exec st X.env) (SP X pins D) X.xe s
def PSs (X:Cx)(st:List Stmt)(t:TS):Prop:=
 ∀(pins:List (Addr × Obj)) (s:Shared) (σ:St) (H:Hp) (D:mF),Inv X pins σ H s->t D σ H->wpAny (model X.prog X.w) X.A (execs st X.env) (SP X pins D) X.xe s
theorem thn {α:Type}{t:Sem α}{Q Q':α->Shared->Prop}{M:Model}{A:Around}{E:Value->Shared->Prop}{s:Shared}(h:wpAny M A t Q E s)(hQ:∀a s,Q a s->Q' a s):wpAny M A t Q' E s:=wpAny_mono h hQ fun _ _ x=>x
section
variable {X:Cx}
def Qb (i:Nat):TE:=fun σ H Q=>∃v,σ[i]?=some (some v)/\Q v H
def tC (v:V):TE:=fun _ H Q=>Q v H
theorem Mb {i:Nat}{x:Str}{pos:Pos}(hN:X.N[i]?=some x)(hv:Vis X.env.scope x)(hd:(x == ("__debug__":Str))=false:=by decide)(hcd:(x == ("__classdict__":Str))=false:=by decide):PE X (.Name x pos) (Qb i):=by
 intro pins s σ H Q I h;obtain⟨v,e,h⟩:=h;obtain⟨m,hn,hl⟩:=I.loc;obtain⟨u,r,l⟩:=hl i x v hN e hv;have fin:EP X pins σ Q u s:=⟨v,H,I,r,h⟩
 rcases l with ⟨hk,hm⟩ | ⟨hk,c,hc,hcell⟩
 ·exact wpAny_Name (wpAny_loadName_local I.ok.kind hk hn hm fin) hd
 ·rcases hk with hk | hk
  ·exact wpAny_Name (wpAny_loadName_cell I.ok.kind hk hc hcell fin) hd
  ·exact wpAny_Name (wpAny_loadName_free I.ok.kind hk hc hcell fin hcd) hd
theorem aF {i j pos}:PE X (.Constant (.int i) j pos) (tC (.int i)):=fun _ _ _ H _ I h=>wpAny_Constant_int ⟨.int i,H,I.tok _,⟨_,rfl⟩,h⟩
theorem iQ {b j pos}:PE X (.Constant (.bool b) j pos) (tC (.bl b)):=fun _ _ _ H _ I h=>Constant_bool ⟨.bl b,H,I,rfl,h⟩
theorem Ts {j pos}:PE X (.Constant .none j pos) (tC .non):=fun _ _ _ H _ I h=>Constant_none ⟨.non,H,I,rfl,h⟩
theorem cF {x j pos}:PE X (.Constant (.str x) j pos) (tC (.str x)):=fun _ _ _ H _ I h=>Calls.Constant_str ⟨.str x,H,I.tok _,⟨_,rfl⟩,h⟩
def Gl (X:Cx)(x:Str):Prop:=X.env.kindOf x=some .globalImplicit
theorem yD {E:Value->Shared->Prop}{pins:List (Addr × Obj)}{s:Shared}{σ:St}{H:Hp}{x:Str}{u:Value}{pos:Pos}{Q:Value->Shared->Prop}(I:Inv X pins σ H s)(hg:Gl X x)(hm:X.mg x=some u)(h:Q u s)(hd:(x == ("__debug__":Str))=false:=by decide):wpAny (model X.prog X.w) X.A (eval (.Name x pos) X.env) Q E s:=
 Calls.Name_function_global I.ok.kind hg (Calls.loadGlobal_global (by rw[I.ok.glob];exact I.mod.glob.keeps I.bk) hm h) hd
theorem jY {E:Value->Shared->Prop}{pins:List (Addr × Obj)}{s:Shared}{σ:St}{H:Hp}{x:Str}{u:Value}{pos:Pos}{Q:Value->Shared->Prop}(I:Inv X pins σ H s)(hg:Gl X x)(hm:X.mg x=none)(hv:bootBuiltins x=some u)(h:Q u s)(hn:x≠"__name__":=by decide)(hd:(x == ("__debug__":Str))=false:=by decide):wpAny (model X.prog X.w) X.A (eval (.Name x pos) X.env) Q E s:=by
 obtain⟨mb,h1,h2⟩:=I.mod.blt;exact Calls.Name_function_global I.ok.kind hg (Calls.loadGlobal_builtin (by rw[I.ok.glob];exact I.mod.glob.keeps I.bk) hm (by rw[I.ok.blt];exact h1.keeps I.bk) ((h2 x hn).trans hv) h) hd
theorem dB {x:Str}{v:V}{u:Value}{pos:Pos}(hg:Gl X x)(hm:X.mg x=some u)(r:cD v u)(hd:(x == ("__debug__":Str))=false:=by decide):PE X (.Name x pos) (tC v):=
 fun _ _ _ H _ I h=>yD I hg hm ⟨v,H,I,r,h⟩ hd
theorem Qk {x:Str}{v:V}{u:Value}{pos:Pos}(hg:Gl X x)(hm:X.mg x=none)(hv:bootBuiltins x=some u)(r:cD v u)(hn:x≠"__name__":=by decide)(hd:(x == ("__debug__":Str))=false:=by decide):PE X (.Name x pos) (tC v):=
 fun _ _ _ H _ I h=>jY I hg hm hv ⟨v,H,I,r,h⟩ hn hd
variable {a b:Expr} {ta tb:TE} {pos:Pos}
def PC (X:Cx)(op:CmpOp)(a b:Expr)(t:TE):Prop:=
 ∀(pins:List (Addr × Obj)) (s:Shared) (σ:St) (H:Hp) (Q:VK),Inv X pins σ H s->t σ H Q->
  wpAny (model X.prog X.w) X.A (eval a X.env) (fun v s₁=>wpAny (model X.prog X.w) X.A (eval b X.env) (fun u s₂=>wpAny (model X.prog X.w) X.A (compareOp op v u) (EP X pins σ Q) X.xe s₂) X.xe s₁) X.xe s
theorem Jf (b:Expr){op:CmpOp}(h:op≠.In)(h2:op≠.NotIn):behindInMarks op b=false:=by
 have e1:(op == CmpOp.In)=false:=by cases op<;>first | rfl | exact absurd rfl h
 have e2:(op == CmpOp.NotIn)=false:=by cases op<;>first | rfl | exact absurd rfl h2
 cases b<;>simp[behindInMarks,e1,e2]
def Ze (ta:TE):TE:=fun σ H Q=>ta σ H fun x H1=>Q (.bl (decide (x=.non))) H1
theorem cD.none_iff {x:V}{v:Value}(r:cD x v):(v == Value.none)=decide (x=.non):=by
 cases x with
 |non=>cases r;rfl
 |bl _=>cases r;rfl
 |int _=>obtain⟨t,rfl⟩:=r;rfl
 |str _=>obtain⟨t,rfl⟩:=r;rfl
 |byt _=>obtain⟨t,rfl⟩:=r;rfl
 |flt _=>obtain⟨t,rfl⟩:=r;rfl
 |ref _=>cases r;rfl
 |ty _=>cases r;rfl
theorem Bw {j pos'}(ha:PE X a ta):PC X .Is a (.Constant .none j pos') (Ze ta):=by
 intro pins s σ H Q I h;refine thn (ha pins s σ H _ I h) fun v s1 ⟨x,H1,I1,r1,q1⟩=>?_;exact Constant_none (is_none_gen ⟨.bl _,H1,I1,by rw[r1.none_iff];rfl,q1⟩)
def tB (t:TE):TT:=fun σ H Q=>t σ H fun x H1=>∃c,x=.bl c/\Q c H1
theorem yV {op:CmpOp}{t:TE}(h:PC X op a b t)(h1:behindInMarks op b=false:=by first | exact Jf _ (by decide) (by decide) | rfl):PT X (.Compare a [op] [b] pos) (tB t):=by
 intro pins s σ H Q I hw;refine wpAny_isTrue_Compare1 (thn (h pins s σ H _ I hw) fun v s1 h1=>thn h1 fun u s2 h2=>thn h2 fun c s3 ⟨x,H1,I1,r1,q1⟩=>?_) h1;obtain⟨d,rfl,q⟩:=q1
 cases r1
 exact wpAny_truthy_bool ⟨H1,I1,q⟩
theorem eO {e:Expr}{t:TE}(h:PE X e t)(he:∀whole,isTrue e X.env whole=(do let v <- whole;standAt e.pos;holding [v] (truthy v)):=by intro _;rfl):PT X e (tB t):=by
 intro pins s σ H Q I hw;refine isTrue_plain (thn (h pins s σ H _ I hw) fun v s1 ⟨x,H1,I1,r1,q1⟩=>?_) (he _);obtain⟨d,rfl,q⟩:=q1
 cases r1
 exact wpAny_truthy_bool ⟨H1,I1,q⟩
variable {tA tB':TT} {rest:List Expr}
def Ym (t u:TT):TT:=fun σ H Q=>t σ H fun c H1=>if c=true then u σ H1 Q else Q false H1
def tOr (t u:TT):TT:=fun σ H Q=>t σ H fun c H1=>if c=true then Q true H1 else u σ H1 Q
def Za (t:TT):TT:=fun σ H Q=>t σ H fun c H1=>Q (!c) H1
theorem oB (ha:PT X a tA):PW X (.BoolOp .And [a] pos) tA:=by
 intro wh pins s σ H Q I h;refine isTrue_and (thn (ha pins s σ H Q I h) fun c s1 e=>?_)
 cases c with
 |true=>exact isTrue_and_nil e
 |false=>exact e
theorem mU (ha:PT X a tA):PW X (.BoolOp .Or [a] pos) tA:=by
 intro wh pins s σ H Q I h;refine isTrue_or (thn (ha pins s σ H Q I h) fun c s1 e=>?_)
 cases c with
 |false=>exact isTrue_or_nil e
 |true=>exact e
theorem uK (ha:PT X a tA)(hb:PW X (.BoolOp .And (b :: rest) pos) tB'):PW X (.BoolOp .And (a :: b :: rest) pos) (Ym tA tB'):=by
 intro wh pins s σ H Q I h;refine isTrue_and (thn (ha pins s σ H _ I h) fun c s1 ⟨H1,I1,q1⟩=>?_)
 cases c with
 |true=>exact hb wh pins s1 σ H1 Q I1 q1
 |false=>exact⟨H1,I1,q1⟩
theorem mP (ha:PT X a tA)(hb:PW X (.BoolOp .Or (b :: rest) pos) tB'):PW X (.BoolOp .Or (a :: b :: rest) pos) (tOr tA tB'):=by
 intro wh pins s σ H Q I h;refine isTrue_or (thn (ha pins s σ H _ I h) fun c s1 ⟨H1,I1,q1⟩=>?_)
 cases c with
 |true=>exact⟨H1,I1,q1⟩
 |false=>exact hb wh pins s1 σ H1 Q I1 q1
theorem gC (ha:PT X a tA):PT X (.UnaryOp .Not a pos) (Za tA):=by
 intro pins s σ H Q I h;exact isTrue_not (ha pins s σ H (fun c H1=>Q (!c) H1) I h)
def Xj (ta tb:TE):TE:=fun σ H Q=>ta σ H fun x H1=>∃c,x=.bl c/\if c=true then tb σ H1 Q else Q (.bl false) H1
def Wc (ta:TE):TE:=fun σ H Q=>ta σ H fun x H1=>∃c,x=.bl c/\Q (.bl (!c)) H1
theorem uH {op}{t:TE}(h:PE X a t):PE X (.BoolOp op [a] pos) t:=fun pins s σ H Q I hw=>BoolOp_one (h pins s σ H Q I hw)
theorem pO (ha:PE X a ta)(hb:PE X (.BoolOp .And (b :: rest) pos) tb):PE X (.BoolOp .And (a :: b :: rest) pos) (Xj ta tb):=by
 intro pins s σ H Q I h;refine BoolOp_and (thn (ha pins s σ H _ I h) fun v s1 ⟨x,H1,I1,r1,q1⟩=>?_);obtain⟨c,rfl,q1⟩:=q1
 cases r1
 refine wpAny_truthy_bool ?_
 cases c with
 |true=>exact hb pins s1 σ H1 Q I1 q1
 |false=>exact⟨.bl false,H1,I1,rfl,q1⟩
theorem Sy (ha:PE X a ta):PE X (.UnaryOp .Not a pos) (Wc ta):=by
 intro pins s σ H Q I h;refine UnaryOp_ (thn (ha pins s σ H _ I h) fun v s1 ⟨x,H1,I1,r1,q1⟩=>?_);obtain⟨c,rfl,q1⟩:=q1
 cases r1
 exact not_of (wpAny_truthy_bool ⟨.bl (!c),H1,I1,rfl,q1⟩)
def tIf (t:TT)(ta tb:TE):TE:=fun σ H Q=>t σ H fun c H1=>if c=true then ta σ H1 Q else tb σ H1 Q
theorem oV {c:Expr}(hc:PT X c tA)(ha:PE X a ta)(hb:PE X b tb):PE X (.IfExp c a b pos) (tIf tA ta tb):=by
 intro pins s σ H Q I h;refine wpAny_IfExp (thn (hc pins s σ H _ I h) fun d s1 ⟨H1,I1,q1⟩=>?_)
 cases d with
 |true=>exact ha pins s1 σ H1 Q I1 q1
 |false=>exact hb pins s1 σ H1 Q I1 q1
end
def SqL (K:PySem.W.Frag)(H:Hp)(a:Addr)(xs:List V):Prop:=
 Rd H a (.lst xs)\/
  ∃(o:Obj) (its:Array Value) (n:Nat),K.lookup a=some o/\o.cls=.type "list"/\o.dict=none/\o.data=.seq its n/\its.size<=sizeLine/\bY xs its.toList
def SqT (K:PySem.W.Frag)(H:Hp)(a:Addr)(xs:List V):Prop:=
 Rd H a (.tup xs)\/
  ∃(o:Obj) (its:Array Value) (n:Nat),K.lookup a=some o/\o.cls=.type "tuple"/\o.data=.seq its n/\its.size<=sizeLine/\bY xs its.toList
def Zh:Value->Option V
 | .none=>some .non
 | .bool b=>some (.bl b)
 | .int i _=>some (.int i)
 | .str x _=>some (.str x)
 | .bytes b _=>some (.byt b)
 | .float b _=>some (.flt b)
 | .ref a=>some (.ref a)
 | .type n=>some (.ty n)
 |_=>none
theorem cD.abs {x:V}{u:Value}(r:cD x u):Zh u=some x:=by
 cases x with
 |non=>cases r;rfl
 |bl _=>cases r;rfl
 |int _=>obtain⟨t,rfl⟩:=r;rfl
 |str _=>obtain⟨t,rfl⟩:=r;rfl
 |byt _=>obtain⟨t,rfl⟩:=r;rfl
 |flt _=>obtain⟨t,rfl⟩:=r;rfl
 |ref _=>cases r;rfl
 |ty _=>cases r;rfl
theorem cD.inj {x y:V}{u:Value}(r:cD x u)(q:cD y u):x=y:=Option.some.inj (r.abs.symm.trans q.abs)
theorem bY.inj:∀{xs ys:List V} {us:List Value},bY xs us->bY ys us->xs=ys
 |_,_,_,.nil,.nil=>rfl
 |_,_,_,.cons r t,.cons r' t'=>by rw[r.inj r',bY.inj t t']
section
variable {X:Cx} {pins:List (Addr × Obj)} {σ:St} {H:Hp} {s:Shared} {a:Addr} {xs ys:List V}
theorem SqL.of {K:PySem.W.Frag}(h:H a=some (.lst xs)):SqL K H a xs:=.inl (.inl h)
theorem SqT.of {K:PySem.W.Frag}(h:H a=some (.tup xs)):SqT K H a xs:=.inl (.inl h)
theorem Inv.list (I:Inv X pins σ H s)(h:SqL X.K H a xs):∃its:List Value,bY xs its/\PlainL s.heap a its.toArray/\xs.length<=sizeLine:=by
 rcases h with h | ⟨o,its,n,hk,hc,hd,hs,hz,r⟩
 ·obtain⟨z,its,n,r,e⟩:=h.ok I.hok;exact⟨its,r,⟨_,n,e,rfl,rfl,rfl⟩,z⟩
 ·refine⟨its.toList,r,⟨o,n,I.kIn a o hk,hc,hd,by simpa using hs⟩,?_⟩;have e:=r.length;simp only[Array.length_toList] at e;omega
theorem Inv.tuple (I:Inv X pins σ H s)(h:SqT X.K H a xs):∃its:List Value,bY xs its/\IsTup s.heap a its.toArray/\xs.length<=sizeLine:=by
 rcases h with h | ⟨o,its,n,hk,hc,hs,hz,r⟩
 ·obtain⟨z,its,r,p⟩:=h.ok I.hok;exact⟨its,r,p,z⟩
 ·refine⟨its.toList,r,⟨o,I.kIn a o hk,hc,n,by simpa using hs⟩,?_⟩;have e:=r.length;simp only[Array.length_toList] at e;omega
theorem Inv.list_inj (I:Inv X pins σ H s)(h:SqL X.K H a xs)(h':SqL X.K H a ys):xs=ys:=by
 obtain⟨its,r,⟨o,n,e,_,_,d⟩,_⟩:=I.list h;obtain⟨its',r',⟨o',n',e',_,_,d'⟩,_⟩:=I.list h';rw[e] at e';cases e';rw[d] at d';injection d' with d1 _
 have:its=its':=by simpa using congrArg Array.toList d1
 subst this;exact r.inj r'
theorem Inv.tuple_inj (I:Inv X pins σ H s)(h:SqT X.K H a xs)(h':SqT X.K H a ys):xs=ys:=by
 obtain⟨its,r,⟨o,e,_,n,d⟩,_⟩:=I.tuple h;obtain⟨its',r',⟨o',e',_,n',d'⟩,_⟩:=I.tuple h';rw[e] at e';cases e';rw[d] at d';injection d' with d1 _
 have:its=its':=by simpa using congrArg Array.toList d1
 subst this;exact r.inj r'
end
abbrev Cx.wish (X:Cx)(E:Value->Shared->Prop):Cx:={ X with xe:=E }
abbrev Cx.nox (X:Cx):Cx:=X.wish fun _ _=>False
theorem Cx.Ok.wish {X:Cx}(ok:X.Ok)(E:Value->Shared->Prop):(X.wish E).Ok:=
 ⟨ok.mod,ok.kind,ok.glob,ok.blt,ok.above,ok.inj,ok.has,ok.cab,ok.hd,ok.frames,ok.stk,ok.exf,ok.bs,ok.bsz,ok.noex,ok.exfs,ok.funs,ok.frf⟩
theorem Cx.Ok.unwish {X:Cx}{E:Value->Shared->Prop}(ok:(X.wish E).Ok):X.Ok:=
 ⟨ok.mod,ok.kind,ok.glob,ok.blt,ok.above,ok.inj,ok.has,ok.cab,ok.hd,ok.frames,ok.stk,ok.exf,ok.bs,ok.bsz,ok.noex,ok.exfs,ok.funs,ok.frf⟩
section
variable {X:Cx} {pins:List (Addr × Obj)} {σ:St} {H:Hp} {s:Shared} {E:Value->Shared->Prop}
theorem Inv.wish (I:Inv X pins σ H s)(E:Value->Shared->Prop):Inv (X.wish E) pins σ H s:=⟨I.ok.wish E,I.os,I.bare,I.base,I.loc,I.cell,I.free,I.freeC,I.pin,I.hok,I.len⟩
theorem Inv.unwish (I:Inv (X.wish E) pins σ H s):Inv X pins σ H s:=⟨I.ok.unwish,I.os,I.bare,I.base,I.loc,I.cell,I.free,I.freeC,I.pin,I.hok,I.len⟩
theorem SP.unwish {D:mF}{f:Flow}{s':Shared}(h:SP (X.wish E) pins D f s'):SP X pins D f s':=by
 cases f with
 |next=>obtain⟨σ',H',I,q⟩:=h;exact⟨σ',H',I.unwish,q⟩
 |brk=>obtain⟨σ',H',I,q⟩:=h;exact⟨σ',H',I.unwish,q⟩
 |cont=>obtain⟨σ',H',I,q⟩:=h;exact⟨σ',H',I.unwish,q⟩
 |ret u=>obtain⟨v,σ',H',I,r,q⟩:=h;exact⟨v,σ',H',I.unwish,r,q⟩
theorem PSs.nox {st:List Stmt}{t:TS}(h:PSs X.nox st t):PSs X st t:=fun pins s σ H D I hw=>
 wpAny_mono (h pins s σ H D (I.wish _) hw) (fun _ _ q=>q.unwish) fun _ _ z=>False.elim z
end
section
variable {X:Cx} {st:Stmt} {rest:List Stmt} {t u:TS} {e:Expr} {te:TE} {pos:Pos}
def Vu:TS:=fun D σ H=>D.nx σ H
def iW (t u:TS):TS:=fun D σ H=>t { D with nx:=u D } σ H
theorem bN:PSs X [] Vu:=fun _ _ σ H _ I h=>wpAny_execs_nil ⟨σ,H,I,h⟩
theorem aC (h1:PS X st t)(h2:PSs X rest u):PSs X (st :: rest) (iW t u):=by
 intro pins s σ H D I h;refine wpAny_execs_cons (thn (h1 pins s σ H { D with nx:=u D } I h) fun f s1 q=>?_)
 cases f with
 |next=>
  obtain⟨σ',H',I',q⟩:=q;exact h2 pins s1 σ' H' D I' q
 |ret v=>exact q
 |brk=>exact q
 |cont=>exact q
theorem aG (h1:PS X st t):PSs X [st] t:=by
 intro pins s σ H D I h;refine wpAny_execs_cons (thn (h1 pins s σ H D I h) fun f s1 q=>?_)
 cases f with
 |next=>exact wpAny_execs_nil q
 |ret v=>exact q
 |brk=>exact q
 |cont=>exact q
def Vw:TS:=fun D σ H=>D.ct σ H
theorem Au:PS X (.Continue pos) Vw:=fun _ _ σ H _ I h=>wpAny_Continue ⟨σ,H,I,h⟩
theorem Inv.quiet {pins:List (Addr × Obj)}{σ:St}{H:Hp}{s:Shared}(I:Inv X pins σ H s):interactive X.env=false:=by simp[interactive,I.ok.kind]
def Wd (te:TE):TS:=fun D σ H=>te σ H fun _ H1=>D.nx σ H1
theorem bV (he:PE X e te)(hs:swapsWith e none pos.line X.env=pure false:=by rfl):PS X (.Expr e pos) (Wd te):=by
 intro pins s σ H D I h;exact wpAny_Expr_any (thn (he pins s σ H _ I h) fun v s1 ⟨x,H1,I1,r1,q1⟩=>⟨σ,H1,I1,q1⟩) I.quiet hs
def Yy (te:TE):TS:=fun D σ H=>te σ H D.rt
theorem bA (he:PE X e te):PS X (.Return (some e) pos) (Yy te):=by
 intro pins s σ H D I h;exact wpAny_Return_some (thn (he pins s σ H _ I h) fun v s1 ⟨x,H1,I1,r1,q1⟩=>⟨x,σ,H1,I1,r1,q1⟩)
def Yh (c:TT)(t u:TS):TS:=fun D σ H=>c σ H fun b H1=>if b=true then t D σ H1 else u D σ H1
theorem cE {c:Expr}{a b:List Stmt}{tc:TT}(hc:PT X c tc)(ha:PSs X a t)(hb:PSs X b u):PS X (.If c a b pos) (Yh tc t u):=by
 intro pins s σ H D I h;refine wpAny_If (thn (hc pins s σ H _ I h) fun d s1 ⟨H1,I1,q1⟩=>?_)
 cases d with
 |true=>exact ha pins s1 σ H1 D I1 q1
 |false=>exact hb pins s1 σ H1 D I1 q1
def Mj:TS:=fun _ _ _=>False
theorem fQ:PS X st Mj:=fun _ _ _ _ _ _ h=>h.elim
theorem Hb {sts:List Stmt}:PSs X sts Mj:=fun _ _ _ _ _ _ h=>h.elim
end
abbrev TG:=V->St->Hp->(St->Hp->Prop)->Prop
abbrev TGs:=List V->St->Hp->(St->Hp->Prop)->Prop
def PG (X:Cx)(target:Expr)(t:TG):Prop:=
 ∀(pins:List (Addr × Obj)) (s:Shared) (σ:St) (H:Hp) (v:V) (u:Value) (Q:St->Hp->Prop),Inv X pins σ H s->cD v u->t v σ H Q->
  wpAny (model X.prog X.w) X.A (assign target X.env u) (fun _ s'=>∃σ' H',Inv X pins σ' H' s'/\Q σ' H') X.xe s
def PGs (X:Cx)(ts:List Expr)(t:TGs):Prop:=
 ∀(pins:List (Addr × Obj)) (s:Shared) (σ:St) (H:Hp) (vs:List V) (us:List Value) (Q:St->Hp->Prop),Inv X pins σ H s->bY vs us->t vs σ H Q->
  wpAny (model X.prog X.w) X.A (assignInOrder ((assignEach ts X.env).map (·.2)) us) (fun _ s'=>∃σ' H',Inv X pins σ' H' s'/\Q σ' H') X.xe s
abbrev Tj:=V->V->V->Hp->(Hp->Prop)->Prop
def Wk (X:Cx)(t:Tj):Prop:=
 ∀(pins:List (Addr × Obj)) (s:Shared) (σ:St) (H:Hp) (o i v:V) (ov iv u:Value) (Q:Hp->Prop),Inv X pins σ H s->cD o ov->cD i iv->cD v u->t o i v H Q->
  wpAny (model X.prog X.w) X.A (setItem ov iv u) (fun _ s'=>∃H',Inv X pins σ H' s'/\Q H') X.xe s
abbrev TIp:=V->V->Hp->VK->Prop
def PIp (X:Cx)(op:Operator)(t:TIp):Prop:=
 ∀(pins:List (Addr × Obj)) (s:Shared) (σ:St) (H:Hp) (x y:V) (v u:Value) (Q:VK),Inv X pins σ H s->cD x v->cD y u->t x y H Q->
  wpAny (model X.prog X.w) X.A (inplaceOp op v u) (EP X pins σ Q) X.xe s
section
variable {X:Cx} {pos:Pos}
def iR (i:Nat):TG:=fun v σ H Q=>Q (σ.set i (some v)) H
theorem aZ {i:Nat}{x:Str}(hN:X.N.Nodup)(hi:X.N[i]?=some x)(hx:Loc X.env.scope x)(hf:X.fn x=true\/X.env.scope.names.lookup x=some .local:=by first | exact .inl rfl | exact .inr rfl | assumption):PG X (.Name x pos) (iR i):=by
 intro pins s σ H v u Q I r h;exact wpAny_assign_Name (kT I hN hi hx r (fun s' I'=>⟨_,H,I',h⟩) hf)
def Hf:TGs:=fun vs σ H Q=>vs=[]/\Q σ H
def kE (t:TG)(u:TGs):TGs:=fun vs σ H Q=>∃v r,vs=v :: r/\t v σ H fun σ' H'=>u r σ' H' Q
theorem gS:PGs X [] Hf:=by
 intro pins s σ H vs us Q I r h;obtain⟨e,h⟩:=h;subst e
 cases r
 exact assignInOrder_nil ⟨σ,H,I,h⟩
theorem bU {e:Expr}{es:List Expr}{t:TG}{u:TGs}(h1:PG X e t)(h2:PGs X es u)(hs:(assignEach (e :: es) X.env).map (·.2)=assign e X.env :: (assignEach es X.env).map (·.2):=by rfl):PGs X (e :: es) (kE t u):=by
 intro pins s σ H vs us Q I r h;obtain⟨v,vr,e1,h⟩:=h;subst e1
 cases r with
 |cons r rr=>
  rw[hs];refine assignInOrder_cons (thn (h1 pins s σ H _ _ _ I r h) fun _ s1 ⟨σ1,H1,I1,q1⟩=>?_);exact h2 pins s1 σ1 H1 _ _ Q I1 rr q1
def Gv (K:PySem.W.Frag)(n:Nat)(t:TGs):TG:=fun v σ H Q=>∃a xs,v=.ref a/\SqT K H a xs/\xs.length=n/\t xs σ H Q
theorem jA {es:List Expr}{k:Nat}{t:TGs}{n:Nat}(hc:X.calm=true)(h:PGs X es t)(hn:(assignEach es X.env).length=n:=by rfl)(hst:(assignEach es X.env).findIdx? (·.1)=none:=by rfl):PG X (.Tuple es k pos) (Gv X.K n t):=by
 intro pins s σ H v u Q I r hw;obtain⟨a,xs,e1,hq,hl,hw⟩:=hw;subst e1
 cases r
 obtain⟨its,rv,ht,hz⟩:=I.tuple hq;refine assign_Tuple_tuple (I.ok.hd hc) ht (by simp[hn,<- hl,rv.length]) hst fun h' hx=>?_;have I1:Inv X pins σ H { s with heap:=h' }:=I.kept (t':=s.toks) fun b o e=>hx b o (Nat.ne_of_lt (Heap.lt_size e)) e;exact h pins _ σ H xs _ Q I1 (by simpa using rv) hw
def Ye (to ti:TE)(t:Tj):TG:=fun v σ H Q=>to σ H fun o H1=>ti σ H1 fun i H2=>t o i v H2 fun H3=>Q σ H3
theorem iV {o i:Expr}{to ti:TE}{t:Tj}(ho:PE X o to)(hi:PE X i ti)(hs:Wk X t)(ha:∀v,assign (.Subscript o i pos) X.env v=(do
   let ov <- holding [v] (eval o X.env)
   let iv <- holding [v,ov] (eval i X.env)
   standAt pos
   holding [v,ov,iv] (setItem ov iv v)
   release [v,ov,iv] []):=by intro _;rfl):PG X (.Subscript o i pos) (Ye to ti t):=by
 intro pins s σ H v u Q I r h;rw[ha];refine wpAny_bind (wpAny_holding (thn (ho pins s σ H _ I h) fun ov s1 ⟨x,H1,I1,r1,q1⟩=>?_));refine wpAny_bind (wpAny_holding (thn (hi pins s1 σ H1 _ I1 q1) fun iv s2 ⟨y,H2,I2,r2,q2⟩=>?_));refine wpAny_bind (wpAny_standAt (wpAny_bind (wpAny_holding (thn (hs pins s2 σ H2 x y v ov iv u _ I2 r1 r2 r q2) fun _ s3 ⟨H3,I3,q3⟩=>?_))));exact wpAny_release ⟨σ,H3,I3,q3⟩
def Tq (te:TE)(g:TG):TS:=fun D σ H=>te σ H fun x H1=>g x σ H1 D.nx
theorem hV {tg e:Expr}{te:TE}{g:TG}(he:PE X e te)(hg:PG X tg g)(hs:swapsWithSole [tg] e pos.line X.env=pure false:=by rfl)(hw:swappedStores [tg] e X.env=pure none:=by rfl)(h1:(assignEach [tg] X.env).map (·.2)=[assign tg X.env]:=by rfl):PS X (.Assign [tg] e pos) (Tq te g):=by
 intro pins s σ H D I h;refine wpAny_Assign_stores (thn (he pins s σ H _ I h) fun v s1 ⟨x,H1,I1,r1,q1⟩=>?_) hs hw;rw[h1];exact thn (hg pins s1 σ H1 x v _ I1 r1 q1) fun _ s2 q=>q
theorem aW {i:Nat}{x:Str}{e:Expr}{te:TE}{pos':Pos}(hN:X.N.Nodup)(hi:X.N[i]?=some x)(hx:Loc X.env.scope x)(he:PE X e te)(hs:swapsWith e (some (.Name x pos')) pos.line X.env=pure false:=by rfl)(hf:X.fn x=true\/X.env.scope.names.lookup x=some .local:=by first | exact .inl rfl | exact .inr rfl | assumption) :
  PS X (.Assign [.Name x pos'] e pos) (Tq te (iR i)):=by
 intro pins s σ H D I h;refine wpAny_Assign_Name (thn (he pins s σ H _ I h) fun v s1 ⟨y,H1,I1,r1,q1⟩=>?_) hs;exact kT I1 hN hi hx r1 (fun s2 I2=>⟨_,H1,I2,q1⟩) hf
def Zb (i j:Nat)(ta:TA):TS:=fun D σ H=>ta σ H fun vs H1=>∃v w,vs=[v,w]/\D.nx ((σ.set i (some v)).set j (some w)) H1
theorem Jh {i j:Nat}{x y:Str}{a b:Expr}{ta:TA}{px py pt:Pos}{kt k2 pt2}(hc:X.calm=true)(hN:X.N.Nodup)(hi:X.N[i]?=some x)(hj:X.N[j]?=some y)(hij:i≠j)(hx:X.env.scope.names.lookup x=some .local)(hy:X.env.scope.names.lookup y=some .local)(ha:PA X [a,b] ta)(hw:swappedStores [.Tuple [.Name x px,.Name y py] kt pt] (.Tuple [a,b] k2 pt2) X.env=pure (some [x,y]))(hs:swapsWithSole [.Tuple [.Name x px,.Name y py] kt pt] (.Tuple [a,b] k2 pt2) pos.line X.env=pure false:=by rfl) :
  PS X (.Assign [.Tuple [.Name x px,.Name y py] kt pt] (.Tuple [a,b] k2 pt2) pos) (Zb i j ta):=by
 intro pins s σ H D I h;rw[exec_Assign_arm];refine wpAny_bind (wpAny_standAt ?_);rw[hs];refine wpAny_bind (wpAny_pure ?_);rw[if_neg (by decide)];refine wpAny_bind (Tuple_ (thn (ha _ pins s σ H _ I h) fun us s1 ⟨vs,H1,I1,r1,q1⟩=>?_));obtain⟨v,w,e1,q1⟩:=q1;subst e1;obtain⟨u1,u2,rfl,rv,rw'⟩:∃u1 u2,us=[u1,u2]/\cD v u1/\cD w u2:=by
  cases r1 with
  |cons p q=>
   cases q with
   |cons p' q'=>
    cases q'
    exact⟨_,_,rfl,p,p'⟩
 refine wpAny_newObj_type ?_ (by show 2<=sizeLine;decide);have I2:Inv X pins σ H1 { s1 with heap:=s1.heap.push { cls:=.type "tuple",data:=.seq [u1,u2].toArray } }:=I1.kept (t':=s1.toks) fun b o e=>Heap.get?_push_of_some _ e;rw[hw];refine wpAny_bind (wpAny_pure ?_);show wpAny (model X.prog X.w) X.A (do rule "assign.swapped-stores";let items <- unpackItems (.ref s1.heap.objs.size) 2 none;assignInOrder [fun v=>bindName X.env y v,fun v=>bindName X.env x v] items.reverse;pure Flow.next) _ _ _;refine wpAny_bind (wpAny_rule (wpAny_bind (unpackItems_tuple (items:=#[u1,u2]) (I.ok.hd hc) (IsTup.new s1.heap _) fun h' hx'=>?_)));have I3:=I2.kept (h':=h') (t':=s1.toks) fun b o e=>hx' b o (Nat.ne_of_lt (Heap.lt_size e)) e;show wpAny _ _ (assignInOrder [fun v=>bindName X.env y v,fun v=>bindName X.env x v] [u2,u1] >>= fun _=>pure Flow.next) _ _ _;refine wpAny_bind (assignInOrder_cons (wpAny_bindName (kT I3 hN hj (.inl hy) rw' (fun s2 I4=>?_) (.inr hy))));refine assignInOrder_cons (wpAny_bindName (kT I4 hN hi (.inl hx) rv (fun s3 I5=>assignInOrder_nil (wpAny_pure ?_)) (.inr hx)));rw[List.set_comm _ _ (Ne.symm hij)] at I5;exact⟨_,H1,I5,q1⟩
def Yq (i:Nat)(te:TE)(ti:TIp):TS:=fun D σ H=>∃x,σ[i]?=some (some x)/\te σ H fun y H1=>ti x y H1 fun z H2=>D.nx (σ.set i (some z)) H2
theorem Kz {i:Nat}{x:Str}{e:Expr}{te:TE}{op:Operator}{ti:TIp}{pos':Pos}(hN:X.N.Nodup)(hi:X.N[i]?=some x)(hx:Loc X.env.scope x)(he:PE X e te)(ho:PIp X op ti)(hf:X.fn x=true\/X.env.scope.names.lookup x=some .local:=by first | exact .inl rfl | exact .inr rfl | assumption) :
  PS X (.AugAssign (.Name x pos') op e pos) (Yq i te ti):=by
 intro pins s σ H D I h;obtain⟨v,e1,h⟩:=h;obtain⟨m,hn,hl⟩:=I.loc;have vis:Vis X.env.scope x:=by rcases hx with k | k;exact .inl k;exact .inr (.inl k)
 obtain⟨u,r,l⟩:=hl i x v hi e1 vis;refine wpAny_AugAssign_Name ?_;have go:wpAny (model X.prog X.w) X.A (eval e X.env) (fun w s₂=>wpAny (model X.prog X.w) X.A (inplaceOp op u w) (fun r s₃=>wpAny (model X.prog X.w) X.A (storeName X.env x r) (fun _=>SP X pins D .next) X.xe s₃) X.xe s₂) X.xe s:=by
  refine thn (he pins s σ H _ I h) fun w s1 ⟨y,H1,I1,r1,q1⟩=>?_;refine thn (ho pins s1 σ H1 v y u w _ I1 r r1 q1) fun z s2 ⟨zv,H2,I2,r2,q2⟩=>?_;exact kT I2 hN hi hx r2 (fun s3 I3=>⟨_,H2,I3,q2⟩) hf
 rcases l with ⟨hk,hm⟩ | ⟨hk,c,hc,hcell⟩
 ·exact wpAny_loadName_local I.ok.kind hk hn hm go
 ·rcases hk with hk | hk
  ·exact wpAny_loadName_cell I.ok.kind hk hc hcell go
  ·rcases hx with k | k
   ·have:X.env.scope.names.lookup x=some .free:=hk;rw[k] at this;cases this
   ·have:X.env.scope.names.lookup x=some .free:=hk;rw[k] at this;cases this
def ipI (f:Int->Int->Int):TIp:=fun x y H Q=>∃i j,x=.int i/\y=.int j/\Q (.int (f i j)) H
theorem Lx:PIp X .Add (ipI fun i j=>i+j):=by
 intro pins s σ H x y v u Q I r1 r2 h;obtain⟨i,j,e1,e2,q⟩:=h;subst e1;subst e2;obtain⟨t,rfl⟩:=r1;obtain⟨t',rfl⟩:=r2;exact iadd_int ⟨.int _,H,I.tok _,⟨_,rfl⟩,q⟩
def Kk (c:TT)(tb:TS):TS:=fun D σ H=>∃W:Nat->St->Hp->Prop,(∃m,W m σ H)/\∀m σ H,W m σ H->
 c σ H fun b H1=>if b=true then ∃N:St->Hp->Prop,(∀σ' H',N σ' H'->∃m',m' < m/\W m' σ' H')/\tb { D with nx:=N,ct:=N,bk:=D.nx } σ H1 else D.nx σ H1
theorem rS {c:Expr}{body:List Stmt}{tc:TT}{tb:TS}(hp:PassesOwn (model X.prog X.w) X.A X.env X.xe)(hc:PT X c tc)(hb:PSs X body tb):PS X (.While c body [] pos) (Kk tc tb):=by
 intro pins s σ H D I h;obtain⟨W,⟨m0,w0⟩,turn⟩:=h;refine wpAny_While (codeAny_whileLoop (fun n s'=>∃σ' H',Inv X pins σ' H' s'/\W n σ' H') ?_ m0 ⟨σ,H,I,w0⟩);rintro n s1 ⟨σ1,H1,I1,w1⟩;refine wpAny_passesOwn hp (thn (hc pins s1 σ1 H1 _ I1 (turn n σ1 H1 w1)) fun b s2 ⟨H2,I2,q2⟩=>?_)
 cases b with
 |true=>
  obtain⟨N,hN,q2⟩:=q2;rw[if_pos rfl];refine wpAny_passesOwn hp (thn (hb pins s2 σ1 H2 _ I2 q2) fun f s3 q3=>?_)
  cases f with
  |next=>
   obtain⟨σ3,H3,I3,n3⟩:=q3;obtain⟨m',hm,w3⟩:=hN σ3 H3 n3;exact⟨m',hm,σ3,H3,I3,w3⟩
  |cont=>
   obtain⟨σ3,H3,I3,n3⟩:=q3;obtain⟨m',hm,w3⟩:=hN σ3 H3 n3;exact⟨m',hm,σ3,H3,I3,w3⟩
  |brk=>exact q3
  |ret v=>exact q3
 |false=>
  rw[if_neg Bool.false_ne_true];exact wpAny_execs_nil ⟨σ1,H2,I2,q2⟩
end
structure It where
 go:Nat->Hp->Prop
 yld:Nat->Hp->V->Hp->Prop
 stop:Nat->Hp->Prop
def mG (X:Cx)(pins:List (Addr × Obj))(H:Hp)(b:Addr):Prop:=
 H b=none/\b≠X.env.locals/\b∉X.fs/\(b∈X.ex\/X.s₀.heap.objs.size<=b)/\(∀x c,X.env.cells.lookup x=some c->c≠b)/\∀p∈X.pn++pins,p.1≠b
theorem Inv.fpOk {X:Cx}{pins:List (Addr × Obj)}{σ:St}{H H':Hp}{s:Shared}{b:Addr}(I:Inv X pins σ H s)(hb:s.heap.objs.size<=b)(hn:H' b=none):mG X pins H' b:=by
 refine⟨hn,Nat.ne_of_gt (Nat.lt_of_lt_of_le I.lt hb),I.nofs hb,.inr (Nat.le_trans I.sz hb),fun x c e z=>?_,fun p hp z=>?_⟩
 ·obtain⟨v,q⟩:=I.cell x c e;exact absurd (Nat.lt_of_lt_of_le q.lt (by rw[z];exact hb)) (Nat.lt_irrefl _)
 ·exact absurd (Nat.lt_of_lt_of_le (Heap.lt_size (I.pin p hp).1) (by rw[z];exact hb)) (Nat.lt_irrefl _)
structure Iy (P:Program) (w:World) (K:PySem.W.Frag) (tg:Expr) (J:It) (fp:List Addr) (it:Addr) (tn:Nat->Heap->Prop):Prop where
 mem:it∈fp
 obj:∀i h,tn i h->∀b∈fp,∃o,h.get? b=some o/\∀v,o.data≠.cell v
 keep:∀i h h',tn i h->(∀b∈fp,∀o,h.get? b=some o->h'.get? b=some o)->tn i h'
 item:∀(X:Cx),X.prog=P->X.w=w->X.K=K->X.calm=true->∀(i:Nat) (pins:List (Addr × Obj)) (s:Shared) (σ:St) (H:Hp) (E:Value->Shared->Prop),Inv X pins σ H s->(∀b∈fp,mG X pins H b)->tn i s.heap->J.go i H->
  wpAny (model P w) X.A (pyNext (.ref it)) (fun r s1=>∃u,r=some u/\
   wpAny (model P w) X.A (letOwnedTupleGo tg (.ref it) u) (fun _ s2=>∃x H',Inv X pins σ H' s2/\cD x u/\J.yld i H x H'/\tn (i+1) s2.heap/\∀b∈fp,H' b=none) E s1) E s
 done:∀(X:Cx),X.prog=P->X.w=w->X.K=K->X.calm=true->∀(i:Nat) (pins:List (Addr × Obj)) (s:Shared) (σ:St) (H:Hp) (E:Value->Shared->Prop),Inv X pins σ H s->(∀b∈fp,mG X pins H b)->tn i s.heap->J.stop i H->
  wpAny (model P w) X.A (pyNext (.ref it)) (fun r s1=>r=none/\Inv X pins σ H s1) E s
 self:∀(A:Around) (i:Nat) (s:Shared) (Q:Value->Shared->Prop) (E:Value->Shared->Prop),tn i s.heap->Q (.ref it) s->wpAny (model P w) A (pyIter (.ref it)) Q E s
abbrev TI:=St->Hp->(It->Hp->Prop)->Prop
def PIE (X:Cx)(pins:List (Addr × Obj))(σ:St)(tg:Expr)(R:It->Hp->Prop)(itv:Value)(s2:Shared):Prop:=
 ∃(it:Addr) (fp:List Addr) (tn:Nat->Heap->Prop) (J:It) (H':Hp),itv=.ref it/\Inv X pins σ H' s2/\Iy X.prog X.w X.K tg J fp it tn/\tn 0 s2.heap/\(∀b∈fp,mG X pins H' b)/\R J H'
def PI (X:Cx)(tg iter:Expr)(wi:TI):Prop:=
 ∀(pins:List (Addr × Obj)) (s:Shared) (σ:St) (H:Hp) (R:It->Hp->Prop),Inv X pins σ H s->wi σ H R->
  wpAny (model X.prog X.w) X.A (eval iter X.env) (fun v s1=>wpAny (model X.prog X.w) X.A (pyIter v) (PIE X pins σ tg R) X.xe s1) X.xe s
theorem Mm {M : Model}{A : Around}{E : Value -> Shared -> Prop}{s : Shared}{tg : Expr}{it : Addr}{u : Value}{o : Obj}{n : String}{vs : Array Value}{Q : Unit -> Shared -> Prop}(ho : s.heap.get? it = some o)(hc : o.cls = .type n)(hd : o.data = .fields vs)(hn : ["enumerate", "zip", "dict_itemiterator", "dict_reverseitemiterator", "odict_iterator", "itertools.zip_longest", "itertools.pairwise"].contains n = false)(hQ : Q () s) : wpAny M A (letOwnedTupleGo tg (.ref it) u) Q E s := by
  unfold letOwnedTupleGo
  cases tg <;> first
    | exact wpAny_pure hQ
    | (cases u <;> first
        | exact wpAny_pure hQ
        | (refine wpAny_bind (wpAny_load ho ?_)
           rw [hc, hd];show wpAny M A (if (["enumerate", "zip", "dict_itemiterator", "dict_reverseitemiterator", "odict_iterator", "itertools.zip_longest", "itertools.pairwise"].contains n && vs[0]? == some (rawInt _)) = true then _ else _) Q E s;rw [if_neg (by intro h; rw [hn, Bool.false_and] at h; cases h)];exact wpAny_pure hQ))
def Itl (K:PySem.W.Frag)(a:Addr):It:=
 ⟨fun i H=>∃xs x,SqL K H a xs/\xs[i]?=some x,fun i H x H'=>H'=H/\∀xs,SqL K H a xs->xs[i]?=some x,fun i H=>∃xs,SqL K H a xs/\xs.length<=i⟩
def Itt (K:PySem.W.Frag)(a:Addr):It:=
 ⟨fun i H=>∃xs x,SqT K H a xs/\xs[i]?=some x,fun i H x H'=>H'=H/\∀xs,SqT K H a xs->xs[i]?=some x,fun i H=>∃xs,SqT K H a xs/\xs.length<=i⟩
def Itr (lo:Int)(n:Nat):It:=⟨fun i _=>i < n,fun i H x H'=>H'=H/\x=.int (lo+i),fun i _=>n<=i⟩
theorem Gx {P:Program}{w:World}{K:PySem.W.Frag}{tg:Expr}(a it:Addr):Iy P w K tg (Itl K a) [it] it (fun i h=>h.IsListIter it a i) where
 mem:=by simp
 obj:=fun i h st b hb=>by
  have e:b=it:=by simpa using hb
  subst e;obtain⟨o,e,c,d⟩:=st;exact⟨o,e,fun v z=>by rw[d] at z;cases z⟩
 keep:=fun i h h' st k=>st.at fun o e=>k it (by simp) o e
 item:=by
  intro X hP hw hK hc i pins s σ H E I hf st hg;subst hP hw hK;obtain⟨xs,x,hq,hx⟩:=hg;obtain⟨its,rv,p,hz⟩:=I.list hq;obtain⟨u,hu,ru⟩:=rv.get hx;obtain⟨f0,f1,f2,f3,f4,f5⟩:=hf it (by simp);refine wpAny_pyNext_list_item st p.isList (x:=u) (by simpa using hu) fun h' st' sb=>?_;have I1:Inv X pins σ H { s with heap:=h' }:=I.turned (t':=s.toks) (fun b o hb e=>(sb.2 b hb).trans e) f0 f1 f3 f4 f5;obtain⟨o,e,c,d⟩:=id st';exact⟨u,rfl,Mm (s:={ s with heap:=h' }) e c d (by decide) ⟨x,H,I1,ru,⟨rfl,fun ys hy=>by rw[I.list_inj hy hq];exact hx⟩,st',fun b hb=>(hf b hb).1⟩⟩
 done:=by
  intro X hP hw hK hc i pins s σ H E I hf st hg;subst hP hw hK;obtain⟨xs,hq,hx⟩:=hg;obtain⟨its,rv,p,hz⟩:=I.list hq;obtain⟨f0,f1,f2,f3,f4,f5⟩:=hf it (by simp);have hl:=rv.length;exact wpAny_pyNext_list_end (I.ok.hd hc) st p.isList (by simp;omega) fun h' eb=>⟨rfl,I.turned (t':=s.toks) (fun b o hb e=>eb b o hb e) f0 f1 f3 f4 f5⟩
 self:=fun _ _ _ _ _ st h=>wpAny_pyIter_listiter st h
theorem Bm {P:Program}{w:World}{K:PySem.W.Frag}{tg:Expr}(a it:Addr):Iy P w K tg (Itt K a) [it] it (fun i h=>h.IsTupleIter it a i) where
 mem:=by simp
 obj:=fun i h st b hb=>by
  have e:b=it:=by simpa using hb
  subst e;obtain⟨o,e,c,d⟩:=st;exact⟨o,e,fun v z=>by rw[d] at z;cases z⟩
 keep:=fun i h h' st k=>st.at fun o e=>k it (by simp) o e
 item:=by
  intro X hP hw hK hc i pins s σ H E I hf st hg;subst hP hw hK;obtain⟨xs,x,hq,hx⟩:=hg;obtain⟨its,rv,p,hz⟩:=I.tuple hq;obtain⟨u,hu,ru⟩:=rv.get hx;obtain⟨f0,f1,f2,f3,f4,f5⟩:=hf it (by simp);refine wpAny_pyNext_tuple_item st (show s.heap.IsTuple a its.toArray from p) (x:=u) (by simpa using hu) fun h' st' sb=>?_;have I1:Inv X pins σ H { s with heap:=h' }:=I.turned (t':=s.toks) (fun b o hb e=>(sb.2 b hb).trans e) f0 f1 f3 f4 f5;obtain⟨o,e,c,d⟩:=id st';exact⟨u,rfl,Mm (s:={ s with heap:=h' }) e c d (by decide) ⟨x,H,I1,ru,⟨rfl,fun ys hy=>by rw[I.tuple_inj hy hq];exact hx⟩,st',fun b hb=>(hf b hb).1⟩⟩
 done:=by
  intro X hP hw hK hc i pins s σ H E I hf st hg;subst hP hw hK;obtain⟨xs,hq,hx⟩:=hg;obtain⟨its,rv,p,hz⟩:=I.tuple hq;obtain⟨f0,f1,f2,f3,f4,f5⟩:=hf it (by simp);have hl:=rv.length;exact wpAny_pyNext_tuple_end (I.ok.hd hc) st (show s.heap.IsTuple a its.toArray from p) (by simp;omega) fun h' eb=>⟨rfl,I.turned (t':=s.toks) (fun b o hb e=>eb b o hb e) f0 f1 f3 f4 f5⟩
 self:=fun _ _ _ _ _ st h=>wpAny_pyIter_tupleiter st h
theorem Cm {P:Program}{w:World}{K:PySem.W.Frag}{tg:Expr}(it:Addr)(lo:Int)(n:Nat):Iy P w K tg (Itr lo n) [it] it (fun i h=>IsRangeIter h it (lo+(i:Nat)*1) ((n:Int) - (i:Nat)) 1) where
 mem:=by simp
 obj:=fun i h st b hb=>by
  have e:b=it:=by simpa using hb
  subst e;exact⟨_,st,fun v z=>by
   have z':Data.fields _=Data.cell v:=z
   cases z'⟩
 keep:=fun i h h' st k=>k it (by simp) _ st
 item:=by
  intro X hP hw hK hc i pins s σ H E I hf st hg;subst hP hw hK;obtain⟨f0,f1,f2,f3,f4,f5⟩:=hf it (by simp);have W:=Walks.range (prog:=X.prog) (w:=X.w) (I.ok.hd hc) it lo 1 n;refine W.item i s _ _ hg st fun v h' tk hv st' kk=>?_;obtain⟨t,rfl⟩:=hv;have I1:Inv X pins σ H { s with heap:=h',toks:=tk }:=I.turned (fun b o hb e=>kk b o (by simpa using hb) e) f0 f1 f3 f4 f5;refine⟨_,rfl,Mm (s:={ s with heap:=h',toks:=tk }) (n:="range_iterator") st' rfl rfl (by decide) ⟨.int (lo+i),H,I1,⟨t,?_⟩,⟨rfl,rfl⟩,st',fun b hb=>(hf b hb).1⟩⟩;rw[Int.mul_one]
 done:=by
  intro X hP hw hK hc i pins s σ H E I hf st hg;subst hP hw hK;obtain⟨f0,f1,f2,f3,f4,f5⟩:=hf it (by simp);exact wpAny_pyNext_range_end (I.ok.hd hc) st (by have:n<=i:=hg;omega) fun h' eb=>⟨rfl,I.turned (t':=s.toks) (fun b o hb e=>eb b o hb e) f0 f1 f3 f4 f5⟩
 self:=fun _ _ _ _ _ st h=>wpAny_pyIter_rangeiter st h
section
variable {X:Cx} {tg:Expr}
def Xg (K:PySem.W.Frag)(tl:TE):TI:=fun σ H R=>tl σ H fun x H1=>∃a,x=.ref a/\(∃xs,SqL K H1 a xs)/\R (Itl K a) H1
def Yn (K:PySem.W.Frag)(tl:TE):TI:=fun σ H R=>tl σ H fun x H1=>∃a,x=.ref a/\(∃xs,SqT K H1 a xs)/\R (Itt K a) H1
theorem cS {l:Expr}{tl:TE}(hl:PE X l tl):PI X tg l (Xg X.K tl):=by
 intro pins s σ H R I h;refine thn (hl pins s σ H _ I h) fun v s1 ⟨x,H1,I1,r1,q1⟩=>?_;obtain⟨a,e,⟨xs,hq⟩,q⟩:=q1;subst e
 cases r1
 obtain⟨its,rv,p,hz⟩:=I1.list hq;refine wpAny_pyIter_list p.isList ?_;refine⟨s1.heap.objs.size,[s1.heap.objs.size],_,_,H1,rfl,I1.kept (t':=s1.toks) fun b o e=>Heap.get?_push_of_some _ e,Gx a _,⟨_,Heap.get?_push_size _ rfl,rfl,rfl⟩,fun b hb=>?_,q⟩;have e:b=s1.heap.objs.size:=by simpa using hb
 subst e;exact I1.fpOk (Nat.le_refl _) (I1.hok.fresh (Nat.le_refl _))
theorem Tz {l:Expr}{tl:TE}(hl:PE X l tl):PI X tg l (Yn X.K tl):=by
 intro pins s σ H R I h;refine thn (hl pins s σ H _ I h) fun v s1 ⟨x,H1,I1,r1,q1⟩=>?_;obtain⟨a,e,⟨xs,hq⟩,q⟩:=q1;subst e
 cases r1
 obtain⟨its,rv,p,hz⟩:=I1.tuple hq;refine wpAny_pyIter_tuple (show s1.heap.IsTuple a its.toArray from p) ?_;refine⟨s1.heap.objs.size,[s1.heap.objs.size],_,_,H1,rfl,I1.kept (t':=s1.toks) fun b o e=>Heap.get?_push_of_some _ e,Bm a _,⟨_,Heap.get?_push_size _ rfl,rfl,rfl⟩,fun b hb=>?_,q⟩;have e:b=s1.heap.objs.size:=by simpa using hb
 subst e;exact I1.fpOk (Nat.le_refl _) (I1.hok.fresh (Nat.le_refl _))
theorem Aj {pins:List (Addr × Obj)}{σ:St}{H:Hp}{s:Shared}{R:It->Hp->Prop}{E:Value->Shared->Prop}{lo hi:Int}{t u v:Tok}{tk:Nat}(I:Inv X pins σ H s)(h1:-(2 ^ 62)<=lo)(h2:lo < 2 ^ 62)(h3:-(2 ^ 62)<=hi)(h4:hi < 2 ^ 62)(q:R (Itr lo (hi - lo).toNat) H):wpAny (model X.prog X.w) X.A (pyIter (.ref s.heap.objs.size)) (PIE X pins σ tg R) E { s with heap:=s.heap.push { cls:=.type "range",data:=.fields #[.int lo t,.int hi u,.int 1 v] },toks:=tk }:=by
 refine wpAny_pyIter_range (IsRange.new ..) (small_one h1 h2 h3 h4) ?_;have I1:Inv X pins σ H { s with heap:=s.heap.push { cls:=.type "range",data:=.fields #[.int lo t,.int hi u,.int 1 v] },toks:=tk }:=I.kept fun b o e=>Heap.get?_push_of_some _ e;refine⟨(s.heap.push { cls:=.type "range",data:=.fields #[.int lo t,.int hi u,.int 1 v] }).objs.size,[(s.heap.push { cls:=.type "range",data:=.fields #[.int lo t,.int hi u,.int 1 v] }).objs.size],_,_,H,rfl,
  I1.kept (t':=tk) fun b o e=>Heap.get?_push_of_some _ e,Cm _ lo (hi - lo).toNat,?_,fun b hb=>?_,q⟩
 ·have e1:lo+((0:Nat):Int)*1=lo:=by simp
  have e2:(((hi - lo).toNat:Nat):Int) - ((0:Nat):Int)=Builtin.Range.rangeSize lo hi 1:=by rw[rangeSize_one];split<;>omega
  show IsRangeIter _ _ (lo+((0:Nat):Int)*1) ((((hi - lo).toNat:Nat):Int) - ((0:Nat):Int)) 1;rw[e1,e2];exact Heap.get?_push_size _ rfl
 ·have e:b=(s.heap.push { cls:=.type "range",data:=.fields #[.int lo t,.int hi u,.int 1 v] }).objs.size:=by simpa using hb
  subst e;exact I1.fpOk (Nat.le_refl _) (I1.hok.fresh (Nat.le_refl _))
def Xf (ta:TA):TI:=fun σ H R=>ta σ H fun vs H1=>∃j:Int,vs=[.int j]/\-(2 ^ 62)<=j/\j < 2 ^ 62/\R (Itr 0 j.toNat) H1
def Xy (ta:TA):TI:=fun σ H R=>ta σ H fun vs H1=>∃i j:Int,vs=[.int i,.int j]/\(-(2 ^ 62)<=i/\i < 2 ^ 62/\-(2 ^ 62)<=j/\j < 2 ^ 62)/\R (Itr i (j - i).toNat) H1
theorem fU {a:Expr}{ta:TA}{p pos:Pos}(hg:Gl X "range")(hm:X.mg "range"=none)(ha:PA X [a] ta)(hs:starEach [a] X.env=[(false,eval a X.env)]:=by rfl):PI X tg (.Call (.Name "range" p) [a] [] pos) (Xf ta):=by
 intro pins s σ H R I h;refine Call_ (jY I hg hm boot_range (PyProof.Rows.callWith_type1 (thn (ha pos pins s σ H _ I h) fun us s1 ⟨vs,H1,I1,r1,q1⟩=>?_) hs rfl));obtain⟨j,e,q1,q2,q⟩:=q1;subst e
 cases r1 with
 |cons r rr=>
  cases rr
  obtain⟨t,rfl⟩:=r;exact call_range_1 (Aj I1 (by omega) (by omega) q1 q2 (by simpa using q))
theorem vP {a b:Expr}{ta:TA}{p pos:Pos}(hg:Gl X "range")(hm:X.mg "range"=none)(ha:PA X [a,b] ta)(hs:starEach [a,b] X.env=[(false,eval a X.env),(false,eval b X.env)]:=by rfl)(hs2:starEach [b] X.env=[(false,eval b X.env)]:=by rfl) :
  PI X tg (.Call (.Name "range" p) [a,b] [] pos) (Xy ta):=by
 intro pins s σ H R I h;refine Call_ (jY I hg hm boot_range (PyProof.Rows.callWith_type1 (thn (ha pos pins s σ H _ I h) fun us s1 ⟨vs,H1,I1,r1,q1⟩=>?_) (by rw[hs,hs2]) (by rw[hs2];rfl)));obtain⟨i,j,e,⟨q1,q2,q3,q4⟩,q⟩:=q1;subst e
 cases r1 with
 |cons r rr=>
  cases rr with
  |cons r' rr=>
   cases rr
   obtain⟨t,rfl⟩:=r;obtain⟨t',rfl⟩:=r';exact call_range_2 (Aj I1 q1 q2 q3 q4 q)
def Yw (wi:TI)(g:TG)(tb:TS):TS:=fun D σ H=>wi σ H fun J H1=>∃W:Nat->Nat->St->Hp->Prop,(∃m,W 0 m σ H1)/\∀i m σ H,W i m σ H->
 (J.stop i H/\D.nx σ H)\/(J.go i H/\∃N:St->Hp->Prop,(∀σ' H',N σ' H'->∃m',m' < m/\W (i+1) m' σ' H')/\∀x H',J.yld i H x H'->g x σ H' fun σ2 H2=>tb { D with nx:=N,ct:=N,bk:=D.nx } σ2 H2)
def tH (fp:List Addr)(h:Heap):List (Addr × Obj):=fp.filterMap fun b=>(h.get? b).map fun o=>(b,o)
theorem jO {fp:List Addr}{h:Heap}{b:Addr}{o:Obj}(hb:b∈fp)(e:h.get? b=some o):(b,o)∈tH fp h:=List.mem_filterMap.mpr ⟨b,hb,by rw[e];rfl⟩
theorem Hh {fp:List Addr}{h:Heap}{p:Addr × Obj}(hp:p∈tH fp h):p.1∈fp/\h.get? p.1=some p.2:=by
 obtain⟨b,hb,e⟩:=List.mem_filterMap.mp hp
 cases q:h.get? b with
 |none=>rw[q] at e;cases e
 |some o=>
  rw[q] at e;have e':(b,o)=p:=Option.some.inj e;subst e';exact⟨hb,q⟩
theorem Inv.pinned {pins:List (Addr × Obj)}{σ:St}{H:Hp}{s:Shared}{fp:List Addr}(I:Inv X pins σ H s)(hf:∀b∈fp,mG X pins H b)(ho:∀b∈fp,∃o,s.heap.get? b=some o/\∀v,o.data≠.cell v):Inv X (pins++tH fp s.heap) σ H s:=
 I.pins_of fun p hp=>(List.mem_append.mp hp).elim (fun z=>I.pin p (List.mem_append_right _ z)) fun z=>by
  obtain⟨hb,e⟩:=Hh z;obtain⟨f0,f1,f2,_⟩:=hf p.1 hb;obtain⟨o,e',d⟩:=ho p.1 hb;rw[e] at e';cases e';exact⟨e,f0,f1,f2,d⟩
theorem Inv.unpinned {pins pl:List (Addr × Obj)}{σ:St}{H:Hp}{s:Shared}(I:Inv X (pins++pl) σ H s):Inv X pins σ H s:=I.pins_of fun p hp=>I.pin p (List.mem_append_right _ (List.mem_append_left _ hp))
theorem eU {iter:Expr}{body:List Stmt}{wi:TI}{g:TG}{tb:TS}{pos:Pos}(hp:PassesOwn (model X.prog X.w) X.A X.env X.xe)(hc:X.calm=true)(hi:PI X tg iter wi)(hg:PG X tg g)(hb:PSs X body tb)(hs:∀x,foldedSetIterable iter X.env x=pure x:=by intro _;rfl):PS X (.For tg iter body [] pos) (Yw wi g tb):=by
 intro pins s σ H D I h;refine wpAny_For (thn (hi pins s σ H _ I h) fun v s1 h1=>thn h1 fun itv s2 h2=>?_) hs;obtain⟨it,fp,tn,J,H2,e,I2,T,st2,f2,W,⟨m0,w0⟩,turn⟩:=h2;subst e;have stat:∀{H':Hp},(∀b∈fp,H' b=none)->∀b∈fp,mG X pins H' b:=fun hn b hb=>⟨hn b hb,(f2 b hb).2⟩
 refine codeAny_forLoop_any (fun n s'=>∃i σ' H',Inv X pins σ' H' s'/\tn i s'.heap/\(∀b∈fp,H' b=none)/\W i n σ' H') ?_ m0 ⟨0,σ,H2,I2,st2,fun b hb=>(f2 b hb).1,w0⟩;rintro n s3 ⟨i,σ3,H3,I3,st3,fr3,w3⟩;rcases turn i n σ3 H3 w3 with ⟨stop,qn⟩ | ⟨go,N,hN,step⟩
 ·refine wpAny_passesOwn hp (thn (T.done X rfl rfl rfl hc i pins s3 σ3 H3 X.xe I3 (stat fr3) st3 stop) fun r s4 ⟨hr,I4⟩=>?_);subst hr;exact wpAny_execs_nil ⟨σ3,H3,I4,qn⟩
 ·refine wpAny_passesOwn hp (thn (T.item X rfl rfl rfl hc i pins s3 σ3 H3 X.xe I3 (stat fr3) st3 go) fun r s4 ⟨u,hr,h4⟩=>?_);subst hr;refine wpAny_passesOwn hp (thn h4 fun _ s5 ⟨x,H5,I5,r5,y5,st5,fr5⟩=>?_);have I5':=I5.pinned (stat fr5) (T.obj _ _ st5);refine wpAny_passesOwn hp (thn (hg _ s5 σ3 H5 x u _ I5' r5 (step x H5 y5)) fun _ s6 ⟨σ6,H6,I6,q6⟩=>?_);refine wpAny_passesOwn hp (thn (hb _ s6 σ6 H6 _ I6 q6) fun f s7 q7=>?_);have again:∀{σ7:St} {H7:Hp},Inv X (pins++tH fp s5.heap) σ7 H7 s7->N σ7 H7->∃m,m < n/\∃i σ' H',Inv X pins σ' H' s7/\tn i s7.heap/\(∀b∈fp,H' b=none)/\W i m σ' H':=fun {σ7 H7} I7 n7=>by
   obtain⟨m',hm,w7⟩:=hN σ7 H7 n7;refine⟨m',hm,i+1,σ7,H7,I7.unpinned,T.keep _ _ _ st5 fun b hb o e=>(I7.pin (b,o) (List.mem_append_right _ (List.mem_append_right _ (jO hb e)))).1,fun b hb=>?_,w7⟩;obtain⟨o,e,d⟩:=T.obj _ _ st5 b hb;exact(I7.pin (b,o) (List.mem_append_right _ (List.mem_append_right _ (jO hb e)))).2.1
  cases f with
  |next=>obtain⟨σ7,H7,I7,n7⟩:=q7;exact again I7 n7
  |cont=>obtain⟨σ7,H7,I7,n7⟩:=q7;exact again I7 n7
  |brk=>obtain⟨σ7,H7,I7,q7⟩:=q7;exact⟨σ7,H7,I7.unpinned,q7⟩
  |ret v=>obtain⟨x7,σ7,H7,I7,r7,q7⟩:=q7;exact⟨x7,σ7,H7,I7.unpinned,r7,q7⟩
end
theorem gB {K:PySem.W.Frag}{a:Addr}{xs:List V}{g:TG}{tb:TS}{D:mF}{σ:St}{H:Hp}(Pv:Nat->St->Hp->Prop)(h0:Pv 0 σ H)(hl:∀i σ H,i<=xs.length->Pv i σ H->SqL K H a xs)(hs:∀i x σ H,xs[i]?=some x->Pv i σ H->g x σ H fun σ2 H2=>tb { D with nx:=Pv (i+1),ct:=Pv (i+1),bk:=D.nx } σ2 H2)(hd:∀σ H,Pv xs.length σ H->D.nx σ H) :
  ∃W:Nat->Nat->St->Hp->Prop,(∃m,W 0 m σ H)/\∀i m σ H,W i m σ H->
   ((Itl K a).stop i H/\D.nx σ H)\/((Itl K a).go i H/\∃N:St->Hp->Prop,(∀σ' H',N σ' H'->∃m',m' < m/\W (i+1) m' σ' H')/\∀x H',(Itl K a).yld i H x H'->g x σ H' fun σ2 H2=>tb { D with nx:=N,ct:=N,bk:=D.nx } σ2 H2):=by
 refine⟨fun i m σ H=>m=xs.length - i/\i<=xs.length/\Pv i σ H,⟨xs.length,by simp,Nat.zero_le _,h0⟩,?_⟩;rintro i m σ H ⟨rfl,hi,p⟩;have q:=hl i σ H hi p
 by_cases hlt:i < xs.length
 ·refine .inr ⟨⟨xs,xs[i],q,by simp[hlt]⟩,Pv (i+1),fun σ' H' p'=>⟨xs.length - (i+1),by omega,rfl,hlt,p'⟩,fun x H' y=>?_⟩;obtain⟨e,y⟩:=y;subst e;exact hs i x σ _ (y xs q) p
 ·have e:i=xs.length:=by omega
  subst e;exact .inl ⟨⟨xs,q,Nat.le_refl _⟩,hd σ H p⟩
theorem Pj {K:PySem.W.Frag}{a:Addr}{xs:List V}{g:TG}{tb:TS}{D:mF}{σ:St}{H:Hp}(Pv:Nat->St->Hp->Prop)(h0:Pv 0 σ H)(hl:∀i σ H,i<=xs.length->Pv i σ H->SqT K H a xs)(hs:∀i x σ H,xs[i]?=some x->Pv i σ H->g x σ H fun σ2 H2=>tb { D with nx:=Pv (i+1),ct:=Pv (i+1),bk:=D.nx } σ2 H2)(hd:∀σ H,Pv xs.length σ H->D.nx σ H) :
  ∃W:Nat->Nat->St->Hp->Prop,(∃m,W 0 m σ H)/\∀i m σ H,W i m σ H->
   ((Itt K a).stop i H/\D.nx σ H)\/((Itt K a).go i H/\∃N:St->Hp->Prop,(∀σ' H',N σ' H'->∃m',m' < m/\W (i+1) m' σ' H')/\∀x H',(Itt K a).yld i H x H'->g x σ H' fun σ2 H2=>tb { D with nx:=N,ct:=N,bk:=D.nx } σ2 H2):=by
 refine⟨fun i m σ H=>m=xs.length - i/\i<=xs.length/\Pv i σ H,⟨xs.length,by simp,Nat.zero_le _,h0⟩,?_⟩;rintro i m σ H ⟨rfl,hi,p⟩;have q:=hl i σ H hi p
 by_cases hlt:i < xs.length
 ·refine .inr ⟨⟨xs,xs[i],q,by simp[hlt]⟩,Pv (i+1),fun σ' H' p'=>⟨xs.length - (i+1),by omega,rfl,hlt,p'⟩,fun x H' y=>?_⟩;obtain⟨e,y⟩:=y;subst e;exact hs i x σ _ (y xs q) p
 ·have e:i=xs.length:=by omega
  subst e;exact .inl ⟨⟨xs,q,Nat.le_refl _⟩,hd σ H p⟩
theorem gO {lo:Int}{n:Nat}{g:TG}{tb:TS}{D:mF}{σ:St}{H:Hp}(Pv:Nat->St->Hp->Prop)(h0:Pv 0 σ H)(hs:∀i σ H,i < n->Pv i σ H->g (.int (lo+i)) σ H fun σ2 H2=>tb { D with nx:=Pv (i+1),ct:=Pv (i+1),bk:=D.nx } σ2 H2)(hd:∀σ H,Pv n σ H->D.nx σ H) :
  ∃W:Nat->Nat->St->Hp->Prop,(∃m,W 0 m σ H)/\∀i m σ H,W i m σ H->
   ((Itr lo n).stop i H/\D.nx σ H)\/((Itr lo n).go i H/\∃N:St->Hp->Prop,(∀σ' H',N σ' H'->∃m',m' < m/\W (i+1) m' σ' H')/\∀x H',(Itr lo n).yld i H x H'->g x σ H' fun σ2 H2=>tb { D with nx:=N,ct:=N,bk:=D.nx } σ2 H2):=by
 refine⟨fun i m σ H=>m=n - i/\i<=n/\Pv i σ H,⟨n,by simp,Nat.zero_le _,h0⟩,?_⟩;rintro i m σ H ⟨rfl,hi,p⟩
 by_cases hlt:i < n
 ·refine .inr ⟨hlt,Pv (i+1),fun σ' H' p'=>⟨n - (i+1),by omega,rfl,hlt,p'⟩,fun x H' y=>?_⟩;obtain⟨e,y⟩:=y;subst e y;exact hs i σ _ hlt p
 ·have e:i=n:=by omega
  subst e;exact .inl ⟨Nat.le_refl _,hd σ H p⟩
theorem tY {c:TT}{tb:TS}{D:mF}{σ:St}{H:Hp}(Pv:St->Hp->Prop)(μ:St->Hp->Nat)(h0:Pv σ H)(hs:∀σ H,Pv σ H->c σ H fun b H1=>if b=true then tb { D with nx:=fun σ' H'=>Pv σ' H'/\μ σ' H' < μ σ H,ct:=fun σ' H'=>Pv σ' H'/\μ σ' H' < μ σ H,bk:=D.nx } σ H1 else D.nx σ H1)(mono:∀σ H Q Q',(∀b H1,Q b H1->Q' b H1)->c σ H Q->c σ H Q'):Kk c tb D σ H:=by
 refine⟨fun m σ H=>m=μ σ H/\Pv σ H,⟨_,rfl,h0⟩,?_⟩;rintro m σ H ⟨rfl,p⟩;refine mono σ H _ _ (fun b H1 q=>?_) (hs σ H p)
 cases b with
 |true=>exact⟨_,fun σ' H' ⟨p',l⟩=>⟨_,l,rfl,p'⟩,q⟩
 |false=>exact q
abbrev R2:=V->V->Hp->VK->Prop
def OpR (X:Cx)(f:Value->Value->Sem Value)(r:R2):Prop:=
 ∀(pins:List (Addr × Obj)) (s:Shared) (σ:St) (H:Hp) (x y:V) (v u:Value) (Q:VK),Inv X pins σ H s->cD x v->cD y u->r x y H Q->
  wpAny (model X.prog X.w) X.A (f v u) (EP X pins σ Q) X.xe s
def UnR (X:Cx)(f:Value->Sem Value)(r:V->Hp->VK->Prop):Prop:=
 ∀(pins:List (Addr × Obj)) (s:Shared) (σ:St) (H:Hp) (x:V) (v:Value) (Q:VK),Inv X pins σ H s->cD x v->r x H Q->
  wpAny (model X.prog X.w) X.A (f v) (EP X pins σ Q) X.xe s
def mM (X:Cx)(f:Value)(r:List V->Hp->VK->Prop):Prop:=
 ∀(pins:List (Addr × Obj)) (s:Shared) (σ:St) (H:Hp) (xs:List V) (us:List Value) (Q:VK),Inv X pins σ H s->bY xs us->r xs H Q->
  wpAny (model X.prog X.w) X.A (call f us) (EP X pins σ Q) X.xe s
def tOp (r:R2)(ta tb:TE):TE:=fun σ H Q=>ta σ H fun x H1=>tb σ H1 fun y H2=>r x y H2 Q
def tUn (r:V->Hp->VK->Prop)(ta:TE):TE:=fun σ H Q=>ta σ H fun x H1=>r x H1 Q
def rI (C:Int->Int->Prop)(g:Int->Int->V):R2:=fun x y H Q=>∃i j,x=.int i/\y=.int j/\C i j/\Q (g i j) H
def rI0 (g:Int->Int->V):R2:=fun x y H Q=>∃i j,x=.int i/\y=.int j/\Q (g i j) H
def rU (g:Int->V):V->Hp->VK->Prop:=fun x H Q=>∃i,x=.int i/\Q (g i) H
section
variable {X:Cx} {a b c:Expr} {ta tb tc:TE} {pos:Pos}
theorem Vo (ha:PE X a ta)(hb:PE X b tb){pins:List (Addr × Obj)}{s:Shared}{σ:St}{H:Hp}{R:V->V->Hp->Prop}(I:Inv X pins σ H s)(h:ta σ H fun x H1=>tb σ H1 fun y H2=>R x y H2){Q:Value->Shared->Prop}{f:Value->Value->Sem Value}(hf:∀v u s2 x y H2,Inv X pins σ H2 s2->cD x v->cD y u->R x y H2->wpAny (model X.prog X.w) X.A (f v u) Q X.xe s2) :
  wpAny (model X.prog X.w) X.A (eval a X.env) (fun v s₁=>wpAny (model X.prog X.w) X.A (eval b X.env) (fun u s₂=>wpAny (model X.prog X.w) X.A (f v u) Q X.xe s₂) X.xe s₁) X.xe s:=by
 refine thn (ha pins s σ H _ I h) fun v s1 ⟨x,H1,I1,r1,q1⟩=>?_;refine thn (hb pins s1 σ H1 _ I1 q1) fun u s2 ⟨y,H2,I2,r2,q2⟩=>?_;exact hf v u s2 x y H2 I2 r1 r2 q2
theorem aY {op:Operator}{r:R2}(ho:OpR X (binaryOp op) r)(ha:PE X a ta)(hb:PE X b tb):PE X (.BinOp a op b pos) (tOp r ta tb):=by
 intro pins s σ H Q I h;exact wpAny_BinOp (Vo ha hb I h fun v u s2 x y H2 I2 rx ry q=>ho pins s2 σ H2 x y v u Q I2 rx ry q)
theorem Li {op:UnaryOp}{r:V->Hp->VK->Prop}(ho:UnR X (unaryOp op) r)(ha:PE X a ta):PE X (.UnaryOp op a pos) (tUn r ta):=by
 intro pins s σ H Q I h;exact UnaryOp_ (thn (ha pins s σ H _ I h) fun v s1 ⟨x,H1,I1,r1,q1⟩=>ho pins s1 σ H1 x v Q I1 r1 q1)
theorem opI {f:Value->Value->Sem Value}{C:Int->Int->Prop}{g:Int->Int->Int}(rule:∀(i j:Int) (t u:Tok) (s:Shared) (Q:Value->Shared->Prop) (E:Value->Shared->Prop),C i j->Q (.int (g i j) s.toks) { s with toks:=s.toks+1 }->wpAny (model X.prog X.w) X.A (f (.int i t) (.int j u)) Q E s) :
  OpR X f (rI C fun i j=>.int (g i j)):=by
 intro pins s σ H x y v u Q I rx ry h;obtain⟨i,j,rfl,rfl,hc,q⟩:=h;obtain⟨t,rfl⟩:=rx;obtain⟨t',rfl⟩:=ry;exact rule i j t t' s _ _ hc ⟨.int (g i j),H,I.tok _,⟨_,rfl⟩,q⟩
theorem Vr {f:Value->Value->Sem Value}{g:Int->Int->Int}(rule:∀(i j:Int) (t u:Tok) (s:Shared) (Q:Value->Shared->Prop) (E:Value->Shared->Prop),Q (.int (g i j) s.toks) { s with toks:=s.toks+1 }->wpAny (model X.prog X.w) X.A (f (.int i t) (.int j u)) Q E s) :
  OpR X f (rI0 fun i j=>.int (g i j)):=by
 intro pins s σ H x y v u Q I rx ry h;obtain⟨i,j,rfl,rfl,q⟩:=h;obtain⟨t,rfl⟩:=rx;obtain⟨t',rfl⟩:=ry;exact rule i j t t' s _ _ ⟨.int (g i j),H,I.tok _,⟨_,rfl⟩,q⟩
theorem Ve {f:Value->Value->Sem Value}{g:Int->Int->Bool}(rule:∀(i j:Int) (t u:Tok) (s:Shared) (Q:Value->Shared->Prop) (E:Value->Shared->Prop),Q (.bool (g i j)) s->wpAny (model X.prog X.w) X.A (f (.int i t) (.int j u)) Q E s) :
  OpR X f (rI0 fun i j=>.bl (g i j)):=by
 intro pins s σ H x y v u Q I rx ry h;obtain⟨i,j,rfl,rfl,q⟩:=h;obtain⟨t,rfl⟩:=rx;obtain⟨t',rfl⟩:=ry;exact rule i j t t' s _ _ ⟨.bl (g i j),H,I,rfl,q⟩
def Zg (i j:Int):Prop:=0 < j/\j < 1073741824
def Yp (i j:Int):Prop:=0<=j/\j<=1000000/\i.natAbs < 2 ^ 64
def Tr (i j:Int):Prop:=(-(2 ^ 64) < i/\i < 2 ^ 64)\/(-(2 ^ 64) < j/\j < 2 ^ 64)
theorem Tr.ok {i j:Int}(h:Tr i j):IntMulOk i j:=by
 rcases h with ⟨h1,h2⟩ | ⟨h1,h2⟩
 ·exact .of_left (intBits_le_64 h1 h2)
 ·exact .of_right (intBits_le_64 h1 h2)
theorem dH:OpR X (binaryOp .Add) (rI0 fun i j=>.int (i+j)):=Vr fun _ _ _ _ _ _ _ q=>add_int q
theorem iZ:OpR X (binaryOp .Sub) (rI0 fun i j=>.int (i - j)):=Vr fun _ _ _ _ _ _ _ q=>sub_int q
theorem tK:OpR X (binaryOp .Mult) (rI Tr fun i j=>.int (i*j)):=opI fun _ _ _ _ _ _ _ hc q=>mul_int q hc.ok
theorem nY:OpR X (binaryOp .FloorDiv) (rI Zg fun i j=>.int (i / j)):=opI fun i j _ _ _ _ _ hc q=>by
 have h1:(0:Int) < j:=hc.1;have h2:j < 1073741824:=hc.2;exact floordiv_int (by omega) (by rw[Int.fdiv_eq_ediv_of_nonneg i (by omega)];exact q) (.inl (PyProof.noPylong_small (by omega)))
theorem tI:OpR X (binaryOp .Mod) (rI (fun _ j=>0 < j) fun i j=>.int (i % j)):=opI fun i j _ _ _ _ _ hc q=>by
 have h1:(0:Int) < j:=hc;exact mod_int' (by omega) (by rw[Int.fmod_eq_emod_of_nonneg i (by omega)];exact q)
theorem kA:OpR X (binaryOp .Mod) (rI (fun _ j=>j≠0) fun i j=>.int (i.fmod j)):=opI fun _ _ _ _ _ _ _ hc q=>mod_int' hc q
theorem Ct:OpR X (binaryOp .Pow) (rI Yp fun i j=>.int (i ^ j.toNat)):=opI fun _ _ _ _ _ _ _ hc q=>pow_int_small hc.1 hc.2.1 hc.2.2 q
theorem unI {f:Value->Sem Value}{g:Int->Int}(rule:∀(i:Int) (t:Tok) (s:Shared) (Q:Value->Shared->Prop) (E:Value->Shared->Prop),Q (.int (g i) s.toks) { s with toks:=s.toks+1 }->wpAny (model X.prog X.w) X.A (f (.int i t)) Q E s) :
  UnR X f (rU fun i=>.int (g i)):=by
 intro pins s σ H x v Q I rx h;obtain⟨i,rfl,q⟩:=h;obtain⟨t,rfl⟩:=rx;exact rule i t s _ _ ⟨.int (g i),H,I.tok _,⟨_,rfl⟩,q⟩
theorem Cy:UnR X (unaryOp .USub) (rU fun i=>.int (-i)):=unI fun _ _ _ _ _ q=>neg_int q
end
def Wn:V->V->Bool
 | .non,.non=>true | .non,.int _=>true | .int _,.non=>true | .non,.bl _=>true | .bl _,.non=>true | .non,.str _=>true | .str _,.non=>true
 | .int _,.int _=>true | .bl _,.bl _=>true | .str _,.str _=>true | .byt _,.byt _=>true
 | .int _,.str _=>true | .str _,.int _=>true | .bl _,.str _=>true | .str _,.bl _=>true
 |_,_=>false
def rEq:R2:=fun x y H Q=>Wn x y=true/\Q (.bl (decide (x=y))) H
def rNe:R2:=fun x y H Q=>Wn x y=true/\Q (.bl (!decide (x=y))) H
theorem Fo {i j:Int}:decide (V.int i=V.int j)=(i == j):=by
 rw[Bool.eq_iff_iff];simp
theorem Lw {i j:Bool}:decide (V.bl i=V.bl j)=(i == j):=by
 rw[Bool.eq_iff_iff];simp
theorem Eu {i j:Str}:decide (V.str i=V.str j)=(i == j):=by
 rw[Bool.eq_iff_iff];simp
theorem Ds {i j:Array UInt8}:decide (V.byt i=V.byt j)=(i.toList == j.toList):=by
 rw[Bool.eq_iff_iff]
 cases i
 cases j
 simp
section
variable {X:Cx} {a b c:Expr} {ta tb tc:TE} {pos:Pos}
theorem cQ {pins:List (Addr × Obj)}{σ:St}{H:Hp}{s:Shared}{Q:VK}{k k':Bool}(I:Inv X pins σ H s)(q:Q (.bl k) H)(e:k=k'):EP X pins σ Q (.bool k') s:=by
 subst e;exact⟨.bl k,H,I,rfl,q⟩
theorem eE:OpR X (compareOp .Eq) rEq:=by
 intro pins s σ H x y v u Q I rx ry h;obtain⟨hs,q⟩:=h
 cases x with
 |non=>
  cases rx
  cases y with
  |non=>cases ry;exact PySem.EqNone.eq_none_none (cQ I q (by simp))
  |bl j=>cases ry;exact PySem.EqNone.eq_none_bool (cQ I q (by simp))
  |int j=>obtain⟨t',rfl⟩:=ry;exact PySem.EqNone.eq_none_int (cQ I q (by simp))
  |str j=>obtain⟨t',rfl⟩:=ry;exact PySem.EqNone.eq_none_str (cQ I q (by simp))
  |_=>exact absurd (show false=true from hs) Bool.false_ne_true
 |bl i=>
  cases rx
  cases y with
  |non=>cases ry;exact PySem.EqNone.eq_bool_none (cQ I q (by simp))
  |bl j=>cases ry;exact eq_bool (cQ I q Lw)
  |str j=>obtain⟨t',rfl⟩:=ry;exact PySem.EqMixed.eq_bool_str (cQ I q (by simp))
  |_=>exact absurd (show false=true from hs) Bool.false_ne_true
 |int i=>
  obtain⟨t,rfl⟩:=rx
  cases y with
  |non=>cases ry;exact PySem.EqNone.eq_int_none (cQ I q (by simp))
  |int j=>obtain⟨t',rfl⟩:=ry;exact eq_int (cQ I q Fo)
  |str j=>obtain⟨t',rfl⟩:=ry;exact PySem.EqMixed.eq_int_str (cQ I q (by simp))
  |_=>exact absurd (show false=true from hs) Bool.false_ne_true
 |str i=>
  obtain⟨t,rfl⟩:=rx
  cases y with
  |non=>cases ry;exact PySem.EqNone.eq_str_none (cQ I q (by simp))
  |bl j=>cases ry;exact PySem.EqMixed.eq_str_bool (cQ I q (by simp))
  |int j=>obtain⟨t',rfl⟩:=ry;exact PySem.EqMixed.eq_str_int (cQ I q (by simp))
  |str j=>obtain⟨t',rfl⟩:=ry;exact eq_str (cQ I q Eu)
  |_=>exact absurd (show false=true from hs) Bool.false_ne_true
 |byt i=>
  obtain⟨t,rfl⟩:=rx
  cases y with
  |byt j=>obtain⟨t',rfl⟩:=ry;exact PySem.W.eq_bytes (cQ I q Ds)
  |_=>exact absurd (show false=true from hs) Bool.false_ne_true
 |_=>cases y<;>exact absurd (show false=true from hs) Bool.false_ne_true
theorem kY:OpR X (compareOp .NotEq) rNe:=by
 intro pins s σ H x y v u Q I rx ry h;obtain⟨hs,q⟩:=h
 cases x with
 |non=>
  cases rx
  cases y with
  |non=>cases ry;exact PySem.EqNone.ne_none_none (cQ I q (by simp))
  |bl j=>cases ry;exact PySem.EqNone.ne_none_bool (cQ I q (by simp))
  |int j=>obtain⟨t',rfl⟩:=ry;exact PySem.EqNone.ne_none_int (cQ I q (by simp))
  |str j=>obtain⟨t',rfl⟩:=ry;exact PySem.EqNone.ne_none_str (cQ I q (by simp))
  |_=>exact absurd (show false=true from hs) Bool.false_ne_true
 |bl i=>
  cases rx
  cases y with
  |non=>cases ry;exact PySem.EqNone.ne_bool_none (cQ I q (by simp))
  |bl j=>cases ry;exact ne_bool (cQ I q (congrArg not Lw))
  |str j=>obtain⟨t',rfl⟩:=ry;exact PySem.EqMixed.ne_bool_str (cQ I q (by simp))
  |_=>exact absurd (show false=true from hs) Bool.false_ne_true
 |int i=>
  obtain⟨t,rfl⟩:=rx
  cases y with
  |non=>cases ry;exact PySem.EqNone.ne_int_none (cQ I q (by simp))
  |int j=>obtain⟨t',rfl⟩:=ry;exact ne_int (cQ I q (congrArg not Fo))
  |str j=>obtain⟨t',rfl⟩:=ry;exact PySem.EqMixed.ne_int_str (cQ I q (by simp))
  |_=>exact absurd (show false=true from hs) Bool.false_ne_true
 |str i=>
  obtain⟨t,rfl⟩:=rx
  cases y with
  |non=>cases ry;exact PySem.EqNone.ne_str_none (cQ I q (by simp))
  |bl j=>cases ry;exact PySem.EqMixed.ne_str_bool (cQ I q (by simp))
  |int j=>obtain⟨t',rfl⟩:=ry;exact PySem.EqMixed.ne_str_int (cQ I q (by simp))
  |str j=>obtain⟨t',rfl⟩:=ry;exact ne_str (cQ I q (congrArg not Eu))
  |_=>exact absurd (show false=true from hs) Bool.false_ne_true
 |byt i=>
  obtain⟨t,rfl⟩:=rx
  cases y with
  |byt j=>obtain⟨t',rfl⟩:=ry;exact PySem.W.ne_bytes (cQ I q (congrArg not Ds))
  |_=>exact absurd (show false=true from hs) Bool.false_ne_true
 |_=>cases y<;>exact absurd (show false=true from hs) Bool.false_ne_true
theorem wG:OpR X (compareOp .Lt) (rI0 fun i j=>.bl (decide (i < j))):=Ve fun _ _ _ _ _ _ _ q=>lt_int q
theorem Ew:OpR X (compareOp .Gt) (rI0 fun i j=>.bl (decide (j < i))):=Ve fun _ _ _ _ _ _ _ q=>gt_int q
theorem Jp:OpR X (compareOp .GtE) (rI0 fun i j=>.bl (decide (j<=i))):=Ve fun _ _ _ _ _ _ _ q=>ge_int q
theorem bM (b:Expr){op:CmpOp}(h:op≠.In:=by decide)(h2:op≠.NotIn:=by decide):behindInMarks op b=false:=by
 have e1:(op == CmpOp.In)=false:=by cases op<;>first | rfl | exact absurd rfl h
 have e2:(op == CmpOp.NotIn)=false:=by cases op<;>first | rfl | exact absurd rfl h2
 cases b<;>simp[behindInMarks,e1,e2]
theorem iC {op:CmpOp}{r:R2}(ho:OpR X (compareOp op) r)(ha:PE X a ta)(hb:PE X b tb)(hm:behindInMarks op b=false):PE X (.Compare a [op] [b] pos) (tOp r ta tb):=by
 intro pins s σ H Q I h;exact wpAny_Compare1 (Vo ha hb I h fun v u s2 x y H2 I2 rx ry q=>ho pins s2 σ H2 x y v u Q I2 rx ry q) hm
def Xe (t:TE):TT:=fun σ H Q=>t σ H fun x H'=>∃k,x=.bl k/\Q k H'
theorem bK {op:CmpOp}{r:R2}(ho:OpR X (compareOp op) r)(ha:PE X a ta)(hb:PE X b tb)(hm:behindInMarks op b=false):PT X (.Compare a [op] [b] pos) (Xe (tOp r ta tb)):=by
 intro pins s σ H Q I h;refine wpAny_isTrue_Compare1 (thn (ha pins s σ H _ I h) fun v s1 ⟨x,H1,I1,r1,q1⟩=>thn (hb pins s1 σ H1 _ I1 q1) fun u s2 ⟨y,H2,I2,r2,q2⟩=>
  thn (ho pins s2 σ H2 x y v u _ I2 r1 r2 q2) fun c s3 ⟨z,H3,I3,r3,k,e,q3⟩=>?_) hm
 subst e
 cases r3
 exact wpAny_truthy_bool ⟨H3,I3,q3⟩
theorem xW:(sizeLine:Nat) < 2 ^ 63:=by rw[sizeLine_eq];decide
theorem tG {x:V}{us:List Value}(r:bY [x] us):∃u,us=[u]/\cD x u:=by
 cases r with
 |cons r1 r2=>cases r2;exact⟨_,rfl,r1⟩
theorem Dv {x y:V}{us:List Value}(r:bY [x,y] us):∃u w',us=[u,w']/\cD x u/\cD y w':=by
 cases r with
 |cons r1 r2=>
  cases r2 with
  |cons r3 r4=>cases r4;exact⟨_,_,rfl,r1,r3⟩
theorem tV:mM X (.builtin "abs") (fun xs H Q=>∃i,xs=[.int i]/\Q (.int (if i < 0 then -i else i)) H):=by
 intro pins s σ H xs us Q I r h;obtain⟨i,rfl,q⟩:=h;obtain⟨u,rfl,t,rfl⟩:=tG r;exact call_abs_int fun u tk=>⟨.int (if i < 0 then -i else i),H,I.tok _,⟨_,rfl⟩,q⟩
theorem Gk (hc:X.calm=true):mM X (.builtin "min") (fun xs H Q=>∃i j,xs=[.int i,.int j]/\Q (.int (if j < i then j else i)) H):=by
 intro pins s σ H xs us Q I r h;obtain⟨i,j,rfl,q⟩:=h;obtain⟨u,w',rfl,⟨t,rfl⟩,⟨t',rfl⟩⟩:=Dv r;refine min_two_ints (I.ok.hd hc) fun h' tk k=>⟨_,H,I.kept k,?_,q⟩
 by_cases hj:j < i
 ·rw[if_pos hj,if_pos hj];exact⟨_,rfl⟩
 ·rw[if_neg hj,if_neg hj];exact⟨_,rfl⟩
theorem Hm:mM X (.type "int") (fun xs H Q=>(∃i,xs=[.int i]/\Q (.int i) H)\/∃k,xs=[.bl k]/\Q (.int (if k then 1 else 0)) H):=by
 intro pins s σ H xs us Q I r h;rcases h with ⟨i,rfl,q⟩ | ⟨k,rfl,q⟩
 ·obtain⟨u,rfl,t,rfl⟩:=tG r;exact call_int_int ⟨.int i,H,I,⟨_,rfl⟩,q⟩
 ·obtain⟨u,rfl,r1⟩:=tG r
  cases r1
  exact call_int_bool ⟨.int (if k then 1 else 0),H,I.tok _,⟨_,rfl⟩,q⟩
end
structure Ci (h:Heap) (x dx C:Addr) (mA:Str->Option Value):Prop where
 obj:h.get? x=some (PySem.W.instObj C dx)
 ns:h.Ns1 dx mA
 ne:dx≠x
theorem Hq {h:Heap}{dx:Addr}{mA:Str->Option Value}(n:h.Ns1 dx mA):∃od,h.get? dx=some od/\∀name,PySem.W.lookIn name od=some (mA name):=by
 obtain⟨o,es,ep,ho,hd,hk,_,hm⟩:=n;refine⟨o,ho,fun name=>?_⟩;have e:=hm name;unfold nsFind findBy at e;rw[<- Array.find?_toList] at e;unfold PySem.W.lookIn;rw[hd];dsimp only;split
 ·rename_i y q
  rw[q] at e;exact congrArg some e
 ·rename_i q
  rw[q] at e;have a:es.toList.any (·.refKey)=false:=by
   rw[List.any_eq_false];intro y hy;obtain⟨z,t,hkey⟩:=hk y (Array.mem_toList_iff.mp hy);simp[DictEntry.refKey,hkey]
  have a':¬es.toList.any (·.refKey)=true:=by rw[a];exact Bool.false_ne_true
  rw[if_neg a'];exact congrArg some e
theorem Ci.look {h:Heap}{x dx C:Addr}{mA:Str->Option Value}(I:Ci h x dx C mA):∃od,PySem.W.InstAt h x (PySem.W.instObj C dx) C (some od)/\∀name,PySem.W.lookIn name od=some (mA name):=
 let ⟨od,ho,hl⟩:=Hq I.ns
 ⟨od,⟨I.obj,rfl,rfl,ho⟩,hl⟩
section
variable {prog:Program} {w:World} {A:Around} {E:Value->Shared->Prop} {s:Shared} {K:PySem.W.Frag} {x dx C f:Addr} {mA:Str->Option Value} {name:Str} {v:Value}
theorem Oy {expr:Bool}{Q:Value->Shared->Prop}(X:K.In s.heap)(I:Ci s.heap x dx C mA)(hg:PySem.W.plainGet K C name=true)(hh:PySem.W.hasDictIn K C=true)(ha:PySem.W.findIn K (.ref C) name=some none)(hv:mA name=some v)(hv':PySem.W.handedIn v=true)(h:Q v { s with toks:=s.toks+1 }) :
  wpAny (model prog w) A (getAttr (.ref x) name expr) Q E s:=by
 obtain⟨od,J,hl⟩:=I.look;exact PySem.W.get_value X J (PySem.W.plainGet_of hg).1 (PySem.W.findObj_own hh ha rfl (by rw[hl,hv])) hv' h
theorem Ln {pl:Sem Bool}{Q:Value × List Value->Shared->Prop}(X:K.In s.heap)(I:Ci s.heap x dx C mA)(hg:PySem.W.plainGet K C name=true)(hf:PySem.W.findIn K (.ref C) name=some (some (.ref f)))(ht:PySem.W.isFn K (.ref f)=true)(hv:mA name=none)(h:Q (.ref f,[.ref x]) s) :
  wpAny (model prog w) A (getMethod (.ref x) name pl) Q E s:=by
 obtain⟨od,J,hl⟩:=I.look;exact PySem.W.method_fn X J (PySem.W.plainGet_of hg).1 (PySem.W.plainGet_of hg).2 hf (beq_iff_eq.mp ht) (by show (PySem.W.lookIn name od).map (·.isSome)=some false;rw[hl,hv];rfl) h
theorem Rh {ns:List Str}{Q:Unit->Shared->Prop}(X:K.In s.heap)(I:Ci s.heap x dx C mA)(hs:PySem.W.findIn K (.ref C) "__setattr__"=some (some (.builtin "object.__setattr__")))(hp:PySem.W.plainOver K C=true)(ht:PySem.W.takerIn K C name=some none)(hh:PySem.W.hasDictIn K C=true)(hw:PySem.Within mA ns)(hsz:ns.length<=sizeLine)(h:∀h',Ci h' x dx C (fun y=>if y=name then some v else mA y)->Heap.SameBut dx s.heap h'->Q () { s with heap:=h',toks:=s.toks+2 }) :
  wpAny (model prog w) A (setAttr (.ref x) name v) Q E s:=by
 obtain⟨od,J,hl⟩:=I.look;refine PySem.W.set_plain X J hs (PySem.W.osa_open (s:={ s with toks:=s.toks+1 }) (r:=none) X J hp ht fun b=>?_);obtain⟨cd,hc,hd'⟩:=PySem.W.any_some hh;have hx:s.heap.get? x=some ⟨.ref C,some dx,.plain,#[]⟩:=I.obj;refine wpAny_bind (wpAny_pure (wpAny_bind (wpAny_bind (wpAny_loadPart hx (wpAny_bind (PySem.W.Looks.here (s:={ s with toks:=s.toks+1 }) (PySem.W.looks_clsIn X hc) ?_))))));rw[hd'];refine wpAny_pure (a:=some dx) (wpAny_bind (wpAny_pure (wpAny_bind ?_)));refine wpAny_nsSet1 (s:={ s with toks:=s.toks+1 }) I.ns fun h' hn2 hs2=>?_;obtain⟨oD,esD,epD,hoD,hdD,hcD⟩:=hn2.count (PySem.Within.cons name v hw);refine wpAny_bind (wpAny_lookBehind hoD (by rw[hdD];exact pastItsLine_dict (Nat.le_trans hcD (by rw[List.length_cons];omega))) ?_);exact wpAny_pure (h _ ⟨(hs2.2 _ (Ne.symm I.ne)).trans I.obj,hn2,I.ne⟩ hs2)
theorem Ku {R:Result->Shared->Prop}{vs:List Value}{kw:List (Str × Value)}(X:K.In s.heap)(hm:PySem.W.makesIn K C=true)(hi:PySem.W.findIn K (.ref C) "__init__"=some (some (.ref f)))(hf:PySem.W.typeIn K (.ref f)=some (.type "function"))(h:codeAny (model prog w) (A.under (.builtin "type.__call__" ⟨.ref C :: vs,kw⟩)) (.call (.ref f) ⟨.ref (s.heap.objs.size+1) :: vs,kw⟩) (PySem.W.InitBack (s.heap.objs.size+1) R)
   { s with heap:=(s.heap.push PySem.W.emptyDict).push (PySem.W.instObj C s.heap.objs.size) }) :
  codeAny (model prog w) A (.call (.ref C) ⟨vs,kw⟩) R s:=by
 obtain⟨hh,g,d,t,os⟩:=s;exact PySem.W.make_core (PySem.W.makes_of X hm) (PySem.W.looks_findIn X hi) (fun self=>PySem.W.bind_fn X self hf) (.inl rfl) h
end
def iI (f:Str)(v:V):List (Str × V)->List (Str × V)
 | []=>[(f,v)]
 | (g,x) :: r=>if g=f then (g,v) :: r else (g,x) :: iI f v r
theorem cB (f g:Str)(v:V):∀fs:List (Str × V),(iI f v fs).lookup g=if g=f then some v else fs.lookup g
 | []=>by
  show List.lookup g [(f,v)]=_
  by_cases h:g=f
  ·have hb:(g == f)=true:=beq_iff_eq.mpr h;simp only[List.lookup,hb,if_pos h]
  ·have hb:(g == f)=false:=beq_eq_false_iff_ne.mpr h;simp only[List.lookup,hb,if_neg h]
 | (k,x) :: r=>by
  have ih:=cB f g v r;rw[show iI f v ((k,x) :: r)=(if k=f then (k,v) :: r else (k,x) :: iI f v r) from rfl]
  by_cases hk:k=f
  ·rw[if_pos hk]
   by_cases h:g=k
   ·have hb:(g == k)=true:=beq_iff_eq.mpr h;simp only[List.lookup,hb,if_pos (h.trans hk)]
   ·have hb:(g == k)=false:=beq_eq_false_iff_ne.mpr h;simp only[List.lookup,hb,if_neg (fun e:g=f=>h (e.trans hk.symm))]
  ·rw[if_neg hk]
   by_cases h:g=k
   ·have hb:(g == k)=true:=beq_iff_eq.mpr h;simp only[List.lookup,hb,if_neg (fun e:g=f=>hk (h.symm.trans e))]
   ·have hb:(g == k)=false:=beq_eq_false_iff_ne.mpr h;simp only[List.lookup,hb];exact ih
theorem qI (f:Str)(v:V):∀fs:List (Str × V),f∈(iI f v fs).map (·.1)/\∀g,g∈fs.map (·.1)->g∈(iI f v fs).map (·.1)
 | []=>⟨by simp[iI],fun g h=>by simp at h⟩
 | (k,x) :: r=>by
  obtain⟨i1,i2⟩:=qI f v r;rw[show iI f v ((k,x) :: r)=(if k=f then (k,v) :: r else (k,x) :: iI f v r) from rfl]
  by_cases hk:k=f
  ·rw[if_pos hk];subst hk;exact⟨by simp,fun g h=>by simpa using h⟩
  ·rw[if_neg hk];refine⟨?_,fun g h=>?_⟩
   ·rw[List.map_cons];exact List.mem_cons_of_mem _ i1
   ·rw[List.map_cons] at h ⊢;rcases List.mem_cons.mp h with e | e
    ·exact List.mem_cons.mpr (.inl e)
    ·exact List.mem_cons_of_mem _ (i2 g e)
theorem gX (f:Str)(v:V):∀fs:List (Str × V),(iI f v fs).length<=fs.length+1
 | []=>by simp[iI]
 | (k,x) :: r=>by
  have ih:=gX f v r;rw[show iI f v ((k,x) :: r)=(if k=f then (k,v) :: r else (k,x) :: iI f v r) from rfl]
  by_cases hk:k=f
  ·rw[if_pos hk,List.length_cons,List.length_cons];omega
  ·rw[if_neg hk,List.length_cons,List.length_cons];omega
theorem kF.some_of {v:V}{o:Option Value}(r:kF (some v) o):∃u,o=some u/\cD v u:=by
 cases o with
 |none=>exact(show False from r).elim
 |some u=>exact⟨u,rfl,r⟩
theorem kF.none_of {o:Option Value}(r:kF none o):o=none:=by
 cases o with
 |none=>rfl
 |some u=>exact(show False from r).elim
theorem Ih {v:V}{u:Value}(r:cD v u):PySem.W.handedIn u=true:=by
 cases v with
 |non=>cases (show u=Value.none from r);rfl
 |bl b=>cases (show u=Value.bool b from r);rfl
 |int i=>obtain⟨t,e⟩:=(show ∃t,u=Value.int i t from r);cases e;rfl
 |str x=>obtain⟨t,e⟩:=(show ∃t,u=Value.str x t from r);cases e;rfl
 |byt b=>obtain⟨t,e⟩:=(show ∃t,u=Value.bytes b t from r);cases e;rfl
 |flt b=>obtain⟨t,e⟩:=(show ∃t,u=Value.float b t from r);cases e;rfl
 |ref a=>cases (show u=Value.ref a from r);rfl
 |ty n=>cases (show u=Value.type n from r);rfl
section
variable {P:Program} {w:World} {H H':Hp} {h h':Heap} {a C dx:Addr} {fs fs':List (Str × V)}
theorem rQ (hok:HOk P w H h)(e:H a=some (.ins C dx fs)):∃mA,Ci h a dx C mA/\(∀f,kF (fs.lookup f) (mA f))/\PySem.Within mA (fs.map (·.1))/\fs.length<=1000/\H dx=some (.own a):=by
 obtain⟨d,z,ne,ob,mA,n,r,q⟩:=(show dQ P w H h a (.ins C dx fs) from hok a _ e)
 exact⟨mA,⟨ob,n,ne⟩,r,q,z,d⟩
end
structure Cls (K:PySem.W.Frag) (C:Addr):Prop where
 pg:PySem.W.plainGet K C Str.empty=true
 hd:PySem.W.hasDictIn K C=true
 po:PySem.W.plainOver K C=true
 sa:PySem.W.findIn K (.ref C) "__setattr__"=some (some (.builtin "object.__setattr__"))
theorem Cls.get {K:PySem.W.Frag}{C:Addr}(c:Cls K C)(f:Str):PySem.W.plainGet K C f=true:=c.pg
def iG (K:PySem.W.Frag)(C:Addr)(f:Str):Prop:=PySem.W.findIn K (.ref C) f=some none
theorem iG.taker {K:PySem.W.Frag}{C:Addr}{f:Str}(n:iG K C f):PySem.W.takerIn K C f=some none:=by
 unfold PySem.W.takerIn;rw[show PySem.W.findIn K (.ref C) f=some none from n];rfl
structure gH (K:PySem.W.Frag) (C:Addr) (m:Str) (f:Addr):Prop where
 at_:PySem.W.findIn K (.ref C) m=some (some (.ref f))
 fn:PySem.W.isFn K (.ref f)=true
 kp:PySem.W.keepIn K (.ref f)=true
section
variable {X:Cx} {pins:List (Addr × Obj)} {σ:St} {H:Hp} {s:Shared} {a C dx:Addr} {fs:List (Str × V)} {f:Str} {v:V} {A:Around} {E:Value->Shared->Prop}
theorem Ck {b:Bool}{Q:Value->Shared->Prop}(I:Inv X pins σ H s)(e:H a=some (.ins C dx fs))(c:Cls X.K C)(n:iG X.K C f)(l:fs.lookup f=some v)(h:∀u s',Inv X pins σ H s'->cD v u->Q u s'):wpAny (model X.prog X.w) A (getAttr (.ref a) f b) Q E s:=by
 obtain⟨mA,O,r,_,_,_⟩:=rQ I.hok e;obtain⟨u,hu,ru⟩:=kF.some_of (v:=v) (o:=mA f) (by rw[<- l];exact r f);exact Oy I.kIn O (c.get f) c.hd n hu (Ih ru) (h u _ (I.tok _) ru)
theorem mX {m:Str}{g:Addr}{pl:Sem Bool}{Q:Value × List Value->Shared->Prop}(I:Inv X pins σ H s)(e:H a=some (.ins C dx fs))(c:Cls X.K C)(k:gH X.K C m g)(l:fs.lookup m=none)(h:Q (.ref g,[.ref a]) s):wpAny (model X.prog X.w) A (getMethod (.ref a) m pl) Q E s:=by
 obtain⟨mA,O,r,_,_,_⟩:=rQ I.hok e;have hn:mA m=none:=kF.none_of (by rw[<- l];exact r m);exact Ln I.kIn O (c.get m) k.at_ k.fn hn h
theorem Ce {y:V}{u:Value}{Q:Unit->Shared->Prop}(I:Inv X pins σ H s)(e:H a=some (.ins C dx fs))(c:Cls X.K C)(n:iG X.K C f)(hl:fs.length < 1000)(ry:cD y u)(h:∀s',Inv X pins σ (upd H a (.ins C dx (iI f y fs))) s'->Q () s'):wpAny (model X.prog X.w) A (setAttr (.ref a) f u) Q E s:=by
 obtain⟨mA,O,r,wi,_,ho⟩:=rQ I.hok e;have hz:(fs.map (·.1)).length<=sizeLine:=by rw[List.length_map,sizeLine_eq];omega
 refine Rh I.kIn O c.sa c.po n.taker c.hd wi hz fun h' O' sb=>h _ ?_;have hd:∃o,h'.get? dx=some o:=let ⟨o,_,_,e',_⟩:=O'.ns;⟨o,e'⟩
 refine I.write (x:=a) (e:=dx) (by rw[e];exact True.intro) (.inr ho) (fun b q hb z=>(sb.2 b hb).trans z) hd ?_;refine⟨by rw[bC O.ne];exact ho,?_,O.ne,O'.obj,_,O'.ns,fun g=>?_,fun g hg=>?_⟩
 ·have:=gX f y fs;omega
 ·show kF ((iI f y fs).lookup g) (if g=f then some u else mA g);rw[cB]
  by_cases q:g=f
  ·rw[if_pos q,if_pos q];exact ry
  ·rw[if_neg q,if_neg q];exact r g
 ·by_cases q:g=f
  ·rw[q];exact(qI f y fs).1
  ·refine(qI f y fs).2 g (wi g fun z=>hg ?_);show (if g=f then some u else mA g)=none;rw[if_neg q];exact z
theorem Inv.made (I:Inv X pins σ H s):Inv X pins σ (upd (upd H s.heap.objs.size (.own (s.heap.objs.size+1))) (s.heap.objs.size+1) (.ins C s.heap.objs.size []))
  { s with heap:=(s.heap.push PySem.W.emptyDict).push (PySem.W.instObj C s.heap.objs.size) }:=by
 have e1:(s.heap.push PySem.W.emptyDict).get? s.heap.objs.size=some PySem.W.emptyDict:=Heap.get?_push_size s.heap rfl;have e2:((s.heap.push PySem.W.emptyDict).push (PySem.W.instObj C s.heap.objs.size)).get? (s.heap.objs.size+1)=some (PySem.W.instObj C s.heap.objs.size):=by
  have:=Heap.get?_push_size (s.heap.push PySem.W.emptyDict) (o:=PySem.W.instObj C s.heap.objs.size) rfl
  rwa [Heap.size_push] at this
 have e3:(s.heap.push PySem.W.emptyDict).Ns s.heap.objs.size (fun _=>none):=⟨PySem.W.emptyDict,#[],_,e1,rfl,(fun e he=>absurd he (by simp)),fun _=>rfl⟩
 have I1:=I.laid (a:=s.heap.objs.size) (o:=.own (s.heap.objs.size+1)) (h':=s.heap.push PySem.W.emptyDict) (t':=s.toks) (fun b u q=>Heap.get?_push_of_some _ q) (Nat.le_refl _) ⟨_,e1⟩;refine I1.laid (a:=s.heap.objs.size+1) (o:=.ins C s.heap.objs.size []) (t':=s.toks) (fun b u q=>Heap.get?_push_of_some _ q) (Nat.le_of_eq (Heap.size_push _ _)) ?_;have ne:s.heap.objs.size≠s.heap.objs.size+1:=Nat.ne_of_lt (Nat.lt_succ_self _);refine⟨by rw[bC ne,aB],Nat.zero_le _,ne,e2,fun _=>none,(Heap.Ns1.of_empty e3).at fun o q=>Heap.get?_push_of_some _ q,fun _=>True.intro,fun y hy=>absurd rfl hy⟩
theorem Pl {prog:Program}{w:World}{env:Env}{e:Expr}{f:Str}{pos:Pos}{s:Shared}{Q:Value->Shared->Prop}(hb:attributeBase e f env (eval e env)=eval e env)(h:wpAny (model prog w) A (eval e env) (fun o s₁=>wpAny (model prog w) A (getAttr o f true) Q E s₁) E s):wpAny (model prog w) A (eval (.Attribute e f pos) env) Q E s:=
 Attribute_any_ h (by rw[arm_eval_Attribute,hb])
end
def Yv (K:PySem.W.Frag)(ta:TE)(f:Str):TE:=fun σ H Q=>ta σ H fun x H1=>∃a C dx fs v,x=.ref a/\H1 a=some (.ins C dx fs)/\Cls K C/\iG K C f/\fs.lookup f=some v/\Q v H1
def Yt (K:PySem.W.Frag)(ta tv:TE)(f:Str):TS:=fun D σ H=>tv σ H fun y H1=>ta σ H1 fun x H2=>∃a C dx fs,x=.ref a/\H2 a=some (.ins C dx fs)/\Cls K C/\iG K C f/\fs.length < 1000/\
 D.nx σ (upd H2 a (.ins C dx (iI f y fs)))
section
variable {X:Cx} {o e value:Expr} {f:Str} {pos pos' tpos:Pos} {ta tv:TE}
theorem cG (he:PE X e ta)(hb:attributeBase e f X.env (eval e X.env)=eval e X.env):PE X (.Attribute e f pos) (Yv X.K ta f):=by
 intro pins s σ H Q I h;refine Pl hb (thn (he pins s σ H _ I h) fun u s1 ⟨x,H1,I1,rx,a,C,dx,fs,v,ex,ea,c,n,l,q⟩=>?_);subst ex;obtain rfl:u=Value.ref a:=rx;exact Ck I1 ea c n l fun u' s2 I2 ru=>⟨v,H1,I2,ru,q⟩
theorem tT (ha:PE X o ta)(hv:PE X value tv)(hs:swapsWith value (some (.Attribute o f pos')) pos.line X.env=pure false):PS X (.Assign [.Attribute o f pos'] value pos) (Yt X.K ta tv f):=by
 intro pins s σ H D I h;refine plainObj_wpAny_Assign_Attribute (thn (hv pins s σ H _ I h) fun u s1 ⟨y,H1,I1,ry,q⟩=>thn (ha pins s1 σ H1 _ I1 q) fun ov s2 ⟨x,H2,I2,rx,a,C,dx,fs,ex,ea,c,n,l,q2⟩=>?_) hs;subst ex;obtain rfl:ov=Value.ref a:=rx;exact Ce I2 ea c n l ry fun s3 I3=>⟨σ,_,I3,q2⟩
end
section
variable {X:Cx} {pins:List (Addr × Obj)} {σ:St} {H:Hp} {s:Shared} {A:Around} {E:Value->Shared->Prop} {Q:Value->Shared->Prop} {c:Value} {b:Bool}
inductive mH (K:PySem.W.Frag) (H:Hp):V->Value->Prop where
 |non:mH K H .non (.type "NoneType")
 |bl (x:Bool):mH K H (.bl x) (.type "bool")
 |int (i:Int):mH K H (.int i) (.type "int")
 |str (x:Str):mH K H (.str x) (.type "str")
 |flt (x:UInt64):mH K H (.flt x) (.type "float")
 |lst {a:Addr} {xs:List V} (e:H a=some (.lst xs)):mH K H (.ref a) (.type "list")
 |frz {a:Addr} {o:Obj} {xs:List V} (e:H a=some (.frz o (.lst xs))):mH K H (.ref a) (.type "list")
 |tup {a:Addr} {xs:List V} (e:H a=some (.tup xs)):mH K H (.ref a) (.type "tuple")
 |dK {a:Addr} {kvs:List (Key × V)} (e:H a=some (.dK kvs)):mH K H (.ref a) (.type "dict")
 |dT {a:Addr} {kvs:List (List Key × V)} (e:H a=some (.dT kvs)):mH K H (.ref a) (.type "dict")
 |ins {a C dx:Addr} {fs:List (Str × V)} (e:H a=some (.ins C dx fs)) (cl:Cls K C) (ha:PySem.W.findIn K (.ref C) "__class__"=some (some (.builtin "object.__class__")))
   (hn:PySem.W.specialIn K (.builtin "object.__class__") "__get__"=some (some (.builtin "getset_descriptor.__get__"))) (htk:PySem.W.takesIn K (.builtin "object.__class__")=some true)
   (hm:PySem.W.mroIn K C (.type "object")=some true):mH K H (.ref a) (.ref C)
theorem Gn {x:V}{u t:Value}(I:Inv X pins σ H s)(rx:cD x u)(ty:mH X.K H x t)(e:PySem.W.kitOne X.K t c=some b)(h:∀tk,Q (.bool b) { s with toks:=tk }) :
  wpAny (model X.prog X.w) A (call (.builtin "isinstance") [u,c]) Q E s:=by
 cases ty with
 |non=>cases (show u=Value.none from rx);exact PySem.W.kia_one PySem.W.kitx_none I.kIn True.intro e (fun z=>nomatch z) h
 |bl y=>cases (show u=Value.bool y from rx);exact PySem.W.kia_one PySem.W.kitx_bool I.kIn True.intro e (fun z=>nomatch z) h
 |int i=>obtain⟨t,q⟩:=(show ∃t,u=Value.int i t from rx);cases q;exact PySem.W.kia_one PySem.W.kitx_int I.kIn True.intro e (fun z=>nomatch z) h
 |str y=>obtain⟨t,q⟩:=(show ∃t,u=Value.str y t from rx);cases q;exact PySem.W.kia_one PySem.W.kitx_str I.kIn True.intro e (fun z=>nomatch z) h
 |flt y=>obtain⟨t,q⟩:=(show ∃t,u=Value.float y t from rx);cases q;exact PySem.W.kia_one PySem.W.kitx_float I.kIn True.intro e (fun z=>nomatch z) h
 | @lst a xs ea=>
  cases (show u=Value.ref a from rx)
  obtain⟨_,_,n,_,h1⟩:=(show dQ X.prog X.w H s.heap a (.lst xs) from I.hok a _ ea)
  exact PySem.W.kia_one PySem.W.kitx_list I.kIn ⟨_,h1,rfl⟩ e (fun z=>nomatch z) h
 | @frz a ob xs ea=>
  cases (show u=Value.ref a from rx)
  obtain⟨_,_,_,n,_,h1⟩:=(show dQ X.prog X.w H s.heap a (.frz ob (.lst xs)) from I.hok a _ ea)
  exact PySem.W.kia_one PySem.W.kitx_list I.kIn ⟨_,h1,rfl⟩ e (fun z=>nomatch z) h
 | @tup a xs ea=>
  cases (show u=Value.ref a from rx)
  obtain⟨_,_,_,p⟩:=(show dQ X.prog X.w H s.heap a (.tup xs) from I.hok a _ ea)
  obtain⟨o,h1,h2,_⟩:=p;exact PySem.W.kia_one PySem.W.kitx_tuple I.kIn ⟨o,h1,h2⟩ e (fun z=>nomatch z) h
 | @dK a kvs ea=>
  cases (show u=Value.ref a from rx)
  obtain⟨_,_,vs,_,p⟩:=(show dQ X.prog X.w H s.heap a (.dK kvs) from I.hok a _ ea)
  obtain⟨o,es,ep,h1,h2,_⟩:=p;exact PySem.W.kia_one PySem.W.kitx_dict I.kIn ⟨o,h1,h2.1⟩ e (fun z=>nomatch z) h
 | @dT a kvs ea=>
  cases (show u=Value.ref a from rx)
  obtain⟨_,_,xs,_,o,es,ep,h1,h2,_⟩:=(show dQ X.prog X.w H s.heap a (.dT kvs) from I.hok a _ ea)
  exact PySem.W.kia_one PySem.W.kitx_dict I.kIn ⟨o,h1,h2.1⟩ e (fun z=>nomatch z) h
 | @ins a C dx fs ea cl ha hn htk hm=>
  cases (show u=Value.ref a from rx)
  obtain⟨mA,O,_⟩:=rQ I.hok ea;obtain⟨od,J,_⟩:=O.look;exact PySem.W.kia_one (PySem.W.kitx_own (cl.get _) cl.hd ha hn htk hm) I.kIn J e (fun z=>nomatch z) h
end
structure gJ (k:Nat) (A:Around):Prop where
 hd:A.handled=none
 dp:A.depth+3*k+5 < recursionLimit
 un:A.units+16*k+200 < cLine
theorem gJ.mono {j k:Nat}{A:Around}(r:gJ k A)(h:j<=k):gJ j A:=⟨r.hd,by have:=r.dp;omega,by have:=r.un;omega⟩
theorem gJ.deeper {k:Nat}{A:Around}(r:gJ (k+1) A)(env:Env):gJ k (A.deeper env):=
 ⟨r.hd,by have:=r.dp;show A.depth+1+3*k+5 < _;omega,by have:=r.un;show A.units+3+16*k+200 < _;omega⟩
theorem Cf {A:Around}{C:Addr}{us:List Value}{kw:List (Str × Value)}:(A.under (.builtin "type.__call__" ⟨.ref C :: us,kw⟩)).depth=A.depth+1:=by
 first | rfl | simp[Around.under,Code.weight,Code.isCreation,Code.isGuard,Code.isCaller,Code.frames,Code.isFrame,guardIds]
theorem Cp {A:Around}{C:Addr}{us:List Value}{kw:List (Str × Value)}:(A.under (.builtin "type.__call__" ⟨.ref C :: us,kw⟩)).units=A.units+1:=by
 first | rfl | simp[Around.under,Code.cUnits,Code.frames,Code.isFrame]
theorem gJ.make {k:Nat}{A:Around}(r:gJ (k+1) A)(C:Addr)(us:List Value)(kw:List (Str × Value)):gJ k (A.under (.builtin "type.__call__" ⟨.ref C :: us,kw⟩)):=
 ⟨r.hd,by have:=r.dp;rw[Cf];omega,by have:=r.un;rw[Cp];omega⟩
theorem gJ.depth {k:Nat}{A:Around}(r:gJ k A):A.depth < recursionLimit:=by have:=r.dp;omega
theorem gJ.units {k:Nat}{A:Around}(r:gJ k A):A.units+64 < cLine:=by have:=r.un;omega
def Tp:TA:=fun _ H Q=>Q [] H
def Wl (ta:TE)(tr:TA):TA:=fun σ H Q=>ta σ H fun x H1=>tr σ H1 fun xs H2=>Q (x :: xs) H2
section
variable {X:Cx} {e:Expr} {es:List Expr} {te:TE} {t:TA} {pos:Pos}
theorem aD:PA X [] Tp:=fun _ _ _ _ H Q I h=>Calls.spliced_nil ⟨[],H,I,.nil,h⟩
theorem aA (ha:PE X e te)(hr:PA X es t)(hs:starEach (e :: es) X.env=(false,eval e X.env) :: starEach es X.env:=by rfl):PA X (e :: es) (Wl te t):=by
 intro pos pins s σ H Q I h;rw[hs];show wpAny _ _ (spliced ((false,eval e X.env) :: backTo pos (starEach es X.env))) _ _ s;refine Calls.spliced_cons (thn (ha pins s σ H _ I h) fun u s1 ⟨x,H1,I1,r1,q1⟩=>?_);exact thn (hr pos pins s1 σ H1 _ I1 q1) fun us s2 ⟨xs,H2,I2,r2,q2⟩=>⟨x :: xs,H2,I2,.cons r1 r2,q2⟩
def Wi (t:TA):TE:=fun σ H Q=>t σ H fun xs H1=>xs.length<=sizeLine/\∀p,H1 p=none->Q (.ref p) (upd H1 p (.tup xs))
def Yx (t:TA):TE:=fun σ H Q=>t σ H fun xs H1=>xs.length<=sizeLine/\∀p,H1 p=none->Q (.ref p) (upd H1 p (.lst xs))
theorem cX {x1}(h:PA X es t):PE X (.Tuple es x1 pos) (Wi t):=by
 intro pins s σ H Q I hq;refine wpAny_Tuple_spliced (thn (h pos pins s σ H _ I hq) fun us s1 ⟨xs,H1,I1,r,z,q⟩=>⟨by rw[<- r.length];exact z,?_⟩);have hf:H1 s1.heap.objs.size=none:=I1.hok.fresh (Nat.le_refl _);refine⟨.ref s1.heap.objs.size,upd H1 s1.heap.objs.size (.tup xs),I1.laid (t':=s1.toks) (fun b u e=>Heap.get?_push_of_some _ e) (Nat.le_refl _) ?_,rfl,q _ hf⟩;exact⟨z,us,r,⟨_,Heap.get?_push_size _ rfl,rfl,_,rfl⟩⟩
theorem cV (h:PA X es t):PE X (.List es pos) (Yx t):=by
 intro pins s σ H Q I hq;refine wpAny_List_spliced (thn (h pos pins s σ H _ I hq) fun us s1 ⟨xs,H1,I1,r,z,q⟩=>⟨by rw[<- r.length];exact z,?_⟩);have hf:H1 s1.heap.objs.size=none:=I1.hok.fresh (Nat.le_refl _);refine⟨.ref s1.heap.objs.size,upd H1 s1.heap.objs.size (.lst xs),I1.laid (t':=s1.toks) (fun b u e=>Heap.get?_push_of_some _ e) (Nat.le_refl _) ?_,rfl,q _ hf⟩;exact⟨z,us,0,r,Heap.get?_push_size _ rfl⟩
end
abbrev Sp:=List V->Hp->VK->XK->Prop
abbrev CXT:=List Env->Hp->Shared->XK->Value->Shared->Prop
structure Dc (P:Program) (w:World) (K:PySem.W.Frag) (mg:Str->Option Value) (base:Heap) (A:Around) (outer:List Env) (s:Shared) (H:Hp):Prop where
 frames:A.frames=some outer
 mod:Mod K mg base
 bs:∀b o,base.get? b=some o->s.heap.get? b=some o/\H b=none
 bsz:base.objs.size<=s.heap.objs.size
 funs:s.heap.FunFrames base outer
 frf:∀b∈frs outer,H b=none
 hok:HOk P w H s.heap
 bare:AllBare s.gens
def CE (outer:List Env)(P:Program)(w:World)(H:Hp)(s:Shared)(Q:VK)(u:Value)(s':Shared):Prop:=
 ∃v H',s'.os=s.os/\AllBare s'.gens/\Un (frs outer) [] H H' s.heap s'.heap/\HOk P w H' s'.heap/\cD v u/\Q v H'
def CR (CX:CXT)(outer:List Env)(P:Program)(w:World)(H:Hp)(s:Shared)(Q:VK)(E:XK)(r:Result)(s':Shared):Prop:=
 match r with
 | .ok (.ret u)=>CE outer P w H s Q u s'
 | .ok _=>False
 | .error e=>CX outer H s E e s'
structure aQ (P:Program) (w:World) (K:PySem.W.Frag) (mg:Str->Option Value) (base:Heap) (CX:CXT) (k:Nat) (f:Addr) (fd:FuncData) (ps:List Str) (sp:Sp):Prop where
 len:∀vs H Q E,sp vs H Q E->vs.length=ps.length
 run:∀(A:Around) (outer:List Env) (s:Shared) (H:Hp) (args:Args) (us:List Value) (vs:List V) (Q:VK) (E:XK),gJ k A->Dc P w K mg base A outer s H->BindsTo s fd args (ps.zip us)->bY vs us->sp vs H Q E->
  codeAny (model P w) A (.call (.ref f) args) (CR CX outer P w H s Q E) s
theorem Dc.make {P:Program}{w:World}{K:PySem.W.Frag}{mg:Str->Option Value}{base:Heap}{A:Around}{outer:List Env}{s:Shared}{H:Hp}(e:Dc P w K mg base A outer s H)(C:Addr)(us:List Value)(kw:List (Str × Value)) :
  Dc P w K mg base (A.under (.builtin "type.__call__" ⟨.ref C :: us,kw⟩)) outer s H:=⟨by first | exact e.frames | (simpa[Around.under,Code.envs,Code.isFrame,pushEnvs] using e.frames),e.mod,e.bs,e.bsz,e.funs,e.frf,e.hok,e.bare⟩
section
variable {X:Cx} {pins:List (Addr × Obj)} {σ:St} {H:Hp} {s s':Shared}
theorem Inv.env0 (I:Inv X pins σ H s):Dc X.prog X.w X.K X.mg X.base X.A X.stack s H:=
 ⟨I.ok.frames,I.ok.mod,I.bs,Nat.le_trans I.ok.bsz I.sz,I.stack,I.stkFree,I.hok,I.bare⟩
theorem Inv.after {Q:VK}{u:Value}(I:Inv X pins σ H s)(h:CE X.stack X.prog X.w H s Q u s'):EP X pins σ Q u s':=by
 obtain⟨v,H',os,bare,un,hok,r,q⟩:=h;obtain⟨hh,g,d,t,os'⟩:=s';obtain rfl:os'=s.os:=os;exact⟨v,H',I.call (h':=hh) (g':=g) (d':=d) (t':=t) (ch:=[]) un hok bare (fun b z=>absurd z (by simp)),r,q⟩
end
def Xh (sp:Sp)(dvs:List V)(E:XK)(t:TA):TE:=fun σ H Q=>t σ H fun vs H1=>sp (vs++dvs) H1 Q E
def Sc (C:Addr)(m:Str)(sp:Sp)(dvs:List V)(E:XK)(ta:TE)(t:TA):TE:=fun σ H Q=>ta σ H fun x H1=>∃a dx fs,x=.ref a/\H1 a=some (.ins C dx fs)/\fs.lookup m=none/\
 t σ H1 fun vs H2=>sp (x :: (vs++dvs)) H2 Q E
def Xd (C:Addr)(sp:Sp)(dvs:List V)(E:XK)(t:TA):TE:=fun σ H Q=>t σ H fun vs H1=>∀x dx,H1 x=none->H1 dx=none->dx≠x->
 sp (.ref x :: (vs++dvs)) (upd (upd H1 dx (.own x)) x (.ins C dx [])) (fun v H2=>v=.non/\Q (.ref x) H2) E
def aS (K:PySem.W.Frag)(fd:FuncData)(ps:List Str)(ds:List Value):Prop:=
 ∀(s:Shared) (us:List Value),K.In s.heap->(us++ds).length=ps.length->BindsTo s fd ⟨us,[]⟩ (ps.zip (us++ds))
theorem aS.all {K:PySem.W.Frag}{fd:FuncData}{ps:List Str}(h:∀us:List Value,us.length=ps.length->bindArgs fd ⟨us,[]⟩=pure (ps.zip us)):aS K fd ps []:=fun s us _ hl=>by
 rw[List.append_nil] at hl ⊢;exact .of_eq (h us hl)
def kJ (CX:CXT)(X:Cx)(E:XK):Prop:=∀(pins:List (Addr × Obj)) (σ:St) (H:Hp) (s:Shared) (e:Value) (s':Shared),Inv X pins σ H s->CX X.stack H s E e s'->X.xe e s'
section
variable {X:Cx} {CX:CXT} {k:Nat} {f C:Addr} {fd:FuncData} {ps:List Str} {sp:Sp} {dvs:List V} {ds:List Value} {E:XK} {x m:Str} {p pos apos:Pos} {e o:Expr} {es:List Expr} {ta:TE} {t:TA}
theorem xE {pins:List (Addr × Obj)}{σ:St}{H:Hp}{s:Shared}{Q:VK}{us:List Value}{vs:List V}(F:aQ X.prog X.w X.K X.mg X.base CX k f fd ps sp)(hr:gJ k X.A)(hb:aS X.K fd ps ds)(hd:bY dvs ds)(hx:kJ CX X E)(I:Inv X pins σ H s)(r:bY vs us)(h:sp (vs++dvs) H Q E):wpAny (model X.prog X.w) X.A (call (.ref f) us) (EP X pins σ Q) X.xe s:=by
 have r2:bY (vs++dvs) (us++ds):=r.append hd;have hl:(us++ds).length=ps.length:=by rw[<- r2.length];exact F.len _ _ _ _ h
 refine wpAny_call (codeAny_mono (F.run X.A X.stack s H ⟨us,[]⟩ (us++ds) (vs++dvs) Q E hr I.env0 (hb s us I.kIn hl) r2 h) fun r s' hq=>?_)
 cases r with
 |error e=>exact hx pins σ H s e s' I hq
 |ok fl=>
  cases fl with
  |ret u=>exact I.after hq
  |next=>exact False.elim hq
  |brk=>exact False.elim hq
  |cont=>exact False.elim hq
theorem aI (F:aQ X.prog X.w X.K X.mg X.base CX k f fd ps sp)(hr:gJ k X.A)(hg:Gl X x)(hm:X.mg x=some (.ref f))(hk:PySem.W.keepIn X.K (.ref f)=true)(hb:aS X.K fd ps ds)(hd:bY dvs ds)(hx:kJ CX X E)(ha:PA X (e :: es) t)(hdb:(x == ("__debug__":Str))=false:=by decide)(he:starEach (e :: es) X.env=(false,eval e X.env) :: starEach es X.env:=by rfl)(hpl:(backTo pos (starEach es X.env)).any (·.1)=false:=by rfl) :
  PE X (.Call (.Name x p) (e :: es) [] pos) (Xh sp dvs E t):=by
 intro pins s σ H Q I h;refine wpAny_Call_Name_kw (yD I hg hm ?_ hdb);refine PySem.W.callWith_K (h₀:=X.base) I.ok.mod.kin hk (thn (ha pos pins s σ H _ I h) fun us s1 ⟨vs,H1,I1,r,q⟩=>⟨I1.kIn,?_⟩) he hpl;exact xE F hr hb hd hx I1 r q
theorem xV {pl:Sem Bool}(he:PE X o ta)(c:Cls X.K C)(hm:gH X.K C m f)(F:aQ X.prog X.w X.K X.mg X.base CX k f fd ps sp)(hr:gJ k X.A)(hb:aS X.K fd ps ds)(hd:bY dvs ds)(hx:kJ CX X E)(ha:PA X (e :: es) t)(hst:starEach (e :: es) X.env=(false,eval e X.env) :: starEach es X.env:=by rfl)(hpl:(backTo pos (starEach es X.env)).any (·.1)=false:=by rfl)(ht:eval (.Call (.Attribute o m apos) (e :: es) [] pos) X.env=(do
   let ov <- eval o X.env
   standAt apos.atName
   let (f,first) <- holding [ov] (getMethod ov m pl)
   callWith pos f first (backTo pos (starEach (e :: es) X.env)) (backToKw pos (keywordEach [] X.env))):=by rfl) :
  PE X (.Call (.Attribute o m apos) (e :: es) [] pos) (Sc C m sp dvs E ta t):=by
 intro pins s σ H Q I h;refine PySem.W.methodCall_KW (pl:=pl) (thn (he pins s σ H _ I h) fun u s1 ⟨x,H1,I1,rx,a,dx,fs,ex,ea,l,q⟩=>?_) ht;subst ex;obtain rfl:u=Value.ref a:=rx;refine mX I1 ea c hm l ?_;refine PySem.W.callWith_K (first:=[.ref a]) (h₀:=X.base) I.ok.mod.kin hm.kp (thn (ha pos pins s1 σ H1 _ I1 q) fun us s2 ⟨vs,H2,I2,r,q2⟩=>⟨I2.kIn,?_⟩) hst hpl;exact xE (us:=.ref a :: us) (vs:=.ref a :: vs) F hr hb hd hx I2 (.cons rfl r) q2
theorem fM {pl:Sem Bool}(he:PE X o ta)(c:Cls X.K C)(hm:gH X.K C m f)(F:aQ X.prog X.w X.K X.mg X.base CX k f fd ps sp)(hr:gJ k X.A)(hb:aS X.K fd ps ds)(hd:bY dvs ds)(hx:kJ CX X E)(ht:eval (.Call (.Attribute o m apos) [] [] pos) X.env=(do
   let ov <- eval o X.env
   standAt apos.atName
   let (f,first) <- holding [ov] (getMethod ov m pl)
   callWith pos f first (backTo pos (starEach [] X.env)) (backToKw pos (keywordEach [] X.env))):=by rfl) :
  PE X (.Call (.Attribute o m apos) [] [] pos) (Sc C m sp dvs E ta Tp):=by
 intro pins s σ H Q I h;refine PySem.W.methodCall_KW (pl:=pl) (thn (he pins s σ H _ I h) fun u s1 ⟨x,H1,I1,rx,a,dx,fs,ex,ea,l,q⟩=>?_) ht;subst ex;obtain rfl:u=Value.ref a:=rx;refine mX I1 ea c hm l ?_;exact PySem.W.callWith_K0 (first:=[.ref a]) I1.kIn hm.kp (xE (us:=[.ref a]) (vs:=[.ref a]) F hr hb hd hx I1 (.cons rfl .nil) q)
structure Mk (K:PySem.W.Frag) (C f:Addr):Prop where
 makes:PySem.W.makesIn K C=true
 init:PySem.W.findIn K (.ref C) "__init__"=some (some (.ref f))
 fn:PySem.W.isFn K (.ref f)=true
 kp:PySem.W.keepIn K (.ref C)=true
theorem Lk {pins:List (Addr × Obj)}{σ:St}{H:Hp}{s:Shared}{Q:VK}{us:List Value}{vs:List V}(M:Mk X.K C f)(F:aQ X.prog X.w X.K X.mg X.base CX k f fd ps sp)(hr:gJ (k+1) X.A)(hb:aS X.K fd ps ds)(hd:bY dvs ds)(hx:kJ CX X E)(I:Inv X pins σ H s)(r:bY vs us)(h:∀x dx,H x=none->H dx=none->dx≠x->sp (.ref x :: (vs++dvs)) (upd (upd H dx (.own x)) x (.ins C dx [])) (fun v H2=>v=.non/\Q (.ref x) H2) E) :
  wpAny (model X.prog X.w) X.A (call (.ref C) us) (EP X pins σ Q) X.xe s:=by
 have hq:=h (s.heap.objs.size+1) s.heap.objs.size (I.hok.fresh (Nat.le_succ _)) (I.hok.fresh (Nat.le_refl _)) (Nat.ne_of_lt (Nat.lt_succ_self _));have I2:=Inv.made (C:=C) I;have r2:bY (V.ref (s.heap.objs.size+1) :: (vs++dvs)) (Value.ref (s.heap.objs.size+1) :: (us++ds)):=.cons rfl (r.append hd);have hl:(Value.ref (s.heap.objs.size+1) :: us++ds).length=ps.length:=by
  have e:=r2.length;rw[F.len _ _ _ _ hq] at e;exact e.symm
 refine wpAny_call (Ku (f:=f) I.kIn M.makes M.init (beq_iff_eq.mp M.fn) (codeAny_mono (F.run _ X.stack _ _ ⟨Value.ref (s.heap.objs.size+1) :: us,[]⟩ (Value.ref (s.heap.objs.size+1) :: (us++ds)) _ _ E (hr.make C us [])
  (I2.env0.make C us []) (hb _ (Value.ref (s.heap.objs.size+1) :: us) I2.kIn hl) r2 hq) fun r s' hq'=>?_))
 cases r with
 |error e=>exact hx pins σ _ _ e s' I2 hq'
 |ok fl=>
  cases fl with
  |ret u=>
   obtain⟨v,H',I3,rv,ev,q3⟩:=I2.after hq';subst ev;exact⟨rv,⟨V.ref (s.heap.objs.size+1),H',I3,rfl,q3⟩⟩
  |next=>exact False.elim hq'
  |brk=>exact False.elim hq'
  |cont=>exact False.elim hq'
theorem nT (M:Mk X.K C f)(F:aQ X.prog X.w X.K X.mg X.base CX k f fd ps sp)(hr:gJ (k+1) X.A)(hg:Gl X x)(hm:X.mg x=some (.ref C))(hb:aS X.K fd ps ds)(hd:bY dvs ds)(hx:kJ CX X E)(ha:PA X (e :: es) t)(hdb:(x == ("__debug__":Str))=false:=by decide)(he:starEach (e :: es) X.env=(false,eval e X.env) :: starEach es X.env:=by rfl)(hpl:(backTo pos (starEach es X.env)).any (·.1)=false:=by rfl) :
  PE X (.Call (.Name x p) (e :: es) [] pos) (Xd C sp dvs E t):=by
 intro pins s σ H Q I h;refine wpAny_Call_Name_kw (yD I hg hm ?_ hdb);refine PySem.W.callWith_K (h₀:=X.base) I.ok.mod.kin M.kp (thn (ha pos pins s σ H _ I h) fun us s1 ⟨vs,H1,I1,r,q⟩=>⟨I1.kIn,?_⟩) he hpl;exact Lk M F hr hb hd hx I1 r q
end
structure aT (N P:List Str) (sc:Scope):Prop where
 kind:sc.kind=.function
 co:sc.isCoroutine=false
 gen:sc.isGenerator=false
 nd:N.Nodup
 pre:N.take P.length=P
 par:∀x∈P,sc.names.lookup x=some .local\/sc.names.lookup x=some .cell
 nofree:∀y∈sc.names,y.2≠.free
theorem uX {kindOf:Str->Option NameKind}{x:Str}:∀{binds:List (Str × Value)} {m:Str->Option Value},(∀v,(x,v)∉binds)->bindL kindOf binds m x=m x
 | [],_,_=>rfl
 | (n,v) :: r,m,h=>by
  unfold bindL;rw[uX fun w hw=>h w (List.mem_cons_of_mem _ hw)];split
  ·have:x≠n:=by rintro rfl;exact h v List.mem_cons_self
   simp[this]
  ·rfl
theorem wL {kindOf:Str->Option NameKind}{x:Str}:∀{binds:List (Str × Value)} {m:Str->Option Value},(∀v,(x,v)∉binds)->bindC kindOf binds m x=m x
 | [],_,_=>rfl
 | (n,v) :: r,m,h=>by
  unfold bindC;rw[wL fun w hw=>h w (List.mem_cons_of_mem _ hw)];split
  ·rfl
  ·have:x≠n:=by rintro rfl;exact h v List.mem_cons_self
   simp[this]
theorem vF {kindOf:Str->Option NameKind}{x:Str}{v:Value}:∀{P:List Str} {vs:List Value} {i:Nat} {m:Str->Option Value},P.Nodup->P[i]?=some x->vs[i]?=some v->kindOf x=some .local->
  bindL kindOf (P.zip vs) m x=some v
 | [],_,_,_,_,h,_,_=>by simp at h
 |_ :: _,[],_,_,_,_,h,_=>by simp at h
 |p :: P,w :: vs,0,m,nd,h1,h2,hk=>by
  simp at h1 h2;subst h1;subst h2;show bindL kindOf ((p,w) :: P.zip vs) m p=_;unfold bindL;rw[uX fun v hv=>(List.nodup_cons.mp nd).1 (List.of_mem_zip hv).1,if_pos hk];simp
 |p :: P,w :: vs,i+1,m,nd,h1,h2,hk=>by
  show bindL kindOf ((p,w) :: P.zip vs) m x=_;unfold bindL;exact vF (i:=i) (List.nodup_cons.mp nd).2 (by simpa using h1) (by simpa using h2) hk
theorem vI {kindOf:Str->Option NameKind}{x:Str}{v:Value}:∀{P:List Str} {vs:List Value} {i:Nat} {m:Str->Option Value},P.Nodup->P[i]?=some x->vs[i]?=some v->kindOf x≠some .local->
  bindC kindOf (P.zip vs) m x=some v
 | [],_,_,_,_,h,_,_=>by simp at h
 |_ :: _,[],_,_,_,_,h,_=>by simp at h
 |p :: P,w :: vs,0,m,nd,h1,h2,hk=>by
  simp at h1 h2;subst h1;subst h2;show bindC kindOf ((p,w) :: P.zip vs) m p=_;unfold bindC;rw[wL fun v hv=>(List.nodup_cons.mp nd).1 (List.of_mem_zip hv).1,if_neg hk];simp
 |p :: P,w :: vs,i+1,m,nd,h1,h2,hk=>by
  show bindC kindOf ((p,w) :: P.zip vs) m x=_;unfold bindC;exact vI (i:=i) (List.nodup_cons.mp nd).2 (by simpa using h1) (by simpa using h2) hk
def start (N:List Str)(vs:List V):St:=vs.map some++List.replicate (N.length - vs.length) none
def Bi (CX:CXT)(P:Program)(w:World)(K:PySem.W.Frag)(mg:Str->Option Value)(base:Heap)(N:List Str)(qual:Str)(scope:Scope)(f:Addr)(cd:Value)(A:Around)(outer:List Env)(s:Shared)(H:Hp)(E:XK):Cx where
 prog:=P
 w:=w
 K:=K
 mg:=mg
 base:=base
 A:=A.deeper (envOfC qual scope s.heap.objs.size f cd)
 N:=N
 s₀:=s
 H₀:=H
 env:=envOfC qual scope s.heap.objs.size f cd
 outer:=outer
 stack:=envOfC qual scope s.heap.objs.size f cd :: outer
 ex:=[]
 calm:=true
 fn:=fun _=>true
 pn:=[]
 xe:=fun e s'=>wpAny (model P w) (A.deeper (envOfC qual scope s.heap.objs.size f cd)) (leaving (envOfC qual scope s.heap.objs.size f cd) e) (fun _ s''=>CX outer H s E e s'') (fun e' s''=>CX outer H s E e' s'') s'
theorem zY {sc:Scope}{n:Nat}{x:Str}(h:sc.names.lookup x=some .cell):∃c,(cellsFrom n sc.names []).lookup x=some c:=by
 have q:=PySem.W.cellsFrom_some sc.names n [] (.inl h);exact Option.isSome_iff_exists.mp q
theorem Hr {CX:CXT}{P:Program}{w:World}{K:PySem.W.Frag}{mg:Str->Option Value}{base:Heap}{N ps:List Str}{qual:Str}{scope:Scope}{f:Addr}{cd:Value}{A:Around}{outer:List Env}{s s1:Shared}{H:Hp}{E:XK}{us:List Value}{vs:List V}(S:aT N ps scope)(hd:A.handled=none)(e0:Dc P w K mg base A outer s H)(hl:vs.length=ps.length)(r:bY vs us)(x:InCallC s s.heap.objs.size (bindL (envOfC qual scope s.heap.objs.size f cd).kindOf (ps.zip us) fun _=>none) (cellsFrom (s.heap.objs.size+1) scope.names []) (bindC (envOfC qual scope s.heap.objs.size f cd).kindOf (ps.zip us) fun _=>none) s1) :
  Inv (Bi CX P w K mg base N qual scope f cd A outer s H E) [] (start N vs) H s1:=by
 have hpl:ps.length<=N.length:=by have:=congrArg List.length S.pre;rw[List.length_take] at this;omega
 obtain⟨h1,tk,rfl,hk⟩:=x.done;have noA:∀b:Addr,b∉(Bi CX P w K mg base N qual scope f cd A outer s H E).ex:=fun b z=>absurd (show b∈([]:List Addr) from z) (by simp);refine⟨⟨e0.mod,S.kind,rfl,rfl,Nat.le_refl _,fun y z c h1 h2=>?_,fun y hy=>?_,fun y c _ h=>?_,fun _=>hd,Around.frames_deeper e0.frames,.inr ⟨rfl,rfl⟩,fun b z=>absurd z (noA b),e0.bs,e0.bsz,fun b _ _=>noA b,fun b z=>absurd z (noA b),e0.funs,e0.frf⟩,
  rfl,e0.bare,Un.kept hk,⟨_,x.toInCall.ns,fun i y v h1 h2 h3=>?_⟩,fun y c h=>⟨_,x.cell y c h⟩,e0.hok.fresh (Nat.le_refl _),fun y c h=>?_,fun p hp=>absurd (show p∈([]:List (Addr × Obj)) from hp) (by simp),e0.hok.kept hk,?_⟩
 ·exact name_of_addr x.apart (PySem.mem_of_lookup h1) (PySem.mem_of_lookup h2)
 ·have hy:scope.names.lookup y=some .cell\/scope.names.lookup y=some .free:=hy;rcases hy with hy | hy
  ·exact zY hy
  ·exact absurd rfl (S.nofree _ (PySem.mem_of_lookup hy))
 ·exact Nat.le_of_lt (x.above y c (PySem.mem_of_lookup h))
 ·have hi:i < vs.length:=by
   unfold start at h2
   by_cases hi:i < vs.length
   ·exact hi
   ·rw[List.getElem?_append_right (by simpa using hi)] at h2;rw[List.getElem?_replicate] at h2;split at h2<;>cases h2
  have ha:vs[i]?=some v:=by
   unfold start at h2;rw[List.getElem?_append_left (by simpa using hi),List.getElem?_map] at h2
   cases e:vs[i]? with
   |none=>rw[e] at h2;cases h2
   |some a=>rw[e] at h2;cases h2;rfl
  obtain⟨u,hu,rv⟩:=r.get ha;have hp:ps[i]?=some y:=by
   rw[<- S.pre,List.getElem?_take_of_lt (by omega)];exact h1
  have ndP:ps.Nodup:=by rw[<- S.pre];exact S.nd.sublist (List.take_sublist _ _)
  refine⟨u,rv,?_⟩;rcases S.par y (List.mem_of_getElem? hp) with k | k
  ·exact .inl ⟨k,vF ndP hp hu k⟩
  ·obtain⟨c,e⟩:=zY (n:=s.heap.objs.size+1) k;refine .inr ⟨.inl k,c,e,?_⟩;have q:=x.cell y c e;rw[vI ndP hp hu (by show scope.names.lookup y≠_;rw[k];decide)] at q;exact q
 ·exact e0.hok.fresh (Nat.le_of_lt (x.above y c (PySem.mem_of_lookup h)))
 ·unfold start;show _=N.length;rw[List.length_append,List.length_map,List.length_replicate];omega
theorem Wm {CX:CXT}{P:Program}{w:World}{K:PySem.W.Frag}{mg:Str->Option Value}{base:Heap}{k:Nat}{f:Addr}{name qual:Str}{params:Arguments}{body:List Stmt}{scope:Scope}{dV kV doc pm cdv ct oc:Value}{an od:Option Addr}{osl:Array (Option Value)}{N ps:List Str}{sp:Sp}(lk:K.lookup f=some ⟨oc,od,.func (PySem.W.fnOf name qual params body scope dV kV doc pm an cdv ct),osl⟩)(hcd:PySem.W.codeIn K cdv qual=true)(S:aT N ps scope)(len:∀vs H Q E,sp vs H Q E->vs.length=ps.length)(hbody:∀(A:Around) (outer:List Env) (s:Shared) (H:Hp) (vs:List V) (Q:VK) (E:XK),gJ k (A.deeper (envOfC qual scope s.heap.objs.size f cdv))->sp vs H Q E->
   ∃t,PSs (Bi CX P w K mg base N qual scope f cdv A outer s H E) body t/\t { nx:=fun _ H'=>Q .non H',rt:=Q } (start N vs) H) :
  aQ P w K mg base CX (k+1) f (PySem.W.fnOf name qual params body scope dV kV doc pm an cdv ct) ps sp:=by
 refine⟨len,fun A outer s H args us vs Q E hr e0 hb r hsp=>?_⟩;have hl:=len _ _ _ _ hsp;have KX:K.In s.heap:=e0.mod.kin.keeps fun b o e=>(e0.bs b o e).1;have lim:s.heap.NoLimit:=e0.mod.nolimit.keeps fun b o e=>(e0.bs b o e).1;have hkind:∀y∈ps.zip us,scope.names.lookup y.1=some .local\/(scope.names.lookup y.1=some .cell/\((cellsFrom (s.heap.objs.size+1) scope.names []).lookup y.1).isSome=true):=fun ⟨n,v⟩ hy=>by
  rcases S.par n (List.of_mem_zip hy).1 with q | q
  ·exact .inl q
  ·exact .inr ⟨q,PySem.W.cellsFrom_some _ _ _ (.inl q)⟩
 refine codeAny_call_function hr.depth (KX _ _ lk) rfl S.co S.gen rfl (PySem.W.codeRec_of KX hcd) (hb _ _ _ _ ?_);refine wpAny_newFunctionEnv_cells S.kind hkind fun env he s1 x=>?_;subst he;refine⟨lim.keeps x.toInCall.keep,codeAny_func ?_⟩;obtain⟨t,ht,hq⟩:=hbody A outer s H vs Q E (hr.deeper _) hsp;have I:Inv (Bi CX P w K mg base N qual scope f cdv A outer s H E) [] (start N vs) H s1:=Hr S hr.hd e0 hl r x;refine wpAny_mono (ht [] s1 (start N vs) H _ I hq) (fun fl s' hs=>?_) fun e s' hs=>hs;have fin:∀{σ':St} {H':Hp} {v:V} {u:Value},Inv (Bi CX P w K mg base N qual scope f cdv A outer s H E) [] σ' H' s'->cD v u->Q v H'->CE outer P w H s Q u s':=
  fun {σ' H' v u} J rv q=>⟨v,H',J.os,J.bare,J.base,J.hok,rv,q⟩
 cases fl with
 |ret u=>
  obtain⟨v,σ',H',J,rv,q⟩:=hs;exact fin J rv q
 |next=>
  obtain⟨σ',H',J,q⟩:=hs;exact fin (v:=V.non) (u:=Value.none) J rfl q
 |brk=>
  obtain⟨_,_,_,q⟩:=hs;exact False.elim q
 |cont=>
  obtain⟨_,_,_,q⟩:=hs;exact False.elim q
section
variable {X:Cx} {x:Str} {p pos:Pos} {e:Expr} {es:List Expr} {t:TA} {id T:String} {r:List V->Hp->VK->Prop}
def tCB (r:List V->Hp->VK->Prop)(t:TA):TE:=fun σ H Q=>t σ H fun vs H1=>r vs H1 Q
theorem bO (hc:mM X (.builtin id) r)(hg:Gl X x)(hm:X.mg x=none)(hv:bootBuiltins x=some (.builtin id))(ha:PA X (e :: es) t)(hn:x≠"__name__":=by decide)(hdb:(x == ("__debug__":Str))=false:=by decide)(he:starEach (e :: es) X.env=(false,eval e X.env) :: starEach es X.env:=by rfl)(hpl:(backTo pos (starEach es X.env)).any (·.1)=false:=by rfl):PE X (.Call (.Name x p) (e :: es) [] pos) (tCB r t):=by
 intro pins s σ H Q I h;refine wpAny_Call_Name_kw (jY I hg hm hv ?_ hn hdb);exact PyProof.Rows.callWith_builtin1 (thn (ha pos pins s σ H _ I h) fun us s1 ⟨vs,H1,I1,r1,q1⟩=>hc pins s1 σ H1 vs us Q I1 r1 q1) he hpl
theorem lL (hc:mM X (.type T) r)(hg:Gl X x)(hm:X.mg x=none)(hv:bootBuiltins x=some (.type T))(ha:PA X (e :: es) t)(hn:x≠"__name__":=by decide)(hdb:(x == ("__debug__":Str))=false:=by decide)(he:starEach (e :: es) X.env=(false,eval e X.env) :: starEach es X.env:=by rfl)(hpl:(backTo pos (starEach es X.env)).any (·.1)=false:=by rfl):PE X (.Call (.Name x p) (e :: es) [] pos) (tCB r t):=by
 intro pins s σ H Q I h;refine wpAny_Call_Name_kw (jY I hg hm hv ?_ hn hdb);exact PyProof.Rows.callWith_type1 (thn (ha pos pins s σ H _ I h) fun us s1 ⟨vs,H1,I1,r1,q1⟩=>hc pins s1 σ H1 vs us Q I1 r1 q1) he hpl
end
end L2
namespace HT
open PySem PyProof.Rows
section
variable {prog:Program} {w:World} {A:Around} {E:Value->Shared->Prop} {s:Shared}
theorem cat_tup {t b:Addr}{vs ws:List Value}{Q:Value->Shared->Prop}(ht:IsTup s.heap t vs.toArray)(hb:IsTup s.heap b ws.toArray)(hv:vs≠[])(h1:ws=[]->Q (.ref t) s)(h2:ws≠[]->Q (.ref s.heap.objs.size) { s with heap:=s.heap.push { cls:=.type "tuple",data:=.seq (vs++ws).toArray } })(hsz:vs.length+ws.length<=sizeLine):wpAny (model prog w) A (binaryOp .Add (.ref t) (.ref b)) Q E s:=by
 obtain⟨⟨cls,dd,data,sl⟩,ho,hc,n,hd⟩:=id ht;obtain⟨⟨cls2,dd2,data2,sl2⟩,ho2,hc2,n2,hd2⟩:=id hb;simp only at hc hd hc2 hd2;subst hc hd hc2 hd2;have e:vs.toArray++ws.toArray=(vs++ws).toArray:=by simp
 by_cases hw:ws=[]
 ·exact concat_meets ⟨_,ho,rfl⟩ ⟨_,ho2,rfl⟩ noFill_tuple_add seq_tuple_add PySem.F.slot_tuple_add PySem.F.entry_tuple_add (PySem.F.args_tuple_add_2 _ _)
   (tuple_addW1 t b vs.toArray ws.toArray n n2 dd dd2 sl sl2 (by simpa using hv) (by simp[hw])) ⟨ho,ho2,h1 hw⟩
 ·refine concat_meets ⟨_,ho,rfl⟩ ⟨_,ho2,rfl⟩ noFill_tuple_add seq_tuple_add PySem.F.slot_tuple_add PySem.F.entry_tuple_add (PySem.F.args_tuple_add_2 _ _)
   (tuple_addW2 t b vs.toArray ws.toArray n n2 dd dd2 sl sl2 (by simpa using hv) (by simpa using hw) (by rw[List.size_toArray,List.size_toArray];exact hsz)) ⟨ho,ho2,?_⟩
  rw[e];exact h2 hw
def sIx (n d:Nat):Option Int->Nat
 |none=>d
 |some v=>if v < 0 then (v+(n:Int)).toNat else min v.toNat n
theorem Ux (n d:Nat)(hd:d<=n)(o:Option Int):sIx n d o<=n:=by
 cases o with
 |none=>exact hd
 |some v=>
  show (if v < 0 then (v+(n:Int)).toNat else min v.toNat n)<=n
  by_cases hv:v < 0
  ·rw[if_pos hv];omega
  ·rw[if_neg hv];exact Nat.min_le_right _ _
theorem De (v:Int)(n d:Nat):(if v < 0 then max (v+(n:Int)) 0 else min v (n:Int))=((sIx n d (some v):Nat):Int):=by
 show (if v < 0 then max (v+(n:Int)) 0 else min v (n:Int))=(((if v < 0 then (v+(n:Int)).toNat else min v.toNat n):Nat):Int)
 by_cases hv:v < 0
 ·simp only[if_pos hv];omega
 ·simp only[if_neg hv];omega
theorem Cb (lo hi:Option Int)(n:Nat):Builtin.Slice.sliceAdjust lo hi 1 (n:Int)=(((sIx n 0 lo:Nat):Int),((sIx n n hi:Nat):Int)):=by
 have h1:¬((1:Int) < 0):=by omega
 unfold Builtin.Slice.sliceAdjust;simp only[h1,if_false];refine Prod.ext ?_ ?_
 ·cases lo with
  |none=>rfl
  |some v=>exact De v n 0
 ·cases hi with
  |none=>rfl
  |some v=>exact De v n n
theorem Bh (i j:Nat):Builtin.Slice.slicePlaces (i:Int) (j:Int) 1=j - i:=by
 unfold Builtin.Slice.slicePlaces;have h1:(1:Int) > 0:=by omega
 simp only[h1,if_true,Int.ediv_one];split<;>omega
theorem tO {v:Value}{o:Option Int}{Q:Option Int->Shared->Prop}(p:IsPart v o)(h:Q o s):wpAny (model prog w) A (Builtin.Slice.slicePartIndex v) Q E s:=by
 cases p with
 |none=>exact slicePart_none h
 |int i t=>exact slicePart_int h
theorem pP {sl:Addr}{vl vu:Value}{lo hi:Option Int}{n:Nat}{Q:Int × Int × Nat->Shared->Prop}(hs:s.heap.IsSliceOf sl vl vu .none)(pl:IsPart vl lo)(pu:IsPart vu hi)(h:Q (((sIx n 0 lo:Nat):Int),1,sIx n n hi - sIx n 0 lo) s):wpAny (model prog w) A (Builtin.Slice.sliceApplied (.ref sl) (pure (n:Int))) Q E s:=by
 obtain⟨os,hos,hcs,hds⟩:=id hs;unfold Builtin.Slice.sliceApplied Builtin.Slice.sliceFields;refine wpAny_bind (wpAny_bind (wpAny_field hos hds (x:=vl) rfl (wpAny_bind (wpAny_field hos hds (x:=vu) rfl (wpAny_bind (wpAny_field hos hds (x:=.none) rfl (wpAny_pure ?_)))))));refine wpAny_bind (slicePart_none ?_);show wpAny _ _ (if ((1:Int) == 0)=true then _ else _) _ _ s;rw[if_neg (by decide)];refine wpAny_bind (tO pl (wpAny_bind (tO pu (wpAny_bind (wpAny_pure ?_)))));show wpAny _ _ (match Builtin.Slice.sliceAdjust lo hi 1 (n:Int) with | (lo,hi)=>pure (lo,(1:Int),Builtin.Slice.slicePlaces lo hi 1)) _ _ s;rw[Cb lo hi n];show wpAny _ _ (pure (((sIx n 0 lo:Nat):Int),(1:Int),Builtin.Slice.slicePlaces ((sIx n 0 lo:Nat):Int) ((sIx n n hi:Nat):Int) 1)) _ _ s;rw[Bh];exact wpAny_pure h
theorem La (xs:Array Value)(i k:Nat):((List.range k).filterMap fun (m:Nat)=>xs[((i:Int)+(m:Int)*1).toNat]?).toArray=((xs.toList.drop i).take k).toArray:=by
 have e:(fun (m:Nat)=>xs[((i:Int)+(m:Int)*1).toNat]?)=fun m=>xs[i+m]?:=by
  funext m
  have:((i:Int)+(m:Int)*1).toNat=i+m:=by omega
  rw[this]
 rw[e];have:=pick_run xs i k;rw[List.filterMap_map] at this;have e2:((fun x=>xs[x]?) ∘ fun x=>i+x)=fun m=>xs[i+m]?:=rfl;rw[e2] at this;rw[this]
theorem getItem_tuple_cut {t sl:Addr}{items:Array Value}{vl vu:Value}{lo hi:Option Int}{Q:Value->Shared->Prop}(ht:IsTup s.heap t items)(hs:s.heap.IsSliceOf sl vl vu .none)(pl:IsPart vl lo)(pu:IsPart vu hi)(hw:¬(sIx items.size 0 lo=0/\sIx items.size items.size hi=items.size))(h:Q (.ref s.heap.objs.size) { s with heap:=s.heap.push { cls:=.type "tuple",data:=.seq ((items.toList.drop (sIx items.size 0 lo)).take (sIx items.size items.size hi - sIx items.size 0 lo)).toArray } })(hsz:items.size<=sizeLine):wpAny (model prog w) A (getItem (.ref t) (.ref sl)) Q E s:=by
 have htake:sizeOk (.seq ((items.toList.drop (sIx items.size 0 lo)).take (sIx items.size items.size hi - sIx items.size 0 lo)).toArray):=by
  show ((items.toList.drop (sIx items.size 0 lo)).take (sIx items.size items.size hi - sIx items.size 0 lo)).toArray.size<=sizeLine;rw[List.size_toArray,List.length_take,List.length_drop,Array.length_toList];omega
 have hj:sIx items.size items.size hi<=items.size:=Ux _ _ (Nat.le_refl _) hi;obtain⟨os,hos,hcs,hds⟩:=id hs;have hTs:s.TypeIs (.ref sl) "slice":=⟨os,hos,hcs⟩
 unfold getItem
 try with_reducible refine wpAny_holding ?_
 first | refine wpAny_bind (wpAny_pure ?_) | skip
 refine wpAny_bind (wpAny_sequenceKey ht.typeIs (by decide) ?_);refine wpAny_bind (wpAny_callSpecial?_slot (name:=Str.ofString "__getitem__") ht.typeIs PyProof.Rows.slot_tuple_getitem
  (wpAny_call_entry PyProof.Rows.slot_tuple_getitem ht.typeIs entry_tuple_getitem ?_ (args_tuple_getitem _ _)))
 show wpAny _ _ (Builtin.Tuple.tupleItemsOf (.ref t) >>= _) _ _ s;refine wpAny_bind (tupleItemsOf_ ht ?_);refine wpAny_bind (wpAny_typeOf hTs ?_);rw[if_pos (by decide)];refine wpAny_bind (pP hs pl pu ?_);have hno:¬((((sIx items.size 0 lo:Nat):Int) == 0 && (1:Int) == 1 && (sIx items.size items.size hi - sIx items.size 0 lo) == items.size)=true):=by
  intro q;rw[Bool.and_eq_true,Bool.and_eq_true] at q;have q1:((sIx items.size 0 lo:Nat):Int)=0:=eq_of_beq q.1.1;have q2:sIx items.size items.size hi - sIx items.size 0 lo=items.size:=eq_of_beq q.2;exact hw ⟨by omega,by omega⟩
 show wpAny _ _ (if (((sIx items.size 0 lo:Nat):Int) == 0 && (1:Int) == 1 && (sIx items.size items.size hi - sIx items.size 0 lo) == items.size)=true then _ else _) _ _ s;rw[if_neg hno,La]
 first
  |exact wpAny_bind (m:=Builtin.Tuple.tupleExact _) (wpAny_newObj_type (wpAny_pure ⟨_,rfl,wpAny_pure h⟩) htake)
  |exact wpAny_bind (m:=Builtin.Tuple.tupleExact _) (wpAny_newObj_type (wpAny_bind (wpAny_pure (wpAny_pure ⟨_,rfl,wpAny_pure h⟩))) htake)
  |exact wpAny_bind (wpAny_bind (m:=Builtin.Tuple.tupleExact _) (wpAny_newObj_type (wpAny_pure (wpAny_pure ⟨_,rfl,wpAny_pure h⟩)) htake))
  |exact wpAny_bind (wpAny_bind (m:=Builtin.Tuple.tupleExact _) (wpAny_newObj_type (wpAny_pure ⟨_,rfl,wpAny_pure h⟩) htake))
end
end HT
namespace L2
open PySem PySem.Spec PyProof.Rows
abbrev TO:=St->Hp->(Option Int->Hp->Prop)->Prop
def PO (X:Cx)(e:Option Expr)(t:TO):Prop:=
 ∀(pins:List (Addr × Obj)) (s:Shared) (σ:St) (H:Hp) (Q:Option Int->Hp->Prop),Inv X pins σ H s->t σ H Q->
  wpAny (model X.prog X.w) X.A (evalPart e X.env) (fun u s'=>∃o H',Inv X pins σ H' s'/\IsPart u o/\Q o H') X.xe s
def Qm:TO:=fun _ H Q=>Q none H
def Xt (t:TE):TO:=fun σ H Q=>t σ H fun x H1=>∃i,x=.int i/\Q (some i) H1
section
variable {X:Cx} {e:Expr} {te:TE} {lo hi:Option Expr} {tl th:TO} {pos p2:Pos}
theorem gV:PO X none Qm:=by
 intro pins s σ H Q I h;rw[evalPart_none];exact wpAny_pure ⟨none,H,I,.none,h⟩
theorem fK (h:PE X e te):PO X (some e) (Xt te):=by
 intro pins s σ H Q I hw;rw[evalPart_some];refine thn (h pins s σ H _ I hw) fun u s1 ⟨x,H1,I1,r1,q1⟩=>?_;obtain⟨i,rfl,q⟩:=q1;obtain⟨t,rfl⟩:=r1;exact⟨some i,H1,I1,.int i t,q⟩
def SlR (X:Cx)(r:V->Option Int->Option Int->Hp->VK->Prop):Prop:=
 ∀(pins:List (Addr × Obj)) (s:Shared) (σ:St) (H:Hp) (x:V) (v vl vu:Value) (lo hi:Option Int) (sl:Addr) (Q:VK),Inv X pins σ H s->cD x v->s.heap.IsSliceOf sl vl vu .none->IsPart vl lo->IsPart vu hi->r x lo hi H Q->
  ∃T id,typeLookup (.type T) "__getitem__"=pure (some (.builtin id))/\s.TypeIs v T/\wpAny (model X.prog X.w) X.A (getItem v (.ref sl)) (EP X pins σ Q) X.xe s
def tSl (r:V->Option Int->Option Int->Hp->VK->Prop)(te:TE)(tl th:TO):TE:=fun σ H Q=>te σ H fun x H1=>tl σ H1 fun l H2=>th σ H2 fun u H3=>r x l u H3 Q
theorem fC {r:V->Option Int->Option Int->Hp->VK->Prop}(hr:SlR X r)(he:PE X e te)(hl:PO X lo tl)(hu:PO X hi th):PE X (.Subscript e (.Slice lo hi none p2) pos) (tSl r te tl th):=by
 intro pins s σ H Q I h;refine Subscript_ (thn (he pins s σ H _ I h) fun v s1 ⟨x,H1,I1,r1,q1⟩=>?_);refine wpAny_Slice (thn (hl pins s1 σ H1 _ I1 q1) fun vl s2 ⟨l,H2,I2,pl,q2⟩=>thn (hu pins s2 σ H2 _ I2 q2) fun vu s3 ⟨u,H3,I3,pu,q3⟩=>?_);rw[evalPart_none];refine wpAny_pure ?_;have I4:Inv X pins σ H3 { s3 with heap:=s3.heap.push { cls:=.type "slice",data:=.fields #[vl,vu,.none] } }:=I3.kept (t':=s3.toks) fun b ob q=>Heap.get?_push_of_some _ q;obtain⟨T,id,hT,ht,hg⟩:=hr pins { s3 with heap:=s3.heap.push { cls:=.type "slice",data:=.fields #[vl,vu,.none] } } σ H3 x v vl vu l u s3.heap.objs.size Q I4 r1 (Heap.IsSliceOf.new ..) pl pu q3;show wpAny (model X.prog X.w) X.A (subscriptTail e (.Slice lo hi none p2) v (.ref s3.heap.objs.size)) (EP X pins σ Q) X.xe { s3 with heap:=s3.heap.push { cls:=.type "slice",data:=.fields #[vl,vu,.none] } };exact tail_any (ops:=[.ref s3.heap.objs.size,v]) ht hT hg (by with_unfolding_all rfl)
def iU (xs:List V)(lo hi:Option Int):List V:=(xs.drop (HT.sIx xs.length 0 lo)).take (HT.sIx xs.length xs.length hi - HT.sIx xs.length 0 lo)
theorem qW (xs:List V)(lo hi:Option Int):(iU xs lo hi).length<=xs.length:=by
 unfold iU;exact Nat.le_trans (List.length_take_le' _ _) (by rw[List.length_drop];exact Nat.sub_le _ _)
def Zi (K:PySem.W.Frag):V->Option Int->Option Int->Hp->VK->Prop:=fun x lo hi H Q=>∃a xs,x=.ref a/\SqT K H a xs/\
 ¬(HT.sIx xs.length 0 lo=0/\HT.sIx xs.length xs.length hi=xs.length)/\∀p,H p=none->Q (.ref p) (upd H p (.tup (iU xs lo hi)))
theorem Um:SlR X (Zi X.K):=by
 intro pins s σ H x v vl vu lo hi sl Q I rx hs pl pu h;obtain⟨a,xs,rfl,hx,hw,q⟩:=h
 cases rx
 obtain⟨its,r,ht,hz⟩:=I.tuple hx;have hlen:its.toArray.size=xs.length:=by rw[List.size_toArray];exact r.length.symm
 refine⟨"tuple",_,PyProof.Rows.slot_tuple_getitem.lookup,ht.typeIs,?_⟩;refine HT.getItem_tuple_cut ht hs pl pu (by rw[hlen];exact hw) ?_ (by rw[hlen];exact hz);rw[hlen];refine⟨.ref s.heap.objs.size,_,I.laid (t':=s.toks) (o:=.tup (iU xs lo hi)) (fun b ob q=>Heap.get?_push_of_some _ q) (Nat.le_refl _) ?_,rfl,q _ (I.hok.fresh (Nat.le_refl _))⟩;exact⟨Nat.le_trans (qW xs lo hi) hz,_,(r.drop (HT.sIx xs.length 0 lo)).take (HT.sIx xs.length xs.length hi - HT.sIx xs.length 0 lo),IsTup.new _ _⟩
def Xx (K:PySem.W.Frag):R2:=fun x y H Q=>∃a b xs ys,x=.ref a/\y=.ref b/\SqT K H a xs/\SqT K H b ys/\xs≠[]/\xs.length+ys.length<=sizeLine/\
 (ys=[]->Q (.ref a) H)/\(ys≠[]->∀p,H p=none->Q (.ref p) (upd H p (.tup (xs++ys))))
theorem bY.nil_iff {xs:List V}{us:List Value}(r:bY xs us):us=[]↔xs=[]:=by
 cases r with
 |nil=>simp
 |cons _ _=>simp
theorem Pq:OpR X (binaryOp .Add) (Xx X.K):=by
 intro pins s σ H x y v u Q I rx ry h;obtain⟨a,b,xs,ys,rfl,rfl,ha,hb,hx,hz,q1,q2⟩:=h
 cases rx
 cases ry
 obtain⟨its,r1,p1,_⟩:=I.tuple ha;obtain⟨its2,r2,p2,_⟩:=I.tuple hb;refine HT.cat_tup p1 p2 (fun z=>hx (r1.nil_iff.mp z)) (fun z=>⟨.ref a,H,I,rfl,q1 (r2.nil_iff.mp z)⟩) (fun z=>?_) (by rw[<- r1.length,<- r2.length];exact hz);refine⟨.ref s.heap.objs.size,_,I.laid (t':=s.toks) (o:=.tup (xs++ys)) (fun b ob q=>Heap.get?_push_of_some _ q) (Nat.le_refl _) ?_,rfl,q2 (fun w=>z (r2.nil_iff.mpr w)) _ (I.hok.fresh (Nat.le_refl _))⟩;exact⟨by rw[List.length_append];exact hz,_,r1.append r2,IsTup.new _ _⟩
end
def ixN (n:Nat)(i:Int):Option Nat:=if 0<=i then (if i < n then some i.toNat else none) else if -(n:Int)<=i then some (i+n).toNat else none
def atI {α:Type}(xs:List α)(i:Int):Option α:=(ixN xs.length i).bind fun j=>xs[j]?
theorem Dr {n:Nat}{i:Int}{j:Nat}(h:ixN n i=some j):seqIndex? i n=some j/\j < n/\-(n:Int)<=i/\i < n:=by
 unfold ixN at h
 by_cases h0:0<=i
 ·rw[if_pos h0] at h
  by_cases h1:i < n
  ·rw[if_pos h1] at h;have e:i.toNat=j:=Option.some.inj h;exact⟨by rw[seqIndex_of h0 h1,e],by omega,by omega,h1⟩
  ·rw[if_neg h1] at h;cases h
 ·rw[if_neg h0] at h
  by_cases h1:-(n:Int)<=i
  ·rw[if_pos h1] at h;have e:(i+n).toNat=j:=Option.some.inj h;exact⟨by rw[seqIndex_neg (by omega) h1,e],by omega,h1,by omega⟩
  ·rw[if_neg h1] at h;cases h
theorem Er {α:Type}{xs:List α}{i:Int}{v:α}(h:atI xs i=some v):∃j,seqIndex? i xs.length=some j/\xs[j]?=some v/\j < xs.length/\-(xs.length:Int)<=i/\i < xs.length:=by
 unfold atI at h
 cases e:ixN xs.length i with
 |none=>rw[e] at h;cases h
 |some j=>
  rw[e] at h;obtain⟨h1,h2,h3,h4⟩:=Dr e;exact⟨j,h1,h,h2,h3,h4⟩
theorem bQ {α:Type}{xs:List α}{j:Nat}{v:α}(h:xs[j]?=some v):atI xs (j:Int)=some v:=by
 have hj:j < xs.length:=(List.getElem?_eq_some_iff.mp h).1;have e:ixN xs.length (j:Int)=some j:=by
  unfold ixN;rw[if_pos (by omega),if_pos (by omega)];simp
 unfold atI;rw[e];exact h
def Oz (b:Expr):Prop:=∀o i,subscripted b false o i=operate [o,i] (getItem o i)
def IxR (X:Cx)(r:R2):Prop:=
 ∀(value slice:Expr) (pins:List (Addr × Obj)) (s:Shared) (σ:St) (H:Hp) (x y:V) (v u:Value) (Q:VK),Inv X pins σ H s->cD x v->cD y u->r x y H Q->
  subscripted slice false v u=operate [v,u] (getItem v u)->wpAny (model X.prog X.w) X.A (subscriptTail value slice v u) (EP X pins σ Q) X.xe s
def MtR (X:Cx)(id:String)(r:V->List V->Hp->VK->Prop):Prop:=
 ∀(pins:List (Addr × Obj)) (s:Shared) (σ:St) (H:Hp) (x:V) (xs:List V) (v:Value) (us:List Value) (Q:VK),Inv X pins σ H s->cD x v->bY xs us->r x xs H Q->
  wpAny (model X.prog X.w) X.A (call (.builtin id) (v :: us)) (EP X pins σ Q) X.xe s
section
variable {X:Cx} {a b:Expr} {ta tb:TE} {pos:Pos}
theorem aP {r:R2}(hr:IxR X r)(ha:PE X a ta)(hb:PE X b tb)(hs:Oz b):PE X (.Subscript a b pos) (tOp r ta tb):=by
 intro pins s σ H Q I h;exact Subscript_ (Vo ha hb I h fun v u s2 x y H2 I2 rx ry q=>hr a b pins s2 σ H2 x y v u Q I2 rx ry q (hs _ _))
def Vy (K:PySem.W.Frag):R2:=fun x y H Q=>∃p xs i v,x=.ref p/\y=.int i/\SqL K H p xs/\atI xs i=some v/\Q v H
def Qw (K:PySem.W.Frag):R2:=fun x y H Q=>∃p xs i v,x=.ref p/\y=.int i/\SqT K H p xs/\atI xs i=some v/\Q v H
theorem bL:IxR X (Vy X.K):=by
 intro value slice pins s σ H x y v u Q I rx ry h hs;obtain⟨p,xs,i,z,rfl,rfl,hq,he,q⟩:=h
 cases rx
 obtain⟨t,rfl⟩:=ry;obtain⟨its,r,pl,hz⟩:=I.list hq;obtain⟨j,h1,h2,h3,h4,h5⟩:=Er he;obtain⟨w,ew,rw'⟩:=r.get h2;have hl:=r.length;have hn:=xW;have fin:EP X pins σ Q w s:=⟨z,H,I,rw',q⟩
 by_cases h0:0<=i
 ·have hj:i.toNat=j:=by
   rw[seqIndex_of h0 h5] at h1;exact Option.some.inj h1
  exact item_listR pl.isList h0 (by omega) (by rw[hj];simpa using ew) fin hs
 ·have hj:(i+(its.toArray.size:Int)).toNat=j:=by
   rw[seqIndex_neg (by omega) h4] at h1;rw[List.size_toArray,<- hl];exact Option.some.inj h1
  exact subscriptTail_builtinR (x:=w) pl.isList.typeIs slot_list_getitem.lookup
   (wpAny_getItem_list_neg (Q:=fun r s'=>r=w/\EP X pins σ Q r s') pl.isList (by omega) (by rw[List.size_toArray]<;>omega) (by omega) (by rw[hj];simpa using ew) ⟨rfl,fin⟩) hs
theorem aX:IxR X (Qw X.K):=by
 intro value slice pins s σ H x y v u Q I rx ry h hs;obtain⟨p,xs,i,z,rfl,rfl,hq,he,q⟩:=h
 cases rx
 obtain⟨t,rfl⟩:=ry;obtain⟨its,r,pl,hz⟩:=I.tuple hq;obtain⟨j,h1,h2,h3,h4,h5⟩:=Er he;obtain⟨w,ew,rw'⟩:=r.get h2;have hl:=r.length;have hn:=xW;have fin:EP X pins σ Q w s:=⟨z,H,I,rw',q⟩
 exact subscriptTail_builtinR (x:=w) pl.typeIs slot_tuple_getitem.lookup
  (getItem_tuple (j:=j) (Q:=fun r s'=>r=w/\EP X pins σ Q r s') pl (by omega) (by omega) (by rw[List.size_toArray,<- hl];exact h1) (by simpa using ew) ⟨rfl,fin⟩) hs
theorem Bo (its:List Value)(n j:Nat)(u:Value):Obj.mapSeq (·.setIfInBounds j u) { cls:=.type "list",data:=.seq its.toArray n }={ cls:=.type "list",data:=.seq (its.set j u).toArray n }:=by
 simp[Obj.mapSeq]
theorem Inv.lst {pins:List (Addr × Obj)}{σ:St}{H:Hp}{s:Shared}{p:Addr}{xs:List V}(I:Inv X pins σ H s)(h:H p=some (.lst xs)) :
  ∃(its:List Value) (n:Nat),bY xs its/\s.heap.get? p=some { cls:=.type "list",data:=.seq its.toArray n }/\xs.length<=sizeLine:=by
 obtain⟨z,its,n,r,e⟩:=I.hok p _ h;exact⟨its,n,r,e,z⟩
theorem Inv.lstUpd {pins:List (Addr × Obj)}{σ:St}{H:Hp}{s:Shared}{p:Addr}{xs ys:List V}{its its':List Value}{n n':Nat}{f:Obj->Obj}(I:Inv X pins σ H s)(h:H p=some (.lst xs))(ho:s.heap.get? p=some { cls:=.type "list",data:=.seq its.toArray n })(hf:f { cls:=.type "list",data:=.seq its.toArray n }={ cls:=.type "list",data:=.seq its'.toArray n' })(r:bY ys its')(hz:ys.length<=sizeLine)(t:Nat) :
  Inv X pins σ (upd H p (.lst ys)) { s with heap:=s.heap.update p f,toks:=t }:=by
 have e:(s.heap.update p f).get? p=some { cls:=.type "list",data:=.seq its'.toArray n' }:=by
  rw[Heap.get?_update_self f ho (by rw[hf]<;>rfl),hf]
 refine I.write (x:=p) (e:=p) (by rw[h];trivial) (.inl rfl) (fun b u hb q=>(Heap.get?_update_other _ _ (Ne.symm hb)).trans q) ⟨_,e⟩ ?_;exact⟨hz,its',n',r,e⟩
def Xw:V->V->V->Hp->(Hp->Prop)->Prop:=fun o i v H Q=>∃p xs k j,o=.ref p/\i=.int k/\H p=some (.lst xs)/\ixN xs.length k=some j/\Q (upd H p (.lst (xs.set j v)))
theorem gA:Wk X Xw:=by
 intro pins s σ H o i v ov iv u Q I ro ri rv h;obtain⟨p,xs,k,j,rfl,rfl,hp,hj,q⟩:=h
 cases ro
 obtain⟨t,rfl⟩:=ri;obtain⟨its,n,r,ho,hz⟩:=I.lst hp;obtain⟨h1,h2,h3,h4⟩:=Dr hj;have hl:=r.length;have hn:=xW;have I':Inv X pins σ (upd H p (.lst (xs.set j v))) { s with heap:=s.heap.update p (Obj.mapSeq (·.setIfInBounds j u)) }:=
  I.lstUpd hp ho (Bo its n j u) (r.set rv j) (by rw[List.length_set];exact hz) s.toks
 by_cases h0:0<=k
 ·have hk:k.toNat=j:=by
   rw[seqIndex_of h0 h4] at h1;exact Option.some.inj h1
  exact PySem.W.ki_setAt ho h0 (by omega) (by rw[List.size_toArray,<- hl];exact h4) (by rw[hk];exact⟨_,I',q⟩)
 ·have hk:(k+(its.toArray.size:Int)).toNat=j:=by
   rw[seqIndex_neg (by omega) h3] at h1;rw[List.size_toArray,<- hl];exact Option.some.inj h1
  exact PySem.W.ki_setBack ho (by omega) (by rw[List.size_toArray,<- hl];exact h3) (by omega) (by rw[hk];exact⟨_,I',q⟩)
theorem sbA (lo hi:Option Int)(n:Nat):(sliceBounds lo hi none n).1=((HT.sIx n 0 lo:Nat):Int):=by
 cases lo with
 |none=>simp[sliceBounds,HT.sIx]
 |some i=>
  simp only[sliceBounds,HT.sIx,Option.getD_none,show (1:Int) > 0 by decide,if_true]
  by_cases h:i < 0
  ·simp only[h,if_true]<;>omega
  ·simp only[h,if_false]<;>omega
theorem yA (lo hi:Option Int)(n:Nat):(sliceBounds lo hi none n).1=((HT.sIx n 0 lo:Nat):Int)/\(sliceBounds lo hi none n).2.1=((HT.sIx n n hi:Nat):Int)/\(sliceBounds lo hi none n).2.2=1:=by
 refine⟨sbA lo hi n,?_,rfl⟩
 cases hi with
 |none=>simp[sliceBounds,HT.sIx]
 |some i=>exact sbA (some i) lo n
theorem uO (its:List Value)(lo hi:Option Int):slicePick its.toArray lo hi none=((its.drop (HT.sIx its.length 0 lo)).take (HT.sIx its.length its.length hi - HT.sIx its.length 0 lo)).toArray:=by
 obtain⟨h1,h2,h3⟩:=yA lo hi its.toArray.size;unfold slicePick;rw[h1,h2,h3];simp only[sliceRange_one,pick_run,List.size_toArray]<;>rfl
def Xs (K:PySem.W.Frag):V->Option Int->Option Int->Hp->VK->Prop:=fun x lo hi H Q=>∃a xs,x=.ref a/\SqL K H a xs/\∀p,H p=none->Q (.ref p) (upd H p (.lst (iU xs lo hi)))
theorem gF:SlR X (Xs X.K):=by
 intro pins s σ H x v vl vu lo hi sl Q I rx hs pl pu h;obtain⟨a,xs,rfl,hx,q⟩:=h
 cases rx
 obtain⟨its,r,ht,hz⟩:=I.list hx;have hlen:=r.length;refine⟨"list",_,slot_list_getitem.lookup,ht.isList.typeIs,?_⟩;refine wpAny_getItem_list_slice ht.isList hs pl pu .none (by simp) ?_ (by rw[List.size_toArray]<;>omega);rw[uO,<- hlen];refine⟨.ref s.heap.objs.size,_,I.laid (t':=s.toks) (o:=.lst (iU xs lo hi)) (fun b ob q=>Heap.get?_push_of_some _ q) (Nat.le_refl _) ?_,rfl,q _ (I.hok.fresh (Nat.le_refl _))⟩;exact⟨Nat.le_trans (qW xs lo hi) hz,_,0,(r.drop (HT.sIx xs.length 0 lo)).take (HT.sIx xs.length xs.length hi - HT.sIx xs.length 0 lo),Heap.get?_push_size _ rfl⟩
def mO:V->Bool
 | .non=>true
 | .bl _=>true
 | .int _=>true
 | .str _=>true
 |_=>false
def eqV:V->V->Bool
 | .non,.non=>true
 | .bl a,.bl b=>a == b
 | .bl a,.int b=>(if a then 1 else 0) == b
 | .int a,.bl b=>a == (if b then 1 else 0)
 | .int a,.int b=>a == b
 | .str a,.str b=>a == b
 |_,_=>false
theorem To {A:Around}{s:Shared}{y x:V}{u v:Value}(ry:cD y u)(rx:cD x v)(fy:mO y=true)(fx:mO x=true):SeqAt.EqAt A s u v (eqV y x):=by
 cases y with
 |non=>
  cases ry
  cases x with
  |non=>cases rx;exact SeqAt.EqAt.same _
  |bl b=>cases rx;exact SeqAt.EqAt.none_bool b
  |int b=>obtain⟨t,rfl⟩:=rx;exact SeqAt.EqAt.none_int b t
  |str b=>obtain⟨t,rfl⟩:=rx;exact SeqAt.EqAt.none_str b t
  |_=>exact absurd (show false=true from fx) Bool.false_ne_true
 |bl a=>
  cases ry
  cases x with
  |non=>cases rx;exact SeqAt.EqAt.bool_none a
  |bl b=>cases rx;exact SeqAt.EqAt.bool_bool a b
  |int b=>obtain⟨t,rfl⟩:=rx;exact SeqAt.EqAt.bool_int a b t
  |str b=>obtain⟨t,rfl⟩:=rx;exact SeqAt.EqAt.bool_str a b t
  |_=>exact absurd (show false=true from fx) Bool.false_ne_true
 |int a=>
  obtain⟨t',rfl⟩:=ry
  cases x with
  |non=>cases rx;exact SeqAt.EqAt.int_none a t'
  |bl b=>cases rx;exact SeqAt.EqAt.int_bool a t' b
  |int b=>obtain⟨t,rfl⟩:=rx;exact SeqAt.EqAt.int_int a t' b t
  |str b=>obtain⟨t,rfl⟩:=rx;exact SeqAt.EqAt.int_str a t' b t
  |_=>exact absurd (show false=true from fx) Bool.false_ne_true
 |str a=>
  obtain⟨t',rfl⟩:=ry
  cases x with
  |non=>cases rx;exact SeqAt.EqAt.str_none a t'
  |bl b=>cases rx;exact SeqAt.EqAt.str_bool a t' b
  |int b=>obtain⟨t,rfl⟩:=rx;exact SeqAt.EqAt.str_int a t' b t
  |str b=>obtain⟨t,rfl⟩:=rx;exact SeqAt.EqAt.str_str a t' b t
  |_=>exact absurd (show false=true from fx) Bool.false_ne_true
 |_=>exact absurd (show false=true from fy) Bool.false_ne_true
def eqU (x:V)(u:Value):Bool:=match u with
 | .none=>eqV .non x
 | .bool b=>eqV (.bl b) x
 | .int i _=>eqV (.int i) x
 | .str z _=>eqV (.str z) x
 |_=>false
theorem Nu {x y:V}{u:Value}(r:cD y u)(f:mO y=true):eqU x u=eqV y x:=by
 cases y with
 |non=>cases r;rfl
 |bl b=>cases r;rfl
 |int i=>obtain⟨t,rfl⟩:=r;rfl
 |str z=>obtain⟨t,rfl⟩:=r;rfl
 |_=>exact absurd (show false=true from f) Bool.false_ne_true
theorem yK {x:V}:∀{xs:List V} {us:List Value},bY xs us->xs.all mO=true->us.any (eqU x)=xs.any fun y=>eqV y x
 |_,_,.nil,_=>rfl
 |y :: xs,u :: us,.cons r t,f=>by
  rw[List.all_cons,Bool.and_eq_true] at f;rw[List.any_cons,List.any_cons,Nu r f.1,yK t f.2]
theorem tQ {A:Around}{s:Shared}{x:V}{v:Value}(rx:cD x v)(fx:mO x=true):∀{xs:List V} {us:List Value},bY xs us->xs.all mO=true->∀u∈us,SeqAt.EqAt A s u v (eqU x u)
 |_,_,.nil,_=>fun u hu=>by cases hu
 |y :: xs,u :: us,.cons r t,f=>fun u' hu=>by
  rw[List.all_cons,Bool.and_eq_true] at f;rcases List.mem_cons.mp hu with rfl | hu
  ·rw[Nu r f.1];exact To r rx f.1 fx
  ·exact tQ rx fx t f.2 u' hu
def inV (x:V)(xs:List V):Bool:=xs.any fun y=>eqV y x
def rIn (K:PySem.W.Frag)(neg:Bool):R2:=fun x y H Q=>∃p xs,y=.ref p/\(SqL K H p xs\/SqT K H p xs)/\mO x=true/\xs.all mO=true/\Q (.bl (if neg then !inV x xs else inV x xs)) H
theorem Gm:OpR X (compareOp .In) (rIn X.K false):=by
 intro pins s σ H x y v u Q I rx ry h;obtain⟨p,xs,rfl,hq,fx,fs,q⟩:=h
 cases ry
 rcases hq with hq | hq
 ·obtain⟨its,r,pl,hz⟩:=I.list hq;refine SeqAt.in_listAt (eqU x) pl.isList (fun w hw=>tQ rx fx r fs w (by simpa using hw)) ⟨.bl _,H,I,rfl,?_⟩;rw[show its.toArray.any (eqU x)=its.any (eqU x) by simp,yK r fs];exact q
 ·obtain⟨its,r,pl,hz⟩:=I.tuple hq;refine SeqAt.in_tupleAt (eqU x) pl (fun w hw=>tQ rx fx r fs w (by simpa using hw)) ⟨.bl _,H,I,rfl,?_⟩;rw[show its.toArray.any (eqU x)=its.any (eqU x) by simp,yK r fs];exact q
theorem bH:mM X (.builtin "len") (fun xs H Q=>∃p ys,xs=[.ref p]/\(SqL X.K H p ys\/SqT X.K H p ys)/\Q (.int ys.length) H):=by
 intro pins s σ H xs us Q I r h;obtain⟨p,ys,rfl,hq,q⟩:=h;obtain⟨u,rfl,rx⟩:=tG r
 cases rx
 have hn:=xW;rcases hq with hq | hq
 ·obtain⟨its,r',pl,hz⟩:=I.list hq;have hlen:=r'.length;exact Calls.call_len_list pl.isList (by simp only[List.size_toArray]<;>omega) ⟨.int ys.length,H,I.tok _,⟨s.toks+1,by rw[List.size_toArray,hlen]⟩,q⟩
 ·obtain⟨its,r',pl,hz⟩:=I.tuple hq;have hlen:=r'.length;exact len_tuple pl (by simp only[List.size_toArray]<;>omega) ⟨.int ys.length,H,I.tok _,⟨s.toks+1,by rw[List.size_toArray,hlen]⟩,q⟩
theorem jP:mM X (.type "list") (fun xs H Q=>∃p ys,xs=[.ref p]/\(SqL X.K H p ys\/SqT X.K H p ys)/\∀l,H l=none->Q (.ref l) (upd H l (.lst ys))):=by
 intro pins s σ H xs us Q I r h;obtain⟨p,ys,rfl,hq,q⟩:=h;obtain⟨u,rfl,rx⟩:=tG r
 cases rx
 have fin:∀(its:List Value),bY ys its->ys.length<=sizeLine->∀(h':Heap) (c':Nat),(∀b o',s.heap.get? b=some o'->h'.get? b=some o')->
   h'.get? s.heap.objs.size=some { cls:=.type "list",dict:=none,data:=.seq its.toArray c',slots:=#[] }->EP X pins σ Q (.ref s.heap.objs.size) { s with heap:=h' }:=fun its r' hz h' c' kp e=>
  ⟨.ref s.heap.objs.size,_,I.laid (t':=s.toks) kp (Nat.le_refl _) (show dQ X.prog X.w _ h' _ (.lst ys) from ⟨hz,its,c',r',e⟩),rfl,q _ (I.hok.fresh (Nat.le_refl _))⟩
 rcases hq with hq | hq
 ·obtain⟨its,r',pl,hz⟩:=I.list hq;have hlen:=r'.length;obtain⟨o,ho,hc,n,hd⟩:=pl.isList;exact call_list_seq p (.inl rfl) ho hc hd (fun h' c' kp e=>fin its r' hz h' c' kp e) (by simp only[List.size_toArray]<;>omega)
 ·obtain⟨its,r',pl,hz⟩:=I.tuple hq;have hlen:=r'.length;obtain⟨o,ho,hc,n,hd⟩:=pl;exact call_list_seq p (.inr rfl) ho hc hd (fun h' c' kp e=>fin its r' hz h' c' kp e) (by simp only[List.size_toArray]<;>omega)
def tyV (K:PySem.W.Frag)(T:String)(x:V)(H:Hp):Prop:=match x with
 | .str _=>T = "str"
 | .int _=>T = "int"
 | .ref p=>(T = "list"/\∃xs,SqL K H p xs)\/(T = "tuple"/\∃o,K.lookup p=some o/\o.cls=.type "tuple"/\o.dict=none)\/
   (T = "dict"/\((∃kvs,H p=some (.dK kvs))\/∃kvs,H p=some (.dT kvs)))\/(T = "set"/\∃S n,H p=some (.set S n))
 |_=>False
theorem Lo {pins:List (Addr × Obj)}{σ:St}{H:Hp}{s:Shared}{T:String}{x:V}{v:Value}(I:Inv X pins σ H s)(r:cD x v)(ty:tyV X.K T x H) :
  s.TypeIs v T/\∀a,v=.ref a->∃ob,s.heap.get? a=some ob/\ob.dict=none:=by
 cases x with
 |str z=>
  obtain⟨t,rfl⟩:=r
  cases (show T = "str" from ty)
  exact⟨typeIs_str s z t,fun _ e=>nomatch e⟩
 |int i=>
  obtain⟨t,rfl⟩:=r
  cases (show T = "int" from ty)
  exact⟨typeIs_int s i t,fun _ e=>nomatch e⟩
 |ref p=>
  cases r
  rcases ty with ⟨rfl,xs,hq⟩ | ⟨rfl,o,hk,hc,hd⟩ | ⟨rfl,hk⟩ | ⟨rfl,S,n,hk⟩
  ·obtain⟨its,_,pl,_⟩:=I.list hq;refine⟨pl.isList.typeIs,fun a e=>?_⟩
   cases e
   obtain⟨o,n,e,c,hd,_⟩:=pl;exact⟨o,e,hd⟩
  ·refine⟨⟨o,I.kIn p o hk,hc⟩,fun a e=>?_⟩
   cases e
   exact⟨o,I.kIn _ o hk,hd⟩
  ·have z:∃o,s.heap.get? p=some o/\o.ExactDict:=by
    rcases hk with ⟨kvs,hk⟩ | ⟨kvs,hk⟩
    ·obtain⟨_,_,_,_,o,_,_,e,ex,_⟩:=I.hok p _ hk;exact⟨o,e,ex⟩
    ·obtain⟨_,_,_,_,o,_,_,e,ex,_⟩:=I.hok p _ hk;exact⟨o,e,ex⟩
   obtain⟨o,e,ex⟩:=z;refine⟨⟨o,e,ex.1⟩,fun a e2=>?_⟩
   cases e2
   exact⟨o,e,ex.2.1⟩
  ·obtain⟨o,_,_,_,e,ex,_⟩:=I.hok p _ hk;refine⟨⟨o,e,ex.1⟩,fun a e2=>?_⟩
   cases e2
   exact⟨o,e,ex.2.1⟩
 |_=>exact False.elim ty
def Yk (K:PySem.W.Frag)(T:String)(r:V->List V->Hp->VK->Prop)(to:TE):TE:=fun σ H Q=>to σ H fun x H1=>tyV K T x H1/\r x [] H1 Q
def tBM (K:PySem.W.Frag)(T:String)(r:V->List V->Hp->VK->Prop)(to:TE)(t:TA):TE:=fun σ H Q=>to σ H fun x H1=>tyV K T x H1/\t σ H1 fun xs H2=>r x xs H2 Q
variable {o e:Expr} {es:List Expr} {to:TE} {t:TA} {name:Str} {apos cpos:Pos} {T id:String} {r:V->List V->Hp->VK->Prop}
theorem Up (pa:PlainAttrs T)(slot:Slot T name id)(hty:typeOf (.builtin id)=pure (.type "method_descriptor"))(hm:MtR X id r)(ho:PE X o to)(hbase:attributeBase o name X.env (eval o X.env)=eval o X.env:=by rfl)(hline:(apos.endLine == cpos.line)=true:=by rfl):PE X (.Call (.Attribute o name apos) [] [] cpos) (Yk X.K T r to):=by
 intro pins s σ H Q I h;refine wpAny_Call_method0_late hbase hline (thn (ho pins s σ H _ I h) fun v s1 ⟨x,H1,I1,r1,ty,q1⟩=>?_);obtain⟨h1,h2⟩:=Lo I1 r1 ty;exact⟨T,id,pa,slot,hty,h1,h2,Calls.callWith_builtin rfl (PySem.evalArgs_none (hm pins s1 σ H1 x [] v [] Q I1 r1 .nil q1))⟩
theorem nX (pa:PlainAttrs T)(slot:Slot T name id)(hty:typeOf (.builtin id)=pure (.type "method_descriptor"))(hm:MtR X id r)(ho:PE X o to)(ha:PA X (e :: es) t)(hbase:attributeBase o name X.env (eval o X.env)=eval o X.env:=by rfl)(hfew:((backTo cpos (starEach (e :: es) X.env)).all (fun x=>!x.1) && (backToKw cpos (keywordEach [] X.env)).all (fun x=>x.1.isSome)
   && decide ((e :: es).length+([]:List Keyword).length+(if ([]:List Keyword).isEmpty then 0 else 1) < 30))=true:=by rfl)(hline:(apos.endLine == cpos.line)=true:=by rfl)(hs:starEach (e :: es) X.env=(false,eval e X.env) :: starEach es X.env:=by rfl)(hplain:(backTo cpos (starEach es X.env)).any (·.1)=false:=by rfl) :
  PE X (.Call (.Attribute o name apos) (e :: es) [] cpos) (tBM X.K T r to t):=by
 intro pins s σ H Q I h;refine wpAny_Call_method_late hbase hfew hline rfl (thn (ho pins s σ H _ I h) fun v s1 ⟨x,H1,I1,r1,ty,q1⟩=>?_);obtain⟨h1,h2⟩:=Lo I1 r1 ty;refine⟨T,id,pa,slot,hty,h1,h2,?_⟩;have hA:=ha cpos pins s1 σ H1 _ I1 q1;rw[hs] at hA ⊢;refine Calls.callWith_builtin (by show (false || (backTo cpos (starEach es X.env)).any (·.1))=false;rw[hplain]<;>rfl) (Calls.evalArgs_plain ?_);exact thn hA fun us s2 ⟨vs,H2,I2,r2,q2⟩=>hm pins s2 σ H2 x vs v us Q I2 r1 r2 q2
end
def MtM (X:Cx)(id:String)(r:V->List V->Hp->VK->Prop):Prop:=
 ∀(pins:List (Addr × Obj)) (s:Shared) (σ:St) (H:Hp) (x:V) (xs:List V) (v:Value) (us:List Value) (Q:VK),Inv X pins σ H s->cD x v->bY xs us->r x xs H Q->
  wpAny (model X.prog X.w) X.A (call (.builtin id) (v :: us)) (EP X pins σ Q) X.xe s
theorem bY.one:∀{x:V} {us:List Value},bY [x] us->∃u,us=[u]/\cD x u
 |_,_,.cons r .nil=>⟨_,rfl,r⟩
theorem bY.zero:∀{us:List Value},bY [] us->us=[]
 |_,.nil=>rfl
theorem bY.dropLast {xs:List V}{us:List Value}(h:bY xs us):bY xs.dropLast us.dropLast:=by
 induction h with
 |nil=>exact .nil
 |cons r t ih=>
  cases t with
  |nil=>exact .nil
  |cons q t'=>exact .cons r ih
theorem bY.rep {xs:List V}{us:List Value}(h:bY xs us):∀k:Nat,bY (List.replicate k xs).flatten (List.replicate k us).flatten
 |0=>.nil
 |k+1=>by
  rw[List.replicate_succ,List.replicate_succ,List.flatten_cons,List.flatten_cons];exact bY.append h (bY.rep h k)
theorem Cv {α:Type}(l:List α):l.eraseIdx (l.length - 1)=l.dropLast:=by
 induction l with
 |nil=>rfl
 |cons a r ih=>
  cases r with
  |nil=>rfl
  |cons b r=>
   have e:(a :: b :: r).length - 1=((b :: r).length - 1)+1:=by
    have h1:(a :: b :: r).length=r.length+2:=rfl;have h2:(b :: r).length=r.length+1:=rfl;omega
   rw[e,List.eraseIdx_cons_succ,ih]
   all_goals rfl
theorem wM (its:List Value):∀(k:Nat) (acc:List Value),
  List.foldl (fun x1 x2=>x1++x2) acc.toArray (List.replicate k its.toArray)=(acc++(List.replicate k its).flatten).toArray
 |0,acc=>by simp
 |k+1,acc=>by
  have e:acc.toArray++its.toArray=(acc++its).toArray:=by simp
  have e2:(acc++its)++(List.replicate k its).flatten=acc++(List.replicate (k+1) its).flatten:=by
   rw[List.replicate_succ,List.flatten_cons,List.append_assoc]
  rw[<- e2,<- wM its k (acc++its),<- e,List.replicate_succ,List.foldl_cons]
section
variable {X:Cx} {pins:List (Addr × Obj)} {σ:St} {H:Hp} {s:Shared} {l b:Addr} {xs ys zs:List V}
theorem Inv.lset {its its':List Value}{n:Nat}{f:Array Value->Array Value}{t':Nat}(I:Inv X pins σ H s)(hH:H l=some (.lst xs))(e:s.heap.get? l=some { cls:=.type "list",data:=.seq its.toArray n })(hf:f its.toArray=its'.toArray)(hv:bY ys its')(hz:ys.length<=sizeLine) :
  Inv X pins σ (upd H l (.lst ys)) { s with heap:=s.heap.update l (Obj.mapSeq f),toks:=t' }:=by
 have q:=PySem.IsL.update e f;rw[hf] at q;refine I.write (x:=l) (e:=l) (by rw[hH];exact trivial) (.inl rfl) (fun b' u hb hu=>(Heap.get?_update_other s.heap (Obj.mapSeq f) (Ne.symm hb)).trans hu) ⟨_,q⟩ ?_;exact⟨hz,its',_,hv,q⟩
theorem Inv.lnew {its:List Value}{t':Nat}(I:Inv X pins σ H s)(hv:bY ys its)(hz:ys.length<=sizeLine) :
  Inv X pins σ (upd H s.heap.objs.size (.lst ys)) { s with heap:=s.heap.push { cls:=.type "list",data:=.seq its.toArray },toks:=t' }:=
 I.laid (fun _ _ q=>Heap.get?_push_of_some _ q) (Nat.le_refl _) ⟨hz,its,0,hv,Heap.get?_push_size _ rfl⟩
theorem Inv.fresh (I:Inv X pins σ H s):H s.heap.objs.size=none:=I.hok.fresh (Nat.le_refl _)
theorem Inv.lstM (I:Inv X pins σ H s)(hH:H l=some (.lst xs)):xs.length<=sizeLine/\∃(its:List Value) (n:Nat),bY xs its/\xs.length=its.length/\s.heap.get? l=some { cls:=.type "list",data:=.seq its.toArray n }:=by
 obtain⟨z,its,n,r,e⟩:=I.hok l _ hH;exact⟨z,its,n,r,r.length,e⟩
theorem Jd {n:Nat}(h:n<=sizeLine):Builtin.List.listTooLong n=false:=by
 unfold Builtin.List.listTooLong;exact decide_eq_false (by omega)
end
section
variable {X:Cx}
def Py:V->List V->Hp->VK->Prop:=fun x vs H Q=>∃l xs y,x=.ref l/\vs=[y]/\H l=some (.lst xs)/\xs.length < sizeLine/\Q .non (upd H l (.lst (xs++[y])))
theorem fX:MtM X "list.append" Py:=by
 intro pins s σ H x vs v us Q I rx rv h;obtain⟨l,xs,y,rfl,rfl,hH,hz,q⟩:=h
 cases rx
 obtain⟨u,rfl,ru⟩:=rv.one;obtain⟨z,its,n,r,hl,e⟩:=I.lstM hH;refine call_meets F.slot_list_append ⟨_,e,rfl⟩ F.entry_list_append (F.args_list_append_2 _ _) (PySem.list_append l its.toArray n u (by rw[List.size_toArray];omega)) ⟨e,?_⟩;refine⟨.non,_,I.lset (its':=its++[u]) hH e (by simp) (r.append (.cons ru .nil)) ?_,rfl,q⟩;rw[List.length_append,List.length_singleton];omega
def Yz:V->List V->Hp->VK->Prop:=fun x vs H Q=>∃l xs y,x=.ref l/\vs=[]/\H l=some (.lst xs)/\xs[xs.length - 1]?=some y/\Q y (upd H l (.lst xs.dropLast))
theorem Ug:MtM X "list.pop" Yz:=by
 intro pins s σ H x vs v us Q I rx rv h;obtain⟨l,xs,y,rfl,rfl,hH,hy,q⟩:=h
 cases rx
 have hus:=rv.zero;subst hus;obtain⟨z,its,n,r,hl,e⟩:=I.lstM hH;obtain⟨u,hu,ru⟩:=r.get hy;have hy':its.toArray[its.toArray.size - 1]?=some u:=by
  show its.toArray[its.length - 1]?=some u;rw[<- Array.getElem?_toList,<- hl];exact hu
 refine call_meets F.slot_list_pop ⟨_,e,rfl⟩ F.entry_list_pop (F.args_list_pop_1 _) (MeetsSeq.list_pop_last l its.toArray n u hy' (by rw[List.size_toArray];omega)) ⟨e,?_⟩;refine⟨y,_,I.lset (its':=its.dropLast) hH e ?_ r.dropLast ?_,ru,q⟩
 ·show its.toArray.eraseIdxIfInBounds (its.toArray.size - 1)=its.dropLast.toArray;rw[List.size_toArray,List.eraseIdxIfInBounds_toArray,Cv]
 ·rw[List.length_dropLast];omega
def Yo:R2:=fun x y H Q=>∃l b xs zs,x=.ref l/\y=.ref b/\H l=some (.lst xs)/\H b=some (.lst zs)/\xs.length+zs.length<=sizeLine/\∀p,H p=none->Q (.ref p) (upd H p (.lst (xs++zs)))
theorem kX:OpR X (binaryOp .Add) Yo:=by
 intro pins s σ H x y v u Q I rx ry h;obtain⟨l,b,xs,zs,rfl,rfl,hH,hB,hz,q⟩:=h
 cases rx
 cases ry
 obtain⟨z,its,n,r,hl,e⟩:=I.lstM hH;obtain⟨z2,its2,n2,r2,hl2,e2⟩:=I.lstM hB;refine PySem.P.add_list e e2 ?_ (by rw[List.size_toArray,List.size_toArray];omega);have ea:its.toArray++its2.toArray=(its++its2).toArray:=by simp
 rw[ea];exact⟨.ref _,_,I.lnew (t':=s.toks) (r.append r2) (by rw[List.length_append];omega),rfl,q _ I.fresh⟩
def Zc:R2:=fun x y H Q=>∃l k xs,x=.ref l/\y=.int k/\H l=some (.lst xs)/\-(2 ^ 63)<=k/\k < 2 ^ 63/\xs.length*k.toNat<=sizeLine/\
 ∀p,H p=none->Q (.ref p) (upd H p (.lst (List.replicate k.toNat xs).flatten))
theorem Di {α:Type}(xs:List α)(k:Nat):(List.replicate k xs).flatten.length=k*xs.length:=by
 induction k with
 |zero=>simp
 |succ k ih=>rw[List.replicate_succ,List.flatten_cons,List.length_append,ih,Nat.succ_mul,Nat.add_comm]
theorem pC:OpR X (binaryOp .Mult) Zc:=by
 intro pins s σ H x y v u Q I rx ry h;obtain⟨l,k,xs,rfl,rfl,hH,h1,h2,hz,q⟩:=h
 cases rx
 obtain⟨t,rfl⟩:=ry;obtain⟨z,its,n,r,hl,e⟩:=I.lstM hH;have hlen:its.toArray.size*k.toNat<=sizeLine:=by rw[List.size_toArray,<- hl];exact hz
 have hcap:¬its.toArray.size*k.toNat > (2 ^ 63 - 1) / 8:=by
  have:(sizeLine:Nat)<=(2 ^ 63 - 1) / 8:=by decide
  omega
 have hfit:¬(!Builtin.List.listFitsIndex k)=true:=by
  rw[fitsIndex_both h1 h2];exact Bool.false_ne_true
 have hlong:¬Builtin.List.listTooLong (its.toArray.size*k.toNat)=true:=by
  rw[Jd hlen];exact Bool.false_ne_true
 have hnew:List.foldl (fun x1 x2=>x1++x2) #[] (List.replicate (if its.toArray.isEmpty=true then 0 else k.toNat) its.toArray)=(List.replicate k.toNat its).flatten.toArray:=by
  have f0:∀m:Nat,List.foldl (fun x1 x2=>x1++x2) #[] (List.replicate m its.toArray)=(List.replicate m its).flatten.toArray:=fun m=>by
   have:=wM its m [];rw[List.nil_append] at this;exact this
  rw[f0]
  cases its with
  |nil=>simp
  |cons a r'=>rw[if_neg (by simp)]
 refine wpAny_binaryOp_repeat_ref (T:="list") (U:="int") (by decide) ⟨_,e,rfl⟩ (fun s'=>typeIs_int s' k t) noFill_list_mul F.fills_int_mul F.slot_int_rmul repeat_list F.slot_int_index.lookup
  (call_meets F.slot_int_rmul (typeIs_int s k t) F.entry_int_rmul (F.args_int_rmul_2 _ _) (int___rmul___int_list k t l its.toArray n)
   ⟨e,rfl,⟨_,e,rfl⟩,call_meets F.slot_list_mul ⟨_,e,rfl⟩ F.entry_list_mul (F.args_list_mul_2 _ _) (AutoListH.list___mul___list_int_3 l its.toArray n k t hfit hcap hlong) ⟨e,?_⟩⟩)
 rw[hnew];exact⟨.ref _,_,I.lnew (t':=s.toks) (r.rep k.toNat) (by rw[Di,Nat.mul_comm];exact hz),rfl,q _ I.fresh⟩
end
end L2
namespace Att
open PySem PySem.W PySem.Calls PyProof.Rows
theorem rF {P:Params}{h:Heap}:∀(ns:List Int) (vs:List Value),WellAll P h vs (ns.map WData.int)->IntsAre vs ns:=by
 intro ns
 induction ns with
 |nil=>
  intro vs w;rw[List.map_nil] at w
  cases w
  exact .nil
 |cons n ns ih=>
  intro vs w;rw[List.map_cons] at w
  cases w with
  |cons a b=>
   cases a
   exact .cons _ _ (ih _ b)
theorem Hs {l:OpenLaw}{n:Nat}(hn:l.most=some n){P:Params}{h:Heap}{args:List WData}{vals:List Value}(hpre:l.row.toRowW.claim.pre args=true)(hwl:WellAll P h vals args) :
  ∃a vs ns,vals=[Value.ref a]/\args=[WData.list (ns.map WData.int)]/\h.get? a=some { cls:=.type "list",data:=.seq vs.toArray }/\IntsAre vs ns/\ns.length<=n:=by
 have hsh:WShape.hasAll [] args [.list .int]=true:=(pre_splitW hpre).1;have hc:l.pre.holds [] { args:=args }=true:=(pre_splitW hpre).2;obtain⟨d,r,rfl,h1,h2⟩:=hasAllW_cons hsh;obtain rfl:=hasAllW_nil h2;obtain⟨xs,rfl,h3⟩:=hasW_list h1;obtain⟨ns,rfl⟩:=items_int h3;have hlen:ns.length<=n:=by
  unfold OpenLaw.pre at hc;have h4:(WTm.not (.lt (.lit (.int (n:Int))) (.len (.arg 0)))).holds [] { args:=[.list (ns.map .int)] }=true:=by
   have h4:=(holds_andW hc).1;rw[hn] at h4;exact h4
  have h5:=condW_of h4 (w_not (w_lt w_lit (w_len_list (w_arg rfl))));rw[List.length_map] at h5;refine Nat.le_of_not_lt fun q=>?_;have q':(n:Int) < ((ns.length:Nat):Int):=by omega
  first
   | (rw[decide_eq_true q'] at h5;exact absurd h5 (by decide))
   | (simp at h5;omega)
 cases hwl with
 |cons w1 w2=>
  cases w2
  cases w1 with
  |list ho hall=>exact⟨_,_,ns,rfl,rfl,ho,rF ns _ hall,hlen⟩
theorem Gg (l:OpenLaw)(args:List WData):l.row.toRowW.claim.post args (.bool true) args=true:=
 postW_of (r:=l.row.toRowW) (X:=(true == true))
  (show WShape.has [] (.bool true) .bool=true by first | rfl | decide | simp[WShape.has,WShape.arms,WShape.armsAll])
  (show (WTm.eq .res (.lit (.bool true))).value [] { args:=args,res:=some (.bool true),after:=args }=some (.bool (true == true)) from w_eq_bool (w_res rfl) w_lit) rfl
theorem attach_call {l:OpenLaw}{n:Nat}{q:Program}{loose:List Str}{XP:(Str->Option Value)->Heap->Prop}{YP:World->Heap->Prop}{d:DefRec}(hn:l.most=some n)(hdf:d.params.defaults=[])(call:∀(w:World) (s₀ s₁:Shared) (mg mb:Str->Option Value) (fa:Addr) (o:Obj) (pm cd doc:Value) (a:Addr) (vs:List Value) (ns:List Int),
   Ground q loose [] XP w s₀ mg mb s₁.heap->YP w s₁.heap->
   s₁.heap.get? fa=some o->o.data=.func (docDef d.name d.params d.body d.scope pm cd doc)->s₁.heap.CodeRec cd d.name->mg d.name=some (.ref fa)->
   s₁.heap.get? a=some { cls:=.type "list",data:=.seq vs.toArray }->IntsAre vs ns->ns.length<=n->s₁.gens=#[]->
   codeAny (model l.prog w) callerA (.call (.ref fa) ⟨[.ref a],[]⟩) (fun r s'=>r=.ok (.ret (.bool true))/\OldK s₁.heap s'.heap/\s'.os=s₁.os/\AllBare s'.gens) s₁) :
  WalkO q loose XP YP l.row.toRowW d [] (fun f vs=>PySem.call f vs):=by
 intro w s₀ s₁ mg mb G Y fa o pm cd doc dV kV ho hd hcd hD hmg hg args vals as hpre hlay hrd hwl hlo;obtain rfl:dV=.none:=Dflts.none hD hdf;obtain rfl:kV=.none:=Dflts.noKw hD;obtain⟨a,vs,ns,rfl,rfl,hobj,hints,hlen⟩:=Hs hn hpre hwl;refine enter_call (codeAny_mono (call w s₀ s₁ mg mb fa o pm cd doc a vs ns G Y ho (fd_plain hd) hcd hmg hobj hints hlen hg) fun r s' hq=>?_);obtain⟨rfl,h2,h3,h4⟩:=hq;exact⟨.inl ⟨.bool true,.bool true,[],rfl,fun _=>rfl,.bool true,Gg l _,fun _=>⟨List.Pairwise.nil,fun _ hm=>(nomatch hm)⟩⟩,h2,h3,h4⟩
end Att
namespace L2
open PySem PySem.Spec PyProof.Rows
theorem wS:∀{vs:List Value} {ns:List Int},IntsAre vs ns->bY (ns.map V.int) vs
 |_,_,.nil=>.nil
 |_,_,.cons n t h=>.cons ⟨t,rfl⟩ (wS h)
def Te (H:Hp):Prop:=∀b,H b=none\/∃o xs,H b=some (.frz o (.lst xs))
theorem Ky {P:Program}{w:World}{K:PySem.W.Frag}{mg mb:Str->Option Value}{CX:CXT}{k:Nat}{fa a:Addr}{fd:FuncData}{x:Str}{sp:Sp}{s₁:Shared}{vs:List Value}{ns:List Int}(KX:K.In s₁.heap)(hns:s₁.heap.Ns mainGlobals mg)(hb:s₁.heap.Ns builtinsNs mb)(hbb:∀x:Str,x≠"__name__"->mb x=bootBuiltins x)(hlim:s₁.heap.NoLimit)(hg:s₁.gens=#[])(ha:s₁.heap.get? a=some { cls:=.type "list",data:=.seq vs.toArray })(hi:IntsAre vs ns)(hl:ns.length<=sizeLine)(hr:gJ k callerA)(F:∀base:Heap,K.In base->base.Ns mainGlobals mg->aQ P w K mg base CX k fa fd [x] sp)(hbind:∀(s:Shared) (u:Value),BindsTo s fd ⟨[u],[]⟩ [(x,u)])(hsp:∀H:Hp,Te H->SqL K H a (ns.map V.int)->sp [.ref a] H (fun v _=>v=.bl true) fun _ _ _=>False)(hCX:∀H e s',CX [] H s₁ (fun _ _ _=>False) e s'->False) :
  codeAny (model P w) callerA (.call (.ref fa) ⟨[.ref a],[]⟩) (fun r s'=>r=.ok (.ret (.bool true))/\OldK s₁.heap s'.heap/\s'.os=s₁.os/\AllBare s'.gens) s₁:=by
 have rv:=wS hi;have lenV:=hi.length;have core:∀H:Hp,Te H->SqL K H a (ns.map V.int)->HOk P w H s₁.heap->(∀b,H b≠none->b=a)->(H a≠none->K.lookup a=none)->
   codeAny (model P w) callerA (.call (.ref fa) ⟨[.ref a],[]⟩) (fun r s'=>r=.ok (.ret (.bool true))/\OldK s₁.heap s'.heap/\s'.os=s₁.os/\AllBare s'.gens) s₁:=by
  intro H hO hS hok hA hK;have base_of:∀{b:Addr} {o:Obj},s₁.heap.get? b=some o->H b=none->(xF s₁.heap H).get? b=some o:=fun e n=>Nx e n;have noA:∀{b:Addr} {o:Obj} {es:Array DictEntry} {ep:Nat},s₁.heap.get? b=some o->o.data=.dict es ep->H b=none:=fun {b o es ep} e d=>by
   cases q:H b with
   |none=>rfl
   |some u=>
    have e':b=a:=hA b (by rw[q];simp);subst e';rw[ha] at e;cases e;have d':Data.seq vs.toArray _=Data.dict es ep:=d
    cases d'
  have nsK:∀{b:Addr} {m:Str->Option Value},s₁.heap.Ns b m->(xF s₁.heap H).Ns b m:=fun {b m} ⟨o,es,ep,e,d,r⟩=>⟨o,es,ep,base_of e (noA e d),d,r⟩
  have hKb:K.In (xF s₁.heap H):=fun b o e=>base_of (KX b o e) (by
   cases q:H b with
   |none=>rfl
   |some u=>
    have e':b=a:=hA b (by rw[q];simp);subst e';rw[hK (by rw[q];simp)] at e;cases e)
  have hM:Mod K mg (xF s₁.heap H):=⟨hKb,nsK hns,⟨mb,nsK hb,hbb⟩,let ⟨mc,h1,h2⟩:=hlim;⟨mc,nsK h1,h2⟩⟩
  have e0:Dc P w K mg (xF s₁.heap H) callerA [] s₁ H:=⟨rfl,hM,fun b o e=>On e,Nat.le_of_eq (Hi _ _),trivial,fun b hb=>absurd (show b∈([]:List Addr) from hb) (by simp),hok,.of_eq hg⟩
  refine codeAny_mono ((F _ hKb (nsK hns)).run callerA [] s₁ H ⟨[.ref a],[]⟩ [.ref a] [.ref a] _ _ hr e0 (hbind s₁ (.ref a)) (.cons rfl .nil) (hsp H hO hS)) fun r s' h=>?_
  cases r with
  |error e=>exact(hCX H e s' h).elim
  |ok fl=>
   cases fl with
   |next=>exact False.elim h
   |brk=>exact False.elim h
   |cont=>exact False.elim h
   |ret u=>
    obtain⟨v,H',os,bare,un,hok',r',q⟩:=h;have q':v=.bl true:=q;subst q';obtain rfl:u=Value.bool true:=r';refine⟨rfl,OldK.of_keep fun b o e=>?_,os,bare⟩
    cases q:H b with
    |none=>exact un.keep b o e q (by intro z;exact absurd (show b∈([]:List Addr) from z) (by simp)) (by simp)
    |some u=>
     rcases hO b with z | ⟨ob,xs,z⟩
     ·rw[q] at z;cases z
     ·have z2:=un.frzs b ob _ z;obtain⟨e1,_⟩:=hok b _ z;obtain⟨e2,_⟩:=hok' b _ z2;rw[e] at e1;cases e1;exact e2
 cases hk:K.lookup a with
 |some o=>
  have e:=KX a o hk;rw[ha] at e
  cases e
  refine core (fun _=>none) (fun _=>.inl rfl) (.inr ⟨_,vs.toArray,_,hk,rfl,rfl,rfl,by rw[List.size_toArray,lenV];exact hl,by simpa using rv⟩) (fun b u z=>by have z':(none:Option HO)=some u:=z;cases z') (fun b z=>absurd rfl z) fun z=>absurd rfl z
 |none=>
  refine core (fun b=>if b=a then some (.frz { cls:=.type "list",data:=.seq vs.toArray } (.lst (ns.map V.int))) else none) (fun b=>?_) (.inl (.inr ⟨{ cls:=.type "list",data:=.seq vs.toArray },if_pos rfl⟩)) (fun b u z=>?_) (fun b z=>?_) fun _=>hk
  ·by_cases hb:b=a
   ·exact .inr ⟨_,_,if_pos hb⟩
   ·exact .inl (if_neg hb)
  ·by_cases hb:b=a
   ·have z':=(if_pos hb).symm.trans z
    cases z'
    subst hb;exact⟨ha,by rw[List.length_map];exact hl,vs,_,rv,ha⟩
   ·have z':=(if_neg hb).symm.trans z
    cases z'
  ·by_cases hb:b=a
   ·exact hb
   ·exact absurd (if_neg hb) z
abbrev KOf {K:PySem.W.Frag}{h:Heap}(_:K.In h):PySem.W.Frag:=K
theorem Ra {l:PySem.W.OpenLaw}{n k:Nat}{q:Program}{loose:List Str}{XP:(Str->Option Value)->Heap->Prop}{YP:World->Heap->Prop}{d:DefRec}{K:Params->PySem.W.Frag}{CX:World->CXT}{sp:World->Sp}{x:Str}(hn:l.most=some n)(hn2:n<=sizeLine)(hdf:d.params.defaults=[])(hr:gJ k callerA)(hY:∀(w:World) (h:Heap),YP w h->(K w.params).In h)(F:∀(w:World) (mg:Str->Option Value) (fa:Addr) (h:Heap),(K w.params).In h->h.Ns mainGlobals mg->mg d.name=some (.ref fa)->
   ∃fd:FuncData,(∀(s:Shared) (u:Value),BindsTo s fd ⟨[u],[]⟩ [(x,u)])/\
    ∀base:Heap,(K w.params).In base->base.Ns mainGlobals mg->aQ l.prog w (K w.params) mg base (CX w) k fa fd [x] (sp w))(hsp:∀(w:World) (H:Hp) (a:Addr) (ns:List Int),ns.length<=n->Te H->SqL (K w.params) H a (ns.map V.int)->sp w [.ref a] H (fun v _=>v=.bl true) fun _ _ _=>False)(hCX:∀(w:World) (H:Hp) (s:Shared) (e:Value) (s':Shared),CX w [] H s (fun _ _ _=>False) e s'->False) :
  PySem.W.WalkO q loose XP YP l.row.toRowW d [] (fun f vs=>PySem.call f vs):=by
 refine Att.attach_call hn hdf fun w s₀ s₁ mg mb fa o pm cd doc a vs ns G Y ho hd hcd hmg hobj hints hlen hg=>?_;have KX:=hY w _ Y;obtain⟨fd,hb,hF⟩:=F w mg fa _ KX G.T.g hmg;exact Ky KX G.T.g G.T.b G.T.builtins G.T.nolimit hg hobj hints (Nat.le_trans hlen hn2) hr hF hb (fun H hO hS=>hsp w H a ns hlen hO hS) fun H e s'=>hCX w H s₁ e s'
def eQ (s:Stmt)(j:Nat):Stmt:=match s with
 | .ClassDef _ _ _ body _ _ _ _ _ _ _=>body.getD j (.Pass ⟨0,0,0,0⟩)
 |_=>.Pass ⟨0,0,0,0⟩
def aR (s:Stmt):Arguments:=match s with
 | .FunctionDef _ a _ _ _ _ _ _ _ _=>a
 |_=>{ posonlyargs:=[],args:=[],vararg:=none,kwonlyargs:=[],kw_defaults:=[],kwarg:=none,defaults:=[] }
def aL (s:Stmt):List Stmt:=match s with
 | .FunctionDef _ _ b _ _ _ _ _ _ _=>b
 |_=>[]
def aE (s:Stmt):Scope:=match s with
 | .FunctionDef _ _ _ _ _ _ sc _ _ _=>sc
 |_=>{ kind:=.function,names:=[],isGenerator:=false,isCoroutine:=false }
abbrev CX0:CXT:=fun _ _ _ _ _ _=>False
abbrev E0:XK:=fun _ _ _=>False
theorem aM {X:Cx}:kJ CX0 X E0:=fun _ _ _ _ _ _ _ h=>h.elim
theorem Ap {A:Around}{k:Nat}(hr:gJ k A):A.units+1 < cLine:=Nat.lt_of_le_of_lt (Nat.add_le_add_left (by decide:1<=64) _) hr.units
theorem bF {n:Nat}(h:n<=1000):n < sizeLine:=Nat.lt_of_le_of_lt h (by decide)
section
variable {X:Cx}
theorem pv (i:Nat){x:Str}{pos:Pos}(hN:X.N[i]?=some x:=by rfl)(hv:Vis X.env.scope x:=by first | exact Or.inl rfl | exact Or.inr (Or.inl rfl) | exact Or.inr (Or.inr rfl))(hd:(x == ("__debug__":Str))=false:=by decide)(hcd:(x == ("__classdict__":Str))=false:=by decide):PE X (.Name x pos) (Qb i):=Mb hN hv hd hcd
end
theorem eV {A B:Prop}(h:B):if false=true then A else B:=by
 rw[if_neg Bool.false_ne_true];exact h
theorem fY {A B:Prop}(h:A):if true=true then A else B:=by
 rw[if_pos rfl];exact h
theorem rD {c A B:Prop}[Decidable c](h1:c->A)(h2:¬c->B):if c then A else B:=by
 by_cases h:c
 ·rw[if_pos h];exact h1 h
 ·rw[if_neg h];exact h2 h
def bG (H H':Hp):Prop:=∀b o,H b=some o->H' b=some o
theorem bG.refl (H:Hp):bG H H:=fun _ _ h=>h
theorem bG.trans {H H1 H2:Hp}(a:bG H H1)(b:bG H1 H2):bG H H2:=fun c o h=>b c o (a c o h)
theorem bG.free {H H':Hp}(e:bG H H'){l:Addr}(h:H' l=Option.none):H l=Option.none:=by
 cases q:H l with
 |none=>rfl
 |some o=>
  rw[e l o q] at h
  cases h
theorem bG.seq {K:PySem.W.Frag}{H H':Hp}{a:Addr}{xs:List V}(e:bG H H')(h:SqL K H a xs):SqL K H' a xs:=by
 rcases h with (h | ⟨o,h⟩) | h
 ·exact .inl (.inl (e _ _ h))
 ·exact .inl (.inr ⟨o,e _ _ h⟩)
 ·exact .inr h
end L2
set_option maxHeartbeats 1000000
namespace L2
open PySem PySem.Spec PyProof.Rows
section
variable {X:Cx}
def Bt (n:Nat)(i:Int):Prop:=i.natAbs < 2 ^ n
theorem sK {n:Nat}{i:Int}(h:Bt n i):Builtin.Int.intBits i<=n:=by
 unfold Builtin.Int.intBits;split
 ·exact Nat.zero_le _
 ·rename_i h0
  have hp:i.natAbs≠0:=by
   intro z;apply h0;simp at z ⊢;exact z
  have:i.natAbs.log2 < n:=(Nat.log2_lt hp).mpr h;omega
def Pz (i j:Int):Prop:=∃n m,Bt n i/\Bt m j/\n<=1048576/\m<=1048576
theorem Pz.ok {i j:Int}(h:Pz i j):IntMulOk i j:=by
 obtain⟨n,m,h1,h2,h3,h4⟩:=h;have e:(2:Nat) ^ 20=1048576:=by decide
 exact IntMulOk.of_bits (by have:=sK h1;omega) (by have:=sK h2;omega)
theorem cN:OpR X (binaryOp .Mult) (rI Pz fun i j=>.int (i*j)):=opI fun _ _ _ _ _ _ _ hc q=>mul_int q hc.ok
def Et (i j:Int):Prop:=j≠0/\∃n,Bt n j/\n<=9000
theorem Et.ok {i j:Int}(h:Et i j):Builtin.divisionGoesByPylong i j=false:=by
 obtain⟨h0,n,h1,h2⟩:=h;refine PyProof.noPylong_of_log2 ?_;have hp:j.natAbs≠0:=by omega
 have:j.natAbs.log2 < n:=(Nat.log2_lt hp).mpr h1;omega
theorem iK:OpR X (binaryOp .FloorDiv) (rI Et fun i j=>.int (i.fdiv j)):=opI fun _ _ _ _ _ _ _ hc q=>floordiv_int hc.1 q (.inl hc.ok)
mutual
inductive mV (K:PySem.W.Frag) (H:Hp):V->PyData->Prop where
 |non:mV K H .non .none
 |bl (b:Bool):mV K H (.bl b) (.bool b)
 |int (i:Int):mV K H (.int i) (.int i)
 |str (x:Str):mV K H (.str x) (.str x)
 |lst {a:Addr} {xs:List V} {ds:List PyData} (h:SqL K H a xs) (q:qT K H xs ds):mV K H (.ref a) (.list ds)
 |tup {a:Addr} {xs:List V} {ds:List PyData} (h:SqT K H a xs) (q:qT K H xs ds):mV K H (.ref a) (.tuple ds)
inductive qT (K:PySem.W.Frag) (H:Hp):List V->List PyData->Prop where
 |nil:qT K H [] []
 |cons {x:V} {d:PyData} {xs:List V} {ds:List PyData} (p:mV K H x d) (q:qT K H xs ds):qT K H (x :: xs) (d :: ds)
end
theorem jX {pins:List (Addr × Obj)}{s:Shared}{σ:St}{H:Hp}(I:Inv X pins σ H s):∀{x:V} {d:PyData},mV X.K H x d->∀{u:Value},cD x u->∃as,Reads s.heap u d as:=by
 intro x d h
 induction h using mV.rec (motive_2:=fun xs ds _=>∀{us:List Value},bY xs us->∃as,ReadsAll s.heap us ds as) with
 |non=>intro u r;cases (show u=Value.none from r);exact⟨_,.none⟩
 |bl b=>intro u r;cases (show u=Value.bool b from r);exact⟨_,.bool b⟩
 |int i=>intro u r;obtain⟨t,rfl⟩:=(show ∃t,u=Value.int i t from r);exact⟨_,.int i t⟩
 |str y=>intro u r;obtain⟨t,rfl⟩:=(show ∃t,u=Value.str y t from r);exact⟨_,.str y t⟩
 |lst h q ih=>
  intro u r
  cases (show u=Value.ref _ from r)
  obtain⟨its,rv,pl,_⟩:=I.list h;obtain⟨as,ra⟩:=ih rv;obtain⟨o,h1,h2,n,h3⟩:=pl.isList;exact⟨_,.list h1 h2 h3 (by simpa using ra)⟩
 |tup h q ih=>
  intro u r
  cases (show u=Value.ref _ from r)
  obtain⟨its,rv,pl,_⟩:=I.tuple h;obtain⟨as,ra⟩:=ih rv;obtain⟨o,h1,h2,n,h3⟩:=pl;exact⟨_,.tuple h1 h2 h3 (by simpa using ra)⟩
 |nil=>rename_i us r;cases r;exact⟨_,.nil⟩
 |cons p q ih1 ih2=>
  rename_i us r
  cases r with
  |cons r1 r2=>
   obtain⟨as,h1⟩:=ih1 r1;obtain⟨bs,h2⟩:=ih2 r2;exact⟨_,.cons h1 h2⟩
def zB (K:PySem.W.Frag)(neg:Bool):R2:=fun x y H Q=>∃d e,mV K H x d/\mV K H y e/\d.canLay0=true/\e.canLay0=true/\min d.depth e.depth<=16/\Q (.bl (if neg then !PyData.eqv d e else PyData.eqv d e)) H
theorem uL (hu:X.A.units+64 < cLine):OpR X (compareOp .Eq) (zB X.K false):=by
 intro pins s σ H x y v u Q I rx ry h;obtain⟨d,e,h1,h2,c1,c2,hm,q⟩:=h;obtain⟨as,r1⟩:=jX I h1 rx;obtain⟨bs,r2⟩:=jX I h2 ry;exact PySem.SeqAt.compareEq_reads r1 r2 c1 c2 (by omega) ⟨.bl (PyData.eqv d e),H,I,rfl,q⟩
theorem yJ (hu:X.A.units+64 < cLine):OpR X (compareOp .NotEq) (zB X.K true):=by
 intro pins s σ H x y v u Q I rx ry h;obtain⟨d,e,h1,h2,c1,c2,hm,q⟩:=h;obtain⟨as,r1⟩:=jX I h1 rx;obtain⟨bs,r2⟩:=jX I h2 ry;exact PySem.SeqAt.compareNe_reads r1 r2 c1 c2 (by omega) ⟨.bl (!PyData.eqv d e),H,I,rfl,q⟩
end
end L2
set_option maxHeartbeats 2000000
namespace L2
open PySem PySem.Spec PyProof.Rows
section
variable {prog:Program} {w:World} {A:Around} {R:Result->Shared->Prop} {s:Shared}
abbrev Sh (ifs:List Expr)(env:Env):Sem Bool:=forIn ifs true fun c r=>if r=true then do let ok <- isTrue c env (eval c env);pure (ForInStep.yield ok) else pure (ForInStep.yield r)
theorem Ik {elt target iter:Expr}{ifs:List Expr}{scope:Scope}{pos:Pos}{it acc:Value}{env:Env}(I:Nat->Shared->Prop)(turn:∀n s,I n s->wpAny (model prog w) A (pyNext it) (fun r s₁=>match r with
   |none=>R (.ok .next) s₁
   |some v=>wpAny (model prog w) A (letOwnedTupleGo target it v) (fun _ s₀=>wpAny (model prog w) A (assign target env v) (fun _ s₂=>
     wpAny (model prog w) A (Sh ifs env) (fun ok s₃=>
      if ok=true then wpAny (model prog w) A (eval elt env) (fun x s₄=>
       wpAny (model prog w) A (call (.builtin "list.append") [acc,x]) (fun _ s₅=>∃m,m < n/\I m s₅) (fun _ _=>False) s₄) (fun _ _=>False) s₃
      else ∃m,m < n/\I m s₃) (fun _ _=>False) s₂) (fun _ _=>False) s₀) (fun _ _=>False) s₁) (fun _ _=>False) s)(n:Nat)(h:I n s) :
  codeAny (model prog w) A (.compLoop (.ListComp elt [⟨target,iter,ifs,0⟩] scope pos) 0 it acc env) R s:=by
 refine codeAny_loop rfl I (fun n s hI=>?_) n h;show wpAny _ A ((compTurn (.ListComp elt [⟨target,iter,ifs,0⟩] scope pos) 0 it acc env).onRaise (fun x=>do noteFrame x env;theTreesLotGoes x)) _ _ s;refine wpAny_noted ?_;rw[compTurn_list];refine wpAny_bind (wpAny_standAt (wpAny_bind (wpAny_mono (turn n s hI) (fun r s₁ h₁=>?_) fun _ _ z=>z.elim)))
 cases r with
 |none=>exact wpAny_pure h₁
 |some v=>
  refine wpAny_bind (wpAny_mono h₁ (fun _ s₀ h₀=>?_) fun _ _ z=>z.elim);refine wpAny_bind (wpAny_mono h₀ (fun _ s₂ h₂=>wpAny_bind (wpAny_mono h₂ (fun ok s₃ h₃=>?_) fun _ _ z=>z.elim)) fun _ _ z=>z.elim)
  cases ok with
  |false=>exact wpAny_pure ⟨rfl,h₃⟩
  |true=>
   rw[if_pos rfl] at h₃;show wpAny _ _ ((do let _ <- call (.builtin "list.append") [acc,<- eval elt env]) >>= fun _=>again (.compLoop (.ListComp elt [⟨target,iter,ifs,0⟩] scope pos) 0 it acc env)) _ _ _;exact wpAny_bind (wpAny_bind (wpAny_mono h₃ (fun x s₄ h₄=>wpAny_bind (wpAny_mono h₄ (fun _ s₅ h₅=>wpAny_pure (wpAny_pure ⟨rfl,h₅⟩)) fun _ _ z=>z.elim)) fun _ _ z=>z.elim))
end
structure yE (X:Cx) (scope:Scope) (cl:List (Str × Addr)) (Nc:List Str) (nl:Nat) (fr:List Nat):Prop where
 clos:closureFor scope X.env=pure cl
 kind:scope.kind=.function
 names:∀y∈scope.names,y.2=.local->scope.names.lookup y.1=some .local
 cell:∀y∈scope.names,y.2≠.cell
 sub:∀x c,cl.lookup x=some c->X.env.cells.lookup x=some c
 has:∀x,(relabel scope X.env).names.lookup x=some .cell\/(relabel scope X.env).names.lookup x=some .free->∃c,cl.lookup x=some c
 len:Nc.length=nl+fr.length
 tail:∀i n,Nc[nl+i]?=some n->∃j,fr[i]?=some j/\X.N[j]?=some n/\X.env.kindOf n=some .cell/\cl.lookup n=X.env.cells.lookup n/\((relabel scope X.env).names.lookup n=some .cell\/(relabel scope X.env).names.lookup n=some .free)
abbrev fE (X:Cx)(scope:Scope)(cl:List (Str × Addr))(Nc:List Str)(C:Addr)(s3:Shared)(H3:Hp)(fp:List Addr)(pins:List (Addr × Obj)):Cx:=
 { X with N:=Nc,s₀:=s3,H₀:=H3,env:=compEnvC scope cl C X.env,outer:=X.stack,ex:=fp,fn:=fun _=>false,pn:=X.pn++pins,xe:=fun _ _=>False }
def σC (nl:Nat)(fr:List Nat)(σ:St):St:=List.replicate nl none++fr.map fun j=>(σ[j]?).join
abbrev PIf (X:Cx)(ifs:List Expr)(t:TT):Prop:=
 ∀(pins:List (Addr × Obj)) (s:Shared) (σ:St) (H:Hp) (Q:Bool->Hp->Prop),Inv X pins σ H s->t σ H Q->wpAny (model X.prog X.w) X.A (Sh ifs X.env) (TP X pins σ Q) X.xe s
theorem dX {X:Cx}:PIf X [] (fun _ H Q=>Q true H):=fun _ _ _ H _ I h=>wpAny_pure ⟨H,I,h⟩
theorem nQ {X:Cx}{c:Expr}{t:TT}(h:PT X c t):PIf X [c] t:=fun pins s σ H Q I q=>wpAny_tests_one (h pins s σ H Q I q)
section
variable {X:Cx} {scope:Scope} {cl:List (Str × Addr)} {Nc:List Str} {nl:Nat} {fr:List Nat} {pins:List (Addr × Obj)} {σ:St} {H3:Hp} {s3:Shared} {fp:List Addr} {h4:Heap} {tk:Nat}
theorem Bg (ck:yE X scope cl Nc nl fr)(I:Inv X pins σ H3 s3)(hf:∀b∈fp,mG X pins H3 b)(hfs:∀b∈fp,b < s3.heap.objs.size)(hns:h4.Ns s3.heap.objs.size fun _=>none)(hk:∀b o,s3.heap.get? b=some o->h4.get? b=some o) :
  Inv (fE X scope cl Nc s3.heap.objs.size s3 H3 fp pins) [] (σC nl fr σ) H3 { s3 with heap:=h4,toks:=tk }:=by
 have stk:∀b∈frs X.stack,b∈X.env.locals :: X.fs:=I.stkSub;have nfs:∀b,b≠X.env.locals->b∉X.fs->b∉frs X.stack:=fun b h1 h2 z=>(List.mem_cons.mp (stk b z)).elim h1 h2;have ltc:∀x c,cl.lookup x=some c->c < s3.heap.objs.size:=fun x c e=>by
  obtain⟨v,z⟩:=I.cell x c (ck.sub x c e);exact z.lt
 refine⟨⟨I.ok.mod,ck.kind,I.ok.glob,I.ok.blt,Nat.le_refl _,fun x y c h1 h2=>I.ok.inj x y c (ck.sub x c h1) (ck.sub y c h2),fun x hx=>ck.has x hx,fun x c hz=>Bool.noConfusion hz,I.ok.hd,I.ok.frames,.inl rfl,fun b hb=>?_,I.bs,Nat.le_trans I.ok.bsz I.sz,fun b o e hb=>?_,fun b hb=>?_,I.stack,I.stkFree⟩,
  rfl,I.bare,Un.kept hk,⟨_,hns,fun i x v h1 h2 h3=>?_⟩,fun x c e=>?_,I.hok.fresh (Nat.le_refl _),fun x c e=>I.freeC x c (ck.sub x c e),fun p hp=>?_,I.hok.kept hk,?_⟩
 ·obtain⟨f0,f1,f2,f3,f4,f5⟩:=hf b hb;exact⟨Nat.ne_of_lt (hfs b hb),fun x c e=>f4 x c (ck.sub x c e)⟩
 ·obtain⟨f0,f1,f2,f3,f4,f5⟩:=hf b hb;rcases f3 with z | z
  ·exact I.ok.noex b o e z
  ·exact absurd (Nat.lt_of_lt_of_le (Heap.lt_size e) (Nat.le_trans I.ok.bsz z)) (Nat.lt_irrefl _)
 ·obtain⟨f0,f1,f2,f3,f4,f5⟩:=hf b hb;exact nfs b f1 f2
 ·-- a name's value
  unfold σC at h2
  by_cases hi:i < nl
  ·rw[List.getElem?_append_left (by simpa using hi),List.getElem?_replicate] at h2;split at h2<;>cases h2
  ·have hi':nl<=i:=by omega
   rw[List.getElem?_append_right (by simpa using hi'),List.length_replicate,List.getElem?_map] at h2;obtain⟨k,rfl⟩:∃k,i=nl+k:=⟨i - nl,by omega⟩
   obtain⟨j,e1,e2,e3,e4,e5⟩:=ck.tail k x h1;rw[Nat.add_sub_cancel_left,e1] at h2;have h2':(σ[j]?).join=some v:=by simpa using h2
   have h2'':σ[j]?=some (some v):=by
    cases q:σ[j]? with
    |none=>rw[q] at h2';cases h2'
    |some z=>rw[q] at h2';exact congrArg some h2'
   obtain⟨m,hn,hl⟩:=I.loc;obtain⟨u,r,l⟩:=hl j x v e2 h2'' (.inr (.inl e3));refine⟨u,r,?_⟩;rcases l with ⟨k1,_⟩ | ⟨k1,c,ec,z⟩
   ·rw[e3] at k1;cases k1
   ·obtain⟨o,ho,hd⟩:=z;exact .inr ⟨e5,c,by show cl.lookup x=some c;rw[e4];exact ec,o,hk _ _ ho,hd⟩
 ·obtain⟨v,o,ho,hd⟩:=I.cell x c (ck.sub x c e);exact⟨v,o,hk _ _ ho,hd⟩
 ·have hp':p∈X.pn++pins:=by simpa using hp
  obtain⟨e,n,ne,nf,d⟩:=I.pin p hp';exact⟨hk _ _ e,n,Nat.ne_of_lt (Heap.lt_size e),nfs _ ne nf,d⟩
 ·unfold σC;show _=Nc.length;rw[List.length_append,List.length_replicate,List.length_map,ck.len]
theorem Jo {pins':List (Addr × Obj)}{σ':St}{H':Hp}{s':Shared}(I:Inv X pins σ H3 s3)(hf:∀b∈fp,mG X pins H3 b)(J:Inv (fE X scope cl Nc s3.heap.objs.size s3 H3 fp pins) pins' σ' H' s'):Inv X pins σ H' s'/\mG X pins H' s3.heap.objs.size:=by
 refine⟨I.call' (ch:=fp) J.os J.base J.hok J.bare fun b hb=>?_,I.fpOk (Nat.le_refl _) J.free⟩;obtain⟨f0,f1,f2,f3,f4,f5⟩:=hf b hb;exact⟨f3,f1,f4,f5⟩
theorem Inv.off {b:Addr}{H:Hp}{s:Shared}{h':Heap}(I:Inv X pins σ H s)(f:mG X pins H b)(hs:Heap.SameBut b s.heap h'):Inv X pins σ H { s with heap:=h' }:=by
 obtain⟨f0,f1,f2,f3,f4,f5⟩:=f;exact I.turned (t':=s.toks) (it:=b) (fun c o hb e=>(hs.2 c hb).trans e) f0 f1 f3 f4 f5
end
def zA (J:It)(nl:Nat)(fr:List Nat)(g:TG)(tt:TT)(te:TE)(σ:St)(D:Addr)(H1:Hp)(Q:VK):Prop:=
 ∃W:Nat->Nat->List V->Hp->Prop,(∃m,W 0 m [] (upd H1 D (.lst [])))/\∀i m ys H2,W i m ys H2->H2 D=some (.lst ys)/\
  ((J.stop i H2/\Q (.ref D) H2)\/(J.go i H2/\∀x H3,J.yld i H2 x H3->g x (σC nl fr σ) H3 fun σ2 H4=>σ2.length=(σC nl fr σ).length/\(∀(i:Nat) v,(σC nl fr σ)[i]?=some (some v)->σ2[i]?=some (some v))/\
   tt σ2 H4 fun b H5=>if b=true then te σ2 H5 fun y H6=>H6 D=some (.lst ys)/\ys.length < sizeLine/\∃m',m' < m/\W (i+1) m' (ys++[y]) (upd H6 D (.lst (ys++[y])))
    else ∃m',m' < m/\W (i+1) m' ys H5))
def Je (wi:TI)(nl:Nat)(fr:List Nat)(g:TG)(tt:TT)(te:TE):TE:=fun σ H Q=>wi σ H fun J H1=>∀D,H1 D=none->zA J nl fr g tt te σ D H1 Q
section
variable {X:Cx} {scope:Scope} {cl:List (Str × Addr)} {Nc:List Str} {nl:Nat} {fr:List Nat} {elt tg iter:Expr} {ifs:List Expr} {pos:Pos} {wi:TI} {g:TG} {tt:TT} {te:TE}
theorem zZ (hc:X.calm=true)(ck:yE X scope cl Nc nl fr)(hi:PI X tg iter wi)(hg:∀C s3 H3 fp pins,PG (fE X scope cl Nc C s3 H3 fp pins) tg g)(ht:∀C s3 H3 fp pins,PIf (fE X scope cl Nc C s3 H3 fp pins) ifs tt)(he:∀C s3 H3 fp pins,PE (fE X scope cl Nc C s3 H3 fp pins) elt te){pins:List (Addr × Obj)}{s:Shared}{σ:St}{H:Hp}{Q:VK}(I:Inv X pins σ H s)(h:Je wi nl fr g tt te σ H Q){RR:Value->Addr->Result->Shared->Prop}(fin:∀D C s',(∃H',(∃m,s'.heap.Ns C m)/\Inv X pins σ H' s'/\mG X pins H' C/\Q (.ref D) H')->RR (.ref D) C (.ok .next) s') :
  wpAny (model X.prog X.w) X.A (eval iter X.env) (fun x s₁=>wpAny (model X.prog X.w) X.A (pyIter x) (fun it s₂=>wpAny (model X.prog X.w) X.A (newList []) (fun acc s₃=>
   wpAny (model X.prog X.w) X.A (newFunctionEnv scope X.env.globals cl [] X.env.qual none .none (some X.env)) (fun cenv s₄=>
    codeAny (model X.prog X.w) X.A (.compStart (.ListComp elt [⟨tg,iter,ifs,0⟩] scope pos) 0 it acc { cenv with scope:=relabel scope X.env }) (RR acc cenv.locals) s₄) X.xe s₃) X.xe s₂) X.xe s₁) X.xe s:=by
 refine thn (hi pins s σ H _ I h) fun v s1 h1=>thn h1 fun itv s2 h2=>?_;obtain⟨it,fp,tn,J,H2,e,I2,T,st2,f2,hD⟩:=h2;subst e;have hn2:H2 s2.heap.objs.size=none:=I2.hok.fresh (Nat.le_refl _);obtain⟨W,⟨m0,w0⟩,turn⟩:=hD s2.heap.objs.size hn2;refine wpAny_newObj_type (wpAny_newFunctionEnv ck.cell (by intro y hy;simp at hy) (fun h4 hns hsb=>?_) ck.kind);dsimp only at hns hsb ⊢;have I3:Inv X pins σ (upd H2 s2.heap.objs.size (.lst [])) { s2 with heap:=s2.heap.push { cls:=.type "list",dict:=none,data:=.seq ([]:List Value).toArray } }:=
  I2.laid (t':=s2.toks) (fun b u e=>Heap.get?_push_of_some _ e) (Nat.le_refl _) ⟨Nat.zero_le _,[],0,.nil,Heap.get?_push_size _ rfl⟩
 have hfs:∀b∈fp,b < s2.heap.objs.size:=fun b hb=>by
  obtain⟨o,e,_⟩:=T.obj 0 _ st2 b hb;exact Heap.lt_size e
 have f3:∀b∈fp,mG X pins (upd H2 s2.heap.objs.size (.lst [])) b:=fun b hb=>⟨by rw[bC (Nat.ne_of_lt (hfs b hb))];exact(f2 b hb).1,(f2 b hb).2⟩
 generalize hH3:upd H2 s2.heap.objs.size (.lst [])=H3 at *
 generalize hs3:({ s2 with heap:=s2.heap.push { cls:=.type "list",dict:=none,data:=.seq ([]:List Value).toArray } }:Shared)=s3 at *
 have z3:s3.heap=s2.heap.push { cls:=.type "list",dict:=none,data:=.seq ([]:List Value).toArray }:=by rw[<- hs3]
 have hsz3:s3.heap.objs.size=s2.heap.objs.size+1:=by rw[z3,Heap.size_push]
 rw[<- z3] at hns hsb ⊢;have hk4:∀b o,s3.heap.get? b=some o->h4.get? b=some o:=fun b o e=>hsb.extBut b o (Nat.ne_of_lt (Heap.lt_size e)) (Heap.get?_push_of_some _ e);have hfs3:∀b∈fp,b < s3.heap.objs.size:=fun b hb=>Nat.lt_of_lt_of_le (hfs b hb) (by rw[hsz3];exact Nat.le_succ _);have hns':h4.Ns s3.heap.objs.size fun _=>none:=by simpa using hns
 have K0:=fun tk=>Bg (tk:=tk) ck I3 f3 hfs3 hns' hk4;have stat:∀{H':Hp},(∀b∈fp,H' b=none)->∀b∈fp,mG (fE X scope cl Nc s3.heap.objs.size s3 H3 fp pins) [] H' b:=fun {H'} hn b hb=>by
  obtain⟨f0,g1,g2,g3,g4,g5⟩:=f3 b hb;refine⟨hn b hb,Nat.ne_of_lt (hfs3 b hb),fun z=>?_,.inl hb,fun x c e=>g4 x c (ck.sub x c e),fun p hp=>g5 p (by simpa using hp)⟩;exact(List.mem_cons.mp (I3.stkSub b z)).elim g1 g2
 have st4:tn 0 h4:=T.keep 0 _ _ st2 fun b hb o e=>hk4 b o (by rw[z3];exact Heap.get?_push_of_some _ e);have loop:∀tk,codeAny (model X.prog X.w) X.A (.compLoop (.ListComp elt [⟨tg,iter,ifs,0⟩] scope pos) 0 (.ref it) (.ref s2.heap.objs.size) (compEnvC scope cl s3.heap.objs.size X.env)) (RR (.ref s2.heap.objs.size) s3.heap.objs.size) { s3 with heap:=h4,toks:=tk }:=by
  intro tk;refine Ik (fun n s'=>∃i ys H',Inv (fE X scope cl Nc s3.heap.objs.size s3 H3 fp pins) [] (σC nl fr σ) H' s'/\tn i s'.heap/\(∀b∈fp,H' b=none)/\W i n ys H') ?_ m0 ⟨0,[],H3,K0 tk,st4,fun b hb=>(f3 b hb).1,w0⟩;rintro n s5 ⟨i,ys,H5,I5,st5,fr5,w5⟩;obtain⟨hl5,q5⟩:=turn i n ys H5 w5;rcases q5 with ⟨stop,qn⟩ | ⟨go,step⟩
  ·refine wpAny_mono (T.done (fE X scope cl Nc s3.heap.objs.size s3 H3 fp pins) rfl rfl rfl hc i [] s5 (σC nl fr σ) H5 (fun _ _=>False) I5 (stat fr5) st5 stop) (fun r s6 h6=>?_) fun _ _ z=>z;obtain⟨hr,I6⟩:=h6;subst hr;obtain⟨z1,z2⟩:=Jo I3 f3 I6;refine fin _ _ _ ⟨H5,?_,z1,z2,qn⟩;obtain⟨m,hm,_⟩:=I6.loc;exact⟨m,hm⟩
  ·refine wpAny_mono (T.item (fE X scope cl Nc s3.heap.objs.size s3 H3 fp pins) rfl rfl rfl hc i [] s5 (σC nl fr σ) H5 (fun _ _=>False) I5 (stat fr5) st5 go) (fun r s6 h6=>?_) fun _ _ z=>z;obtain⟨u,hr,h6⟩:=h6;subst hr;refine wpAny_mono h6 (fun _ s7 h7=>?_) fun _ _ z=>z;obtain⟨x,H7,I7,r7,y7,st7,fr7⟩:=h7;have I7':=I7.pinned (stat fr7) (T.obj _ _ st7);refine wpAny_mono (hg s3.heap.objs.size s3 H3 fp pins _ s7 _ H7 x u _ I7' r7 (step x H7 y7)) (fun _ s8 h8=>?_) fun _ _ z=>z;obtain⟨σ8,H8,I8,l8,k8,q8⟩:=h8;refine wpAny_mono (ht s3.heap.objs.size s3 H3 fp pins _ s8 σ8 H8 _ I8 q8) (fun b s9 h9=>?_) fun _ _ z=>z;obtain⟨H9,I9,q9⟩:=h9;have again:∀{ys':List V} {H':Hp} {s':Shared} {m':Nat},Inv (fE X scope cl Nc s3.heap.objs.size s3 H3 fp pins) ([]++tH fp s7.heap) σ8 H' s'->m' < n->W (i+1) m' ys' H'->
     ∃m,m < n/\∃i ys H',Inv (fE X scope cl Nc s3.heap.objs.size s3 H3 fp pins) [] (σC nl fr σ) H' s'/\tn i s'.heap/\(∀b∈fp,H' b=none)/\W i m ys H':=fun {ys' H' s' m'} I' hm w'=>by
    refine⟨m',hm,i+1,ys',H',I'.unpinned.weak l8.symm k8,T.keep _ _ _ st7 fun b hb o e=>(I'.pin (b,o) (List.mem_append_right _ (List.mem_append_right _ (jO hb e)))).1,fun b hb=>?_,w'⟩;obtain⟨o,e,d⟩:=T.obj _ _ st7 b hb;exact(I'.pin (b,o) (List.mem_append_right _ (List.mem_append_right _ (jO hb e)))).2.1
   cases b with
   |false=>
    rw[if_neg Bool.false_ne_true] at q9 ⊢;obtain⟨m',hm,w9⟩:=q9;exact again I9 hm w9
   |true=>
    rw[if_pos rfl] at q9 ⊢;refine wpAny_mono (he s3.heap.objs.size s3 H3 fp pins _ s9 σ8 H9 _ I9 q9) (fun yv s10 h10=>?_) fun _ _ z=>z;obtain⟨y,H10,I10,r10,hl10,hz10,m',hm,w10⟩:=h10;refine wpAny_mono (fX (X:=fE X scope cl Nc s3.heap.objs.size s3 H3 fp pins) _ s10 σ8 H10 (.ref s2.heap.objs.size) [y] _ [yv] (fun v H'=>H'=upd H10 s2.heap.objs.size (.lst (ys++[y]))) I10 rfl (.cons r10 .nil) ⟨_,ys,y,rfl,rfl,hl10,hz10,rfl⟩) (fun _ s11 h11=>?_) fun _ _ z=>z;obtain⟨_,H11,I11,_,e11⟩:=h11;subst e11;exact again I11 hm w10
 have L:=loop (s2.toks+([]:List (Str × Value)).length);rw[show s3.gens=s2.gens by rw[<- hs3],show s3.drawn=s2.drawn by rw[<- hs3],show s3.os=s2.os by rw[<- hs3]] at L;exact codeAny_compStart_list L (T.self _ 0 _ _ _ st4 L)
theorem fH (hc:X.calm=true)(ck:yE X scope cl Nc nl fr)(hi:PI X tg iter wi)(hg:∀C s3 H3 fp pins,PG (fE X scope cl Nc C s3 H3 fp pins) tg g)(ht:∀C s3 H3 fp pins,PIf (fE X scope cl Nc C s3 H3 fp pins) ifs tt)(he:∀C s3 H3 fp pins,PE (fE X scope cl Nc C s3 H3 fp pins) elt te)(hs:∀x,foldedSetIterable iter X.env x=pure x:=by intro _;rfl):PE X (.ListComp elt [⟨tg,iter,ifs,0⟩] scope pos) (Je wi nl fr g tt te):=by
 intro pins s σ H Q I h;rw[eval_ListComp];refine wpAny_comprehension_free (use:=none) rfl hs ck.clos ck.kind ck.names (zZ (RR:=fun acc C=>compPost (model X.prog X.w) X.A X.xe none (EP X pins σ Q) acc C) hc ck hi hg ht he I h fun D C s' hh=>?_);obtain⟨H',⟨m,hm⟩,hI,hF,q⟩:=hh;exact⟨m,hm,fun h' hs'=>⟨.ref D,H',hI.off hF hs',rfl,q⟩⟩
theorem kB {i:Nat}{y:Str}{py spos:Pos}(hN:X.N.Nodup)(hiy:X.N[i]?=some y)(hy:X.env.scope.names.lookup y=some .local)(hc:X.calm=true)(ck:yE X scope cl Nc nl fr)(hi:PI X tg iter wi)(hg:∀C s3 H3 fp pins,PG (fE X scope cl Nc C s3 H3 fp pins) tg g)(ht:∀C s3 H3 fp pins,PIf (fE X scope cl Nc C s3 H3 fp pins) ifs tt)(he:∀C s3 H3 fp pins,PE (fE X scope cl Nc C s3 H3 fp pins) elt te)(hsw:swapsWith (.ListComp elt [⟨tg,iter,ifs,0⟩] scope pos) (some (.Name y py)) spos.line X.env=pure true)(hs:∀x,foldedSetIterable iter X.env x=pure x:=by intro _;rfl):PS X (.Assign [.Name y py] (.ListComp elt [⟨tg,iter,ifs,0⟩] scope pos) spos) (Tq (Je wi nl fr g tt te) (iR i)):=by
 intro pins s σ H D I h;rw[exec_Assign_Name_used _ _ _ _ hsw];refine wpAny_bind (wpAny_standAt (wpAny_bind ?_));show wpAny _ X.A (do let _ <- comprehension (.ListComp elt [⟨tg,iter,ifs,0⟩] scope pos) scope X.env _ (newList []) false (eval iter X.env) (some (assign (.Name y py) X.env))) _ _ s;refine wpAny_bind (wpAny_mono (wpAny_comprehension_free (use:=some (assign (.Name y py) X.env)) (Q:=fun _ s'=>SP X pins D .next s') rfl hs ck.clos ck.kind ck.names
  (zZ (RR:=fun acc C=>compPost (model X.prog X.w) X.A X.xe (some (assign (.Name y py) X.env)) (fun _ s'=>SP X pins D .next s') acc C) hc ck hi hg ht he I h fun Dd C s' hh=>?_)) (fun _ s' hq=>wpAny_pure (wpAny_pure hq)) fun _ _ e=>e)
 obtain⟨H',⟨m,hm⟩,hI,hF,q⟩:=hh;show wpAny _ X.A (assign (.Name y py) X.env (.ref Dd)) _ _ _;refine wpAny_assign_Name (uV hI hN hiy (.inl hy) (v:=.ref Dd) rfl (fun s2 I2 hsb=>?_) (.inr hy));obtain⟨a,sb,ha⟩:=hsb;have hCa:C≠a:=by
  rcases ha with z | z
  ·rw[z];exact hF.2.1
  ·exact Ne.symm (hF.2.2.2.2.1 y a z)
 refine⟨m,hm.sameBut sb hCa,fun h' hs'=>⟨_,H',I2.off hF hs',q⟩⟩
end
end L2
set_option maxHeartbeats 1000000
namespace Mq
abbrev Q2:=Int × Int
def gc (a b:Int):Int:=(Int.gcd a b:Nat)
theorem Em (a b:Int):gc b (Int.fmod a b)=gc a b:=by
 unfold gc;rw[Int.fmod_def,Int.gcd_comm a b,Int.sub_eq_add_neg,<- Int.mul_neg,Int.gcd_add_mul_left_right]
theorem vH {a b:Int}(h:b≠0):(Int.fmod a b).natAbs < b.natAbs:=by
 rcases (by omega:0 < b\/b < 0) with h1 | h1
 ·have:=Int.fmod_nonneg_of_pos a h1;have:=Int.fmod_lt_of_pos a h1;omega
 ·have h2:0 < -b:=by omega
  have e:Int.fmod a b=- Int.fmod (-a) (-b):=by
   rw[Int.neg_fmod_neg];omega
  have:=Int.fmod_nonneg_of_pos (-a) h2;have:=Int.fmod_lt_of_pos (-a) h2;omega
theorem Fe (a:Int):gc a 0=if a < 0 then -a else a:=by
 unfold gc;rw[Int.gcd_zero];split<;>omega
theorem Vl (a b:Int):gc (if a < 0 then -a else a) (if b < 0 then -b else b)=gc a b:=by
 unfold gc;split<;>split<;>simp
theorem sM {a b:Int}(h:b≠0):0 < gc a b:=by
 have:=Int.gcd_pos_of_ne_zero_right a h;unfold gc;omega
structure Low (p:Q2):Prop where
 pos:1<=p.2
 one:gc p.1 p.2=1
def dvr (t b:Int):Int:=if b < 0 then -gc t b else gc t b
def red (t b:Int):Q2:=(Int.fdiv t (dvr t b),Int.fdiv b (dvr t b))
theorem pJ {t b:Int}(h:b≠0):dvr t b≠0:=by
 have:=sM (a:=t) h;unfold dvr;split<;>omega
theorem fL {a g k:Int}(hg:g≠0)(h:a=g*k):Int.fdiv a g=k:=by
 rw[h,Int.mul_fdiv_cancel_left _ hg]
theorem Pg (t b:Int):dvr t b ∣ t/\dvr t b ∣ b:=by
 have h1:gc t b ∣ t:=Int.gcd_dvd_left t b;have h2:gc t b ∣ b:=Int.gcd_dvd_right t b;unfold dvr;split
 ·exact⟨Int.neg_dvd.mpr h1,Int.neg_dvd.mpr h2⟩
 ·exact⟨h1,h2⟩
theorem qA {t b:Int}(h:b≠0):t=dvr t b*(red t b).1/\b=dvr t b*(red t b).2:=by
 obtain⟨⟨x,hx⟩,⟨y,hy⟩⟩:=Pg t b;have hg:=pJ (t:=t) h;have e1:(red t b).1=x:=fL hg hx;have e2:(red t b).2=y:=fL hg hy;rw[e1,e2];exact⟨hx,hy⟩
theorem gU {t b:Int}(h:b≠0):Low (red t b):=by
 obtain⟨h1,h2⟩:=qA (t:=t) h;have hg:=pJ (t:=t) h;have hp:=sM (a:=t) h;have nd:(dvr t b).natAbs=(gc t b).natAbs:=by unfold dvr;split<;>simp
 have e:Int.gcd t b=(dvr t b).natAbs*Int.gcd (red t b).1 (red t b).2:=by
  rw[<- Int.gcd_mul_left,<- h1,<- h2]
 have e2:(gc t b).natAbs=Int.gcd t b:=by unfold gc;simp
 rw[nd,e2] at e;have hp':0 < Int.gcd t b:=by unfold gc at hp;omega
 have one:Int.gcd (red t b).1 (red t b).2=1:=by
  have:Int.gcd t b*Int.gcd (red t b).1 (red t b).2=Int.gcd t b*1:=by omega
  exact Nat.eq_of_mul_eq_mul_left hp' this
 refine⟨?_,by unfold gc;rw[one];rfl⟩;have sgn:0 < (red t b).2:=by
  by_cases hb:b < 0
  ·have hd:dvr t b < 0:=by unfold dvr;rw[if_pos hb];omega
   have hq:¬(red t b).2<=0:=fun q=>by
    have:=Int.mul_nonneg_of_nonpos_of_nonpos (Int.le_of_lt hd) q;omega
   omega
  ·have hd:0 < dvr t b:=by unfold dvr;rw[if_neg hb];omega
   have hq:¬(red t b).2<=0:=fun q=>by
    have:=Int.mul_nonpos_of_nonneg_of_nonpos (Int.le_of_lt hd) q;omega
   omega
 omega
theorem wF {t b:Int}(h:b≠0):(red t b).1*b=t*(red t b).2:=by
 obtain⟨h1,h2⟩:=qA (t:=t) h;generalize (red t b).1=x at *
 generalize (red t b).2=y at *
 generalize dvr t b=g at *
 subst h1 h2;grind
theorem iM {a g k:Int}(hg:g≠0)(h:a=g*k):k.natAbs<=a.natAbs:=by
 rw[h,Int.natAbs_mul];exact Nat.le_mul_of_pos_left _ (by omega)
theorem kZ {t b:Int}(h:b≠0):(red t b).1.natAbs<=t.natAbs/\(red t b).2.natAbs<=b.natAbs:=by
 obtain⟨h1,h2⟩:=qA (t:=t) h;exact⟨iM (pJ h) h1,iM (pJ h) h2⟩
theorem Cj {t b:Int}(h:b≠0):(dvr t b).natAbs<=b.natAbs:=by
 have e:(dvr t b).natAbs=Int.gcd t b:=by unfold dvr gc;split<;>simp
 rw[e];exact Int.gcd_le_natAbs_right t h
theorem Jz {p q:Q2}(hp:Low p)(hq:Low q)(h:p.1*q.2=q.1*p.2):p=q:=by
 have gp:Int.gcd p.2 p.1=1:=by have:=hp.one;rw[Int.gcd_comm];unfold gc at this;omega
 have gq:Int.gcd q.2 q.1=1:=by have:=hq.one;rw[Int.gcd_comm];unfold gc at this;omega
 have d1:p.2 ∣ q.2:=by
  have:p.2 ∣ p.1*q.2:=⟨q.1,by rw[h,Int.mul_comm]⟩
  have:=Int.dvd_gcd_mul_iff_dvd_mul.mpr this;rw[gp] at this;simpa using this
 have d2:q.2 ∣ p.2:=by
  have:q.2 ∣ q.1*p.2:=⟨p.1,by rw[<- h,Int.mul_comm]⟩
  have:=Int.dvd_gcd_mul_iff_dvd_mul.mpr this;rw[gq] at this;simpa using this
 have l1:=Int.le_of_dvd (by have:=hq.pos;omega) d1;have l2:=Int.le_of_dvd (by have:=hp.pos;omega) d2;have e2:p.2=q.2:=by omega
 have e1:p.1=q.1:=by
  rw[e2] at h;exact Int.eq_of_mul_eq_mul_right (by have:=hq.pos;omega) h
 exact Prod.ext e1 e2
def plus (p q:Q2):Q2:=red (p.1*q.2+q.1*p.2) (p.2*q.2)
def minus (p q:Q2):Q2:=red (p.1*q.2 - q.1*p.2) (p.2*q.2)
def mI (p q:Q2):Q2:=red (p.1*q.2) (p.2*q.1)
theorem jB {a b:Int}(ha:1<=a)(hb:1<=b):a*b≠0:=by
 have:=Int.mul_pos (show 0 < a by omega) (show 0 < b by omega);omega
theorem rT {p q:Q2}(hp:1<=p.2)(hq:1<=q.2):Low (plus p q):=gU (jB hp hq)
def B (n:Nat)(i:Int):Prop:=i.natAbs < 2 ^ n
structure Bd (n:Nat) (p:Q2):Prop where
 a:B n p.1
 b:B n p.2
theorem B.mono {n m:Nat}{i:Int}(h:B n i)(l:n<=m):B m i:=Nat.lt_of_lt_of_le h (Nat.pow_le_pow_right (by decide) l)
theorem B.mul {n m:Nat}{i j:Int}(h:B n i)(q:B m j):B (n+m) (i*j):=by
 unfold B at *
 rw[Int.natAbs_mul,Nat.pow_add];exact Nat.mul_lt_mul'' h q
theorem B.add {n:Nat}{i j:Int}(h:B n i)(q:B n j):B (n+1) (i+j):=by
 unfold B at *
 have:=Int.natAbs_add_le i j;rw[Nat.pow_succ];omega
theorem B.neg {n:Nat}{i:Int}(h:B n i):B n (-i):=by unfold B at *;omega
theorem B.sub {n:Nat}{i j:Int}(h:B n i)(q:B n j):B (n+1) (i - j):=by
 rw[Int.sub_eq_add_neg];exact h.add q.neg
theorem B.le {n:Nat}{i j:Int}(h:B n i)(l:j.natAbs<=i.natAbs):B n j:=Nat.lt_of_le_of_lt l h
theorem Bd.mono {n m:Nat}{p:Q2}(h:Bd n p)(l:n<=m):Bd m p:=⟨h.a.mono l,h.b.mono l⟩
theorem Gd {n m:Nat}{p q:Q2}(h:Bd n p)(g:Bd m q)(hp:1<=p.2)(hq:1<=q.2):Bd (n+m+1) (plus p q):=by
 have k:=kZ (t:=p.1*q.2+q.1*p.2) (jB hp hq);have a2:B (n+m) (q.1*p.2):=by rw[Nat.add_comm];exact g.a.mul h.b
 exact⟨((h.a.mul g.b).add a2).le k.1,((h.b.mul g.b).mono (Nat.le_succ _)).le k.2⟩
def Pos (l:List Q2):Prop:=∀f∈l,1<=f.2
end Mq
namespace L2
open PySem PySem.Spec PyProof.Rows
structure bZ (K:PySem.W.Frag) (x qual:Str) (st:Stmt) (dV:Value) (f:Addr) (fd:FuncData):Prop where
 ex:∃(oc:Value) (od:Option Addr) (kV doc pm:Value) (an:Option Addr) (cdv ct:Value) (osl:Array (Option Value)),
  fd=PySem.W.fnOf x qual (aR st) (aL st) (aE st) dV kV doc pm an cdv ct/\K.lookup f=some ⟨oc,od,.func fd,osl⟩/\PySem.W.codeIn K cdv qual=true
 kp:PySem.W.keepIn K (.ref f)=true
section
variable {P:Program} {w:World} {K:PySem.W.Frag} {mg:Str->Option Value} {base:Heap} {CX:CXT}
theorem bZ.okX {x qual:Str}{st:Stmt}{dV:Value}{f:Addr}{fd:FuncData}{N ps:List Str}{k:Nat}{sp:Sp}(F:bZ K x qual st dV f fd)(S:aT N ps (aE st))(len:∀vs H Q E,sp vs H Q E->vs.length=ps.length)(hbody:∀(cdv:Value) (A:Around) (outer:List Env) (s:Shared) (H:Hp) (vs:List V) (Q:VK) (E:XK),gJ k (A.deeper (envOfC qual (aE st) s.heap.objs.size f cdv))->sp vs H Q E->
   ∃t,PSs (Bi CX P w K mg base N qual (aE st) f cdv A outer s H E) (aL st) t/\t { nx:=fun _ H'=>Q .non H',rt:=Q } (start N vs) H):aQ P w K mg base CX (k+1) f fd ps sp:=by
 obtain⟨oc,od,kV,doc,pm,an,cdv,ct,osl,rfl,lk,hcd⟩:=F.ex;exact Wm lk hcd S len fun A outer s H vs Q E hr hsp=>hbody cdv A outer s H vs Q E hr hsp
theorem bZ.ok {x qual:Str}{st:Stmt}{dV:Value}{f:Addr}{fd:FuncData}{N ps:List Str}{k:Nat}{sp:Sp}(F:bZ K x qual st dV f fd)(S:aT N ps (aE st))(len:∀vs H Q E,sp vs H Q E->vs.length=ps.length)(hbody:∀(cdv:Value) (A:Around) (outer:List Env) (s:Shared) (H:Hp) (vs:List V) (Q:VK) (E:XK),gJ k (A.deeper (envOfC qual (aE st) s.heap.objs.size f cdv))->sp vs H Q E->
   ∃t,PSs (Bi CX P w K mg base N qual (aE st) f cdv A outer s H E).nox (aL st) t/\t { nx:=fun _ H'=>Q .non H',rt:=Q } (start N vs) H):aQ P w K mg base CX (k+1) f fd ps sp:=
 F.okX S len fun cdv A outer s H vs Q E hr hsp=>by
  obtain⟨t,h,q⟩:=hbody cdv A outer s H vs Q E hr hsp;exact⟨t,h.nox,q⟩
theorem bZ.binds {x qual:Str}{st:Stmt}{dV:Value}{f:Addr}{fd:FuncData}{ps:List Str}(F:bZ K x qual st dV f fd)(h:∀(kV doc pm:Value) (an:Option Addr) (cdv ct:Value) (us:List Value),us.length=ps.length->bindArgs (PySem.W.fnOf x qual (aR st) (aL st) (aE st) dV kV doc pm an cdv ct) ⟨us,[]⟩=pure (ps.zip us)):aS K fd ps []:=by
 obtain⟨oc,od,kV,doc,pm,an,cdv,ct,osl,rfl,lk,hcd⟩:=F.ex;exact .all (h kV doc pm an cdv ct)
theorem aV {x qual:Str}{st:Stmt}{dV:Value}{f:Addr}{oc:Value}{od an:Option Addr}{osl:Array (Option Value)}{kV doc pm cdv ct:Value}(l:K.lookup f=some ⟨oc,od,.func (PySem.W.fnOf x qual (aR st) (aL st) (aE st) dV kV doc pm an cdv ct),osl⟩)(c:PySem.W.codeIn K cdv qual=true)(k:PySem.W.keepIn K (.ref f)=true):bZ K x qual st dV f (PySem.W.fnOf x qual (aR st) (aL st) (aE st) dV kV doc pm an cdv ct):=⟨⟨oc,od,kV,doc,pm,an,cdv,ct,osl,rfl,l,c⟩,k⟩
end
abbrev fT (p:Mq.Q2):HO:=.tup [.int p.1,.int p.2]
def Fq (K:PySem.W.Frag)(H:Hp)(a:Addr)(p:Mq.Q2):Prop:=SqT K H a [.int p.1,.int p.2]
theorem bG.seqT {K:PySem.W.Frag}{H H':Hp}{a:Addr}{xs:List V}(e:bG H H')(h:SqT K H a xs):SqT K H' a xs:=by
 rcases h with (h | ⟨o,h⟩) | h
 ·exact .inl (.inl (e _ _ h))
 ·exact .inl (.inr ⟨o,e _ _ h⟩)
 ·exact .inr h
theorem aH {H:Hp}{p:Addr}(h:H p=none)(o:HO):bG H (upd H p o):=fun b u q=>by rw[bC (aU q h)];exact q
theorem bG.fq {K:PySem.W.Frag}{H H':Hp}{a:Addr}{p:Mq.Q2}(e:bG H H')(h:Fq K H a p):Fq K H' a p:=e.seqT h
theorem Fq.of {K:PySem.W.Frag}{H:Hp}{a:Addr}{p:Mq.Q2}(h:H a=some (fT p)):Fq K H a p:=SqT.of h
theorem dY {K:PySem.W.Frag}{σ:St}{H:Hp}{i:Nat}{a:Addr}{p:Mq.Q2}{Q:VK}(hv:σ[i]?=some (some (.ref a)))(h:Fq K H a p)(q:Q (.int p.1) H):tOp (Qw K) (Qb i) (tC (.int 0)) σ H Q:=
 ⟨_,hv,a,_,_,_,rfl,rfl,h,rfl,q⟩
theorem cL {K:PySem.W.Frag}{σ:St}{H:Hp}{i:Nat}{a:Addr}{p:Mq.Q2}{Q:VK}(hv:σ[i]?=some (some (.ref a)))(h:Fq K H a p)(q:Q (.int p.2) H):tOp (Qw K) (Qb i) (tC (.int 1)) σ H Q:=
 ⟨_,hv,a,_,_,_,rfl,rfl,h,rfl,q⟩
theorem cO {H:Hp}{n m:Nat}{i j:Int}{Q:VK}(h1:Mq.B n i)(h2:Mq.B m j)(h3:n<=1048576)(h4:m<=1048576)(q:Q (.int (i*j)) H):rI Pz (fun i j=>.int (i*j)) (.int i) (.int j) H Q:=
 ⟨_,_,rfl,rfl,⟨n,m,h1,h2,h3,h4⟩,q⟩
theorem fR {H:Hp}{n:Nat}{i j:Int}{Q:VK}(h1:j≠0)(h2:Mq.B n j)(h3:n<=9000)(q:Q (.int (i.fdiv j)) H):rI Et (fun i j=>.int (i.fdiv j)) (.int i) (.int j) H Q:=
 ⟨_,_,rfl,rfl,⟨h1,n,h2,h3⟩,q⟩
structure Bl (mg:Str->Option Value):Prop where
 isi:mg "isinstance"=none
 int:mg "int"=none
 bool:mg "bool"=none
 abs:mg "abs"=none
def uG (t:Value):Prop:=t=.type "bool"\/t=.type "str"\/t=.type "NoneType"\/t=.type "tuple"\/t=.type "list"
def oA (K:PySem.W.Frag):Sp:=fun vs H Q _=>∃x,vs=[x]/\((∃i,x=.int i/\Q (.bl true) H)\/(∃t,mH K H x t/\uG t/\Q (.bl false) H))
def Os:Sp:=fun vs H Q _=>∃a b:Int,vs=[.int a,.int b]/\Q (.int (Mq.gc a b)) H
def rC (H:Hp)(Q:VK)(p:Mq.Q2):Prop:=∀a H',bG H H'->H' a=some (fT p)->Q (.ref a) H'
def gL:Sp:=fun vs H Q _=>∃(t b:Int) (n:Nat),vs=[.int t,.int b]/\b≠0/\Mq.B n b/\n<=9000/\rC H Q (Mq.red t b)
def kL (K:PySem.W.Frag)(f:Mq.Q2->Mq.Q2->Mq.Q2):Sp:=fun vs H Q _=>∃(a b:Addr) (p q:Mq.Q2) (n m:Nat),vs=[.ref a,.ref b]/\Fq K H a p/\Fq K H b q/\1<=p.2/\1<=q.2/\Mq.Bd n p/\Mq.Bd m q/\n+m+1<=9000/\rC H Q (f p q)
inductive Fqs (K:PySem.W.Frag) (H:Hp):List V->List Mq.Q2->Prop where
 |nil:Fqs K H [] []
 |cons {a:Addr} {p:Mq.Q2} {xs:List V} {ps:List Mq.Q2} (h:Fq K H a p) (q:Fqs K H xs ps):Fqs K H (.ref a :: xs) (p :: ps)
theorem Fqs.same {K:PySem.W.Frag}{H H':Hp}(e:bG H H'):∀{xs:List V} {ps:List Mq.Q2},Fqs K H xs ps->Fqs K H' xs ps
 |_,_,.nil=>.nil
 |_,_,.cons h q=>.cons (e.fq h) (Fqs.same e q)
theorem Fqs.length {K:PySem.W.Frag}{H:Hp}:∀{xs:List V} {ps:List Mq.Q2},Fqs K H xs ps->xs.length=ps.length
 |_,_,.nil=>rfl
 |_,_,.cons _ q=>by simp[Fqs.length q]
theorem Fqs.get {K:PySem.W.Frag}{H:Hp}:∀{xs:List V} {ps:List Mq.Q2} {i:Nat} {x:V},Fqs K H xs ps->xs[i]?=some x->∃a p,x=.ref a/\ps[i]?=some p/\Fq K H a p
 |_,_,_,_,.nil,h=>by simp at h
 |_,_,0,_,.cons h _,e=>by simp at e;exact⟨_,_,e.symm,rfl,h⟩
 |_,_,i+1,_,.cons _ q,e=>by simpa using Fqs.get q (by simpa using e)
theorem Fqs.app {K:PySem.W.Frag}{H:Hp}:∀{xs ys:List V} {ps qs:List Mq.Q2},Fqs K H xs ps->Fqs K H ys qs->Fqs K H (xs++ys) (ps++qs)
 |_,_,_,_,.nil,r=>r
 |_,_,_,_,.cons h q,r=>.cons h (Fqs.app q r)
theorem Fq.upd {K:PySem.W.Frag}{H:Hp}{a l:Addr}{p:Mq.Q2}{xs:List V}{o:HO}(h:Fq K H a p)(hl:H l=some (.lst xs)):Fq K (L2.upd H l o) a p:=by
 rcases h with (h | ⟨u,h⟩) | h
 ·exact .inl (.inl (by rw[bC (iN h hl (fun z=>by cases z))];exact h))
 ·exact .inl (.inr ⟨u,by rw[bC (iN h hl (fun z=>by cases z))];exact h⟩)
 ·exact .inr h
theorem Fqs.upd {K:PySem.W.Frag}{H:Hp}{l:Addr}{ys:List V}{o:HO}(hl:H l=some (.lst ys)):∀{xs:List V} {ps:List Mq.Q2},Fqs K H xs ps->Fqs K (L2.upd H l o) xs ps
 |_,_,.nil=>.nil
 |_,_,.cons h q=>.cons (h.upd hl) (Fqs.upd hl q)
theorem bG.change {H H':Hp}{l:Addr}{o:HO}(s:bG H H')(h:H l=none):bG H (L2.upd H' l o):=fun b u q=>by
 rw[bC (aU q h)];exact s b u q
def qd (p:Mq.Q2):PyData:=.tuple [.int p.1,.int p.2]
theorem Fq.dat {K:PySem.W.Frag}{H:Hp}{a:Addr}{p:Mq.Q2}(h:Fq K H a p):mV K H (.ref a) (qd p):=.tup h (.cons (.int _) (.cons (.int _) .nil))
theorem Fqs.dat {K:PySem.W.Frag}{H:Hp}:∀{xs:List V} {ps:List Mq.Q2},Fqs K H xs ps->qT K H xs (ps.map qd)
 |_,_,.nil=>.nil
 |_,_,.cons h q=>.cons h.dat (Fqs.dat q)
theorem Cl (p:Mq.Q2):(qd p).canLay0=true:=rfl
theorem rN:∀ps:List Mq.Q2,PyData.canLayAll0 (ps.map qd)=true
 | []=>rfl
 |p :: r=>by
  show ((qd p).canLay0 && PyData.canLayAll0 (r.map qd))=true;rw[Cl,rN r];rfl
theorem zM (p:Mq.Q2):(qd p).depth<=1:=by simp[qd,PyData.depth,PyData.depthAll]
theorem wC:∀ps:List Mq.Q2,PyData.depthAll (ps.map qd)<=1
 | []=>by simp[PyData.depthAll]
 |p :: r=>by
  have a:=zM p;have b:=wC r;simp only[List.map_cons,PyData.depthAll];omega
theorem Bp (ps:List Mq.Q2):(PyData.list (ps.map qd)).depth<=2:=by
 have:=wC ps;simp only[PyData.depth];omega
theorem Uq (p q:Mq.Q2):PyData.eqv (qd p) (qd q)=decide (p=q):=by
 unfold qd;simp only[PyData.eqv,PyData.eqvAll]
 by_cases h:p=q
 ·subst h;simp
 ·rw[decide_eq_false h]
  by_cases h1:p.1=q.1
  ·have h2:p.2≠q.2:=fun z=>h (Prod.ext h1 z);simp[h2]
  ·simp[h1]
theorem yB {K:PySem.W.Frag}{H:Hp}{a b:Addr}{p q:Mq.Q2}{neg:Bool}{Q:VK}(h1:Fq K H a p)(h2:Fq K H b q)(z:Q (.bl (if neg then !decide (p=q) else decide (p=q))) H):zB K neg (.ref a) (.ref b) H Q:=by
 refine⟨_,_,h1.dat,h2.dat,Cl p,Cl q,?_,?_⟩
 ·have:=zM p;omega
 ·rw[Uq];exact z
theorem Ji {K:PySem.W.Frag}{H:Hp}{a b:Addr}{xs ys:List V}{ps:List Mq.Q2}{neg:Bool}{Q:VK}(h1:SqL K H a xs)(h2:SqL K H b ys)(f1:Fqs K H xs ps)(f2:Fqs K H ys ps)(z:Q (.bl (!neg)) H):zB K neg (.ref a) (.ref b) H Q:=by
 refine⟨_,_,.lst h1 f1.dat,.lst h2 f2.dat,?_,?_,?_,?_⟩
 ·exact rN ps
 ·exact rN ps
 ·have:=Bp ps;omega
 ·have e:PyData.eqv (.list (ps.map qd)) (.list (ps.map qd))=true:=PySem.SeqAt.eqv_refl _ (rN ps);rw[e]
  cases neg<;>exact z
end L2
set_option maxHeartbeats 2000000
namespace L2
open PySem PySem.Spec PyProof.Rows
abbrev Dt (nl:Nat)(fr:List Nat)(g:TG)(tt:TT)(te:TE)(σ:St)(D:Addr)(Pv:Nat->List V->Hp->Prop)(i:Nat)(ys:List V)(x:V)(H:Hp):Prop:=
 g x (σC nl fr σ) H fun σ2 H4=>σ2.length=(σC nl fr σ).length/\(∀(i:Nat) v,(σC nl fr σ)[i]?=some (some v)->σ2[i]?=some (some v))/\
  tt σ2 H4 fun b H5=>if b=true then te σ2 H5 fun y H6=>H6 D=some (.lst ys)/\ys.length < sizeLine/\Pv (i+1) (ys++[y]) (upd H6 D (.lst (ys++[y]))) else Pv (i+1) ys H5
section
variable {nl:Nat} {fr:List Nat} {g:TG} {tt:TT} {te:TE} {σ:St} {D:Addr} {H1:Hp} {Q:VK}
theorem jQ {lo:Int}{n:Nat}(Pv:Nat->List V->Hp->Prop)(h0:Pv 0 [] (upd H1 D (.lst [])))(hl:∀i ys H,Pv i ys H->H D=some (.lst ys))(hs:∀i ys H,i < n->Pv i ys H->∀(C:Nat->List V->Hp->Prop),(∀ys H,Pv (i+1) ys H->C (i+1) ys H)->Dt nl fr g tt te σ D C i ys (.int (lo+i)) H)(hd:∀ys H,Pv n ys H->Q (.ref D) H) :
  zA (Itr lo n) nl fr g tt te σ D H1 Q:=by
 refine⟨fun i m ys H=>m=n - i/\i<=n/\Pv i ys H,⟨n,by simp,Nat.zero_le _,h0⟩,?_⟩;rintro i m ys H ⟨rfl,hi,p⟩;refine⟨hl i ys H p,?_⟩
 by_cases hlt:i < n
 ·refine .inr ⟨hlt,fun x H' y=>?_⟩;obtain⟨e,y⟩:=y;subst e y;exact hs i ys _ hlt p (fun j zs Hz=>∃m',m' < n - i/\m'=n - j/\j<=n/\Pv j zs Hz) fun zs Hz z=>⟨n - (i+1),by omega,rfl,hlt,z⟩
 ·have e:i=n:=by omega
  subst e;exact .inl ⟨Nat.le_refl _,hd ys H p⟩
theorem dE {K:PySem.W.Frag}{a:Addr}{xs:List V}(Pv:Nat->List V->Hp->Prop)(h0:Pv 0 [] (upd H1 D (.lst [])))(hl:∀i ys H,Pv i ys H->H D=some (.lst ys))(hx:∀i ys H,i<=xs.length->Pv i ys H->SqL K H a xs)(hs:∀i ys x H,xs[i]?=some x->Pv i ys H->∀(C:Nat->List V->Hp->Prop),(∀ys H,Pv (i+1) ys H->C (i+1) ys H)->Dt nl fr g tt te σ D C i ys x H)(hd:∀ys H,Pv xs.length ys H->Q (.ref D) H) :
  zA (Itl K a) nl fr g tt te σ D H1 Q:=by
 refine⟨fun i m ys H=>m=xs.length - i/\i<=xs.length/\Pv i ys H,⟨xs.length,by simp,Nat.zero_le _,h0⟩,?_⟩;rintro i m ys H ⟨rfl,hi,p⟩;refine⟨hl i ys H p,?_⟩;have q:=hx i ys H hi p
 by_cases hlt:i < xs.length
 ·refine .inr ⟨⟨xs,xs[i],q,by simp[hlt]⟩,fun x H' y=>?_⟩;obtain⟨e,y⟩:=y;subst e;exact hs i ys x _ (y xs q) p (fun j zs Hz=>∃m',m' < xs.length - i/\m'=xs.length - j/\j<=xs.length/\Pv j zs Hz) fun zs Hz z=>⟨xs.length - (i+1),by omega,rfl,hlt,z⟩
 ·have e:i=xs.length:=by omega
  subst e;exact .inl ⟨⟨xs,q,Nat.le_refl _⟩,hd ys H p⟩
end
theorem dC {fr:List Nat}{σ:St}{x:V}:((σC 1 fr σ).set 0 (some x)).length=(σC 1 fr σ).length/\∀(i:Nat) v,(σC 1 fr σ)[i]?=some (some v)->((σC 1 fr σ).set 0 (some x))[i]?=some (some v):=by
 refine⟨by simp,fun i v h=>?_⟩
 match i with
 |0=>unfold σC at h;simp at h
 |k+1=>rw[List.getElem?_set_ne (by omega)];exact h
theorem dS {names:List (Str × NameKind)}{cl:List (Str × Addr)}(h:names.all (fun y=>!(y.2 == .cell || y.2 == .free) || (cl.lookup y.1).isSome)=true)(x:Str)(hx:names.lookup x=some .cell\/names.lookup x=some .free):∃c,cl.lookup x=some c:=by
 have key:∀k,(k=NameKind.cell\/k=NameKind.free)->names.lookup x=some k->∃c,cl.lookup x=some c:=fun k hk e=>by
  have m:=List.all_eq_true.mp h _ (PySem.mem_of_lookup e);have:(k == NameKind.cell || k == NameKind.free)=true:=by rcases hk with rfl | rfl<;>rfl
  simp only[this,Bool.not_true,Bool.false_or] at m;exact Option.isSome_iff_exists.mp m
 rcases hx with e | e
 ·exact key _ (.inl rfl) e
 ·exact key _ (.inr rfl) e
section
variable {X:Cx} {pins:List (Addr × Obj)} {σ:St} {H:Hp} {s:Shared} {h':Heap}
theorem Inv.turnedL {t':Nat}{fp:List Addr}(I:Inv X pins σ H s)(k:∀b o,b∉fp->s.heap.get? b=some o->h'.get? b=some o)(hf:∀b∈fp,mG X pins H b):Inv X pins σ H { s with heap:=h',toks:=t' }:=by
 have nit:∀b u,H b=some u->b∉fp:=fun b u e z=>by rw[(hf b z).1] at e;cases e
 have nL:X.env.locals∉fp:=fun z=>(hf _ z).2.1 rfl;refine I.step (g':=s.gens) (d':=s.drawn) (ch:=fp) (fun b hb=>?_) (fun b o _ _ hc e _=>k b o hc e) (fun b o _ _ hc e _=>⟨o.slots,k b o hc e⟩) (fun _ _ _ _ n=>n)
  (fun b o hc e=>⟨o,k b o hc e⟩) (fun _ _ e=>e) (fun _ _ _ e=>e) (fun b ps e=>⟨#[],by rw[e];simp⟩) (fun m hm=>?_) (fun b u e=>?_) I.bare
 ·obtain⟨f0,f1,f2,f3,f4,f5⟩:=hf b hb;exact⟨f3,f1,f4,f5⟩
 ·obtain⟨o,es,ep,ho,r⟩:=hm;exact⟨o,es,ep,k _ o nL ho,r⟩
 ·refine(I.hok b u e).stay (fun c v hc q=>k c v ?_ q) (fun _ q=>q) fun _ _ q=>q;rcases hc with z | z
  ·rw[z];exact nit b u e
  ·exact nit c _ z
end
def Itz (K : PySem.W.Frag)(a b : Addr) : It :=
  ⟨fun i H => ∃ xs ys x y, SqL K H a xs /\ SqL K H b ys /\ xs[i]? = some x /\ ys[i]? = some y,
   fun i H v H' => ∃ T x y, v = .ref T /\ H T = none /\ H' = upd H T (.tup [x, y]) /\ ∀ xs ys, SqL K H a xs -> SqL K H b ys -> xs[i]? = some x /\ ys[i]? = some y,
   fun i H => ∃ xs ys, SqL K H a xs /\ SqL K H b ys /\ (xs.length <= i \/ ys.length <= i)⟩
def Wt (z TI TO i1 i2 l1 l2:Addr)(i:Nat)(h:Heap):Prop:=
 ZipApart z TI TO i1 i2 l1 l2/\IsZip h z TI TO .none/\IsPair h TI (.ref i1) (.ref i2)/\(∃a b,IsPair h TO a b)/\h.IsListIter i1 l1 i/\h.IsListIter i2 l2 i
theorem Lj {P:Program}{w:World}{K:PySem.W.Frag}{elts:List Expr}{kk:Nat}{tpos:Pos}(z TI TO i1 i2 l1 l2:Addr) :
  Iy P w K (.Tuple elts kk tpos) (Itz K l1 l2) [z,TI,TO,i1,i2] z (Wt z TI TO i1 i2 l1 l2) where
 mem:=by simp
 obj:=fun i h st b hb=>by
  obtain⟨ap,hz,hi,⟨a,c,ho⟩,⟨o1,e1,c1,d1⟩,⟨o2,e2,c2,d2⟩⟩:=st;simp only[List.mem_cons,List.not_mem_nil,or_false] at hb;rcases hb with rfl | rfl | rfl | rfl | rfl
  ·exact⟨_,hz,fun v q=>by cases q⟩
  ·exact⟨_,hi,fun v q=>by cases q⟩
  ·exact⟨_,ho,fun v q=>by cases q⟩
  ·exact⟨o1,e1,fun v q=>by rw[d1] at q;cases q⟩
  ·exact⟨o2,e2,fun v q=>by rw[d2] at q;cases q⟩
 keep:=fun i h h' st k=>by
  obtain⟨ap,hz,hi,⟨a,c,ho⟩,⟨o1,e1,c1,d1⟩,⟨o2,e2,c2,d2⟩⟩:=st;exact⟨ap,k _ (by simp) _ hz,k _ (by simp) _ hi,⟨a,c,k _ (by simp) _ ho⟩,⟨o1,k _ (by simp) _ e1,c1,d1⟩,⟨o2,k _ (by simp) _ e2,c2,d2⟩⟩
 item:=by
  intro X hP hw hK hc i pins s σ H E I hf st hg;subst hP hw hK;obtain⟨ap,hz,hi,⟨a,c,ho⟩,t1,t2⟩:=st;obtain⟨xs,ys,x,y,hx,hy,ex,ey⟩:=hg;obtain⟨its1,rv1,p1,z1⟩:=I.list hx;obtain⟨its2,rv2,p2,z2⟩:=I.list hy;obtain⟨u1,hu1,ru1⟩:=rv1.get ex;obtain⟨u2,hu2,ru2⟩:=rv2.get ey;refine wpAny_pyNext_zip_item ap hz hi ho t1 t2 p1.isList p2.isList (x:=u1) (y:=u2) (by simpa using hu1) (by simpa using hu2) fun h' g1 g2 g3 g4 g5 g6 kk'=>?_;have hn:H s.heap.objs.size=none:=I.hok.fresh (Nat.le_refl _);have lt:∀b∈[z,TI,TO,i1,i2],b < s.heap.objs.size:=fun b hb=>by
   simp only[List.mem_cons,List.not_mem_nil,or_false] at hb;obtain⟨o1,e1,_⟩:=t1;obtain⟨o2,e2,_⟩:=t2;rcases hb with rfl | rfl | rfl | rfl | rfl
   ·exact Heap.lt_size hz
   ·exact Heap.lt_size hi
   ·exact Heap.lt_size ho
   ·exact Heap.lt_size e1
   ·exact Heap.lt_size e2
  have I1:Inv X pins σ (upd H s.heap.objs.size (.tup [x,y])) { s with heap:=s.heap.push { cls:=.type "tuple",data:=.seq #[u1,u2] } }:=
   I.laid (t':=s.toks) (fun b o e=>Heap.get?_push_of_some _ e) (Nat.le_refl _) (show dQ X.prog X.w _ _ _ (.tup [x,y]) from ⟨by show 2<=sizeLine;decide,[u1,u2],.cons ru1 (.cons ru2 .nil),IsTup.new _ _⟩)
  have hf1:∀b∈[z,TI,TO,i1,i2],mG X pins (upd H s.heap.objs.size (.tup [x,y])) b:=fun b hb=>⟨by rw[bC (Nat.ne_of_lt (lt b hb))];exact(hf b hb).1,(hf b hb).2⟩
  have k1:∀b o,b∉[z,TI,TO,i1,i2]->(s.heap.push { cls:=.type "tuple",data:=.seq #[u1,u2] }).get? b=some o->h'.get? b=some o:=fun b o nb e=>by
   simp only[List.mem_cons,List.not_mem_nil,or_false,not_or] at nb
   by_cases hb:b=s.heap.objs.size
   ·subst hb;rw[Heap.get?_push_size _ rfl] at e
    cases e
    exact g5
   ·have e0:s.heap.get? b=some o:=by rw[Heap.get?_push_ne _ _ _ hb] at e;exact e
    exact kk' b o nb.1 nb.2.2.1 nb.2.2.2.1 nb.2.2.2.2 e0
  have I2:Inv X pins σ (upd H s.heap.objs.size (.tup [x,y])) { s with heap:=h',toks:=s.toks }:=I1.turnedL (t':=s.toks) k1 hf1;refine⟨_,rfl,wpAny_letOwnedTupleGo_zip (s:={ s with heap:=h' }) g1 fun h2 q1 q2=>?_⟩;have kz:∀b o,b≠z->h'.get? b=some o->h2.get? b=some o:=fun b o nb e=>(q2.2 b nb).trans e;have I3:Inv X pins σ (upd H s.heap.objs.size (.tup [x,y])) { s with heap:=h2,toks:=s.toks }:=Inv.turnedL (s:={ s with heap:=h',toks:=s.toks }) (t':=s.toks) (fp:=[z]) I2 (fun b o nb e=>kz b o (by simpa using nb) e) fun b hb=>hf1 b (by simp at hb;simp[hb]);have hTI:h'.get? TI=some { cls:=.type "tuple",data:=.seq #[.ref i1,.ref i2] }:=kk' TI _ ap.TIz ap.TITO ap.TIi1 ap.TIi2 hi;obtain⟨o3,e3,c3,d3⟩:=g3;obtain⟨o4,e4,c4,d4⟩:=g4;refine⟨.ref s.heap.objs.size,_,I3,rfl,⟨_,x,y,rfl,hn,rfl,fun xs' ys' h1 h2=>?_⟩,⟨ap,q1,kz _ _ ap.TIz hTI,⟨_,_,kz _ _ ap.TOz g2⟩,⟨o3,kz _ _ ap.i1z e3,c3,d3⟩,⟨o4,kz _ _ ap.i2z e4,c4,d4⟩⟩,fun b hb=>(hf1 b hb).1⟩;rw[I.list_inj h1 hx,I.list_inj h2 hy];exact⟨ex,ey⟩
 done:=by
  intro X hP hw hK hc i pins s σ H E I hf st hg;subst hP hw hK;obtain⟨ap,hz,hi,⟨a,c,ho⟩,t1,t2⟩:=st;obtain⟨xs,ys,hx,hy,hor⟩:=hg;obtain⟨its1,rv1,p1,z1⟩:=I.list hx;obtain⟨its2,rv2,p2,z2⟩:=I.list hy;have l1':=rv1.length;have l2':=rv2.length;refine wpAny_pyNext_zip_end (I.ok.hd hc) ap hz hi ho t1 t2 p1.isList p2.isList (by rcases hor with h | h;left;simp;omega;right;simp;omega) fun h' kk'=>⟨rfl,?_⟩
  refine I.turnedL (t':=s.toks) (fun b o nb e=>?_) hf;simp only[List.mem_cons,List.not_mem_nil,or_false,not_or] at nb;exact kk' b o nb.1 nb.2.2.1 nb.2.2.2.1 nb.2.2.2.2 e
 self:=fun A i s Q E st h=>by
  obtain⟨ap,hz,hi,⟨a,c,ho⟩,t1,t2⟩:=st;exact wpAny_pyIter_zip hz h
section
variable {X:Cx}
def Yu (K:PySem.W.Frag)(ta:TA):TI:=fun σ H R=>ta σ H fun vs H1=>∃a b,vs=[.ref a,.ref b]/\(∃xs,SqL K H1 a xs)/\(∃ys,SqL K H1 b ys)/\R (Itz K a b) H1
theorem Jn {e1 e2:Expr}{ta:TA}{p pos:Pos}{elts:List Expr}{kk:Nat}{tpos:Pos}(hg:Gl X "zip")(hm:X.mg "zip"=none)(hv:bootBuiltins "zip"=some (.type "zip"))(ha:PA X [e1,e2] ta)(hs:starEach [e1,e2] X.env=(false,eval e1 X.env) :: starEach [e2] X.env:=by rfl)(hpl:(backTo pos (starEach [e2] X.env)).any (·.1)=false:=by rfl):PI X (.Tuple elts kk tpos) (.Call (.Name "zip" p) [e1,e2] [] pos) (Yu X.K ta):=by
 intro pins s σ H R I h;refine Call_ (jY I hg hm hv (PyProof.Rows.callWith_type1 (thn (ha pos pins s σ H _ I h) fun us s1 ⟨vs,H1,I1,r1,q1⟩=>?_) hs hpl));obtain⟨a,b,rfl,⟨xs,hx⟩,⟨ys,hy⟩,q⟩:=q1;obtain⟨u,w',rfl,ra,rb⟩:=Dv r1
 cases (show u=Value.ref a from ra)
 cases (show w'=Value.ref b from rb)
 obtain⟨its1,rv1,p1,z1⟩:=I1.list hx;obtain⟨its2,rv2,p2,z2⟩:=I1.list hy;have la:a < s1.heap.objs.size:=by obtain⟨o,e,_⟩:=p1.isList;exact Heap.lt_size e
 have lb:b < s1.heap.objs.size:=by obtain⟨o,e,_⟩:=p2.isList;exact Heap.lt_size e
 refine call_zip_2 p1.isList p2.isList fun h' g1 g2 g3 g4 g5 g6 kk'=>?_;refine wpAny_pyIter_zip g1 ?_;have ne:∀i j:Nat,i≠j->s1.heap.objs.size+i≠s1.heap.objs.size+j:=fun i j n e=>n (Nat.add_left_cancel e);have nl:∀(c:Addr) (i:Nat),c < s1.heap.objs.size->c≠s1.heap.objs.size+i:=fun c i l e=>absurd (Nat.lt_of_lt_of_le l (Nat.le_add_right _ i)) (by rw[<- e];exact Nat.lt_irrefl _);have n0:∀j:Nat,j≠0->s1.heap.objs.size+j≠s1.heap.objs.size:=fun j n e=>n (Nat.add_left_cancel (e.trans (Nat.add_zero _).symm));refine⟨s1.heap.objs.size+4,[s1.heap.objs.size+4,s1.heap.objs.size+2,s1.heap.objs.size+3,s1.heap.objs.size,s1.heap.objs.size+1],_,Itz X.K a b,H1,rfl,I1.kept (t':=s1.toks) kk',Lj _ _ _ _ _ a b,⟨?_,g1,g2,⟨_,_,g3⟩,g4,g5⟩,fun c hc=>?_,q⟩
 ·exact⟨ne 2 4 (by decide),ne 3 4 (by decide),(n0 4 (by decide)).symm,ne 1 4 (by decide),ne 2 3 (by decide),n0 2 (by decide),ne 2 1 (by decide),n0 3 (by decide),ne 3 1 (by decide),(n0 1 (by decide)).symm,
   nl a 4 la,nl a 3 la,Nat.ne_of_lt la,nl a 1 la,nl b 4 lb,nl b 3 lb,Nat.ne_of_lt lb,nl b 1 lb⟩
 ·have hle:s1.heap.objs.size<=c:=by
   simp only[List.mem_cons,List.not_mem_nil,or_false] at hc;rcases hc with rfl | rfl | rfl | rfl | rfl<;>first | exact Nat.le_add_right _ _ | exact Nat.le_refl _
  exact I1.fpOk hle (I1.hok.fresh hle)
theorem Ak {K:PySem.W.Frag}{a b:Addr}{xs ys:List V}{nl:Nat}{fr:List Nat}{g:TG}{tt:TT}{te:TE}{σ:St}{D:Addr}{H1:Hp}{Q:VK}(Pv:Nat->List V->Hp->Prop)(h0:Pv 0 [] (upd H1 D (.lst [])))(hl:∀i zs H,Pv i zs H->H D=some (.lst zs))(hx:∀i zs H,i<=min xs.length ys.length->Pv i zs H->SqL K H a xs/\SqL K H b ys)(hs:∀i zs x y H T,xs[i]?=some x->ys[i]?=some y->Pv i zs H->H T=none->∀(C:Nat->List V->Hp->Prop),(∀zs H,Pv (i+1) zs H->C (i+1) zs H)->Dt nl fr g tt te σ D C i zs (.ref T) (upd H T (.tup [x,y])))(hd:∀zs H,Pv (min xs.length ys.length) zs H->Q (.ref D) H) :
  zA (Itz K a b) nl fr g tt te σ D H1 Q:=by
 refine⟨fun i m zs H=>m=min xs.length ys.length - i/\i<=min xs.length ys.length/\Pv i zs H,⟨_,rfl,Nat.zero_le _,h0⟩,?_⟩;rintro i m zs H ⟨rfl,hi,p⟩;refine⟨hl i zs H p,?_⟩;obtain⟨qx,qy⟩:=hx i zs H hi p
 by_cases hlt:i < min xs.length ys.length
 ·have hx':i < xs.length:=by omega
  have hy':i < ys.length:=by omega
  refine .inr ⟨⟨xs,ys,xs[i],ys[i],qx,qy,by simp[hx'],by simp[hy']⟩,fun v H' z=>?_⟩;obtain⟨T,x,y,rfl,hT,rfl,hh⟩:=z;obtain⟨ex,ey⟩:=hh xs ys qx qy;exact hs i zs x y H T ex ey p hT (fun j zs Hz=>∃m',m' < min xs.length ys.length - i/\m'=min xs.length ys.length - j/\j<=min xs.length ys.length/\Pv j zs Hz) fun zs Hz z=>⟨min xs.length ys.length - (i+1),by omega,rfl,hlt,z⟩
 ·have e:i=min xs.length ys.length:=by omega
  subst e;exact .inl ⟨⟨xs,ys,qx,qy,by omega⟩,hd zs H p⟩
def Px:V->List V->Hp->VK->Prop:=fun x vs H Q=>∃(l:Addr) (xs:List V) (k:Nat) (i:Int) (y:V),x=.ref l/\vs=[.int i,y]/\i=(k:Int)/\k<=xs.length/\H l=some (.lst xs)/\xs.length < sizeLine/\Q .non (upd H l (.lst (xs.take k++y :: xs.drop k)))
theorem He:MtM X "list.insert" Px:=by
 intro pins s σ H x vs v us Q I rx rv h;obtain⟨l,xs,k,i,y,rfl,rfl,hik,hk,hH,hz,q⟩:=h
 cases rx
 obtain⟨u1,u2,rfl,⟨t,rfl⟩,ru⟩:=Dv rv;obtain⟨z,its,n,r,hl,e⟩:=I.lstM hH;have hs:sizeLine=16777216:=sizeLine_eq;have hfit:¬(!Builtin.List.listFitsIndex i)=true:=by
  rw[fitsIndex_both (by omega) (by omega)];exact Bool.false_ne_true
 have hM:=AutoSeq1.list_insert_list_int_val_1 l its.toArray n i t u2 hfit (by rw[List.size_toArray];omega);refine call_meets F.slot_list_insert ⟨_,e,rfl⟩ F.entry_list_insert (F.args_list_insert_3 (Value.ref l) (Value.int i t) u2) hM ⟨e,?_⟩;refine⟨.non,_,I.lset (its':=its.take k++u2 :: its.drop k) hH e ?_ ((r.take k).append (.cons ru (r.drop k))) ?_,rfl,q⟩
 ·have ek:(if i < 0 then (i+(its.toArray.size:Int)).toNat else min i.toNat its.toArray.size)=k:=by
   rw[if_neg (by omega),List.size_toArray];omega
  show (its.toArray.extract 0 (if i < 0 then (i+(its.toArray.size:Int)).toNat else min i.toNat its.toArray.size)).push u2++its.toArray.extract (if i < 0 then (i+(its.toArray.size:Int)).toNat else min i.toNat its.toArray.size)=_;rw[ek];apply Array.ext';simp[List.take_of_length_le]
 ·rw[List.length_append,List.length_cons,List.length_take,List.length_drop];omega
end
end L2
set_option maxHeartbeats 1000000
namespace L2
open PySem PySem.Spec PyProof.Rows
abbrev Zl:List Value:=[.type "ValueError",.type "Exception",.type "BaseException",.type "object"]
abbrev TEX:=St->Hp->VK->XK->Prop
abbrev TSX:=mF->(St->XK)->St->Hp->Prop
abbrev Cx.sup (X:Cx)(a:Addr):Cx:={ X with A:=X.A.mark (some (.ref a)),calm:=false,xe:=fun _ _=>False }
abbrev TH:=Addr->Value->Option Addr->mF->St->Hp->Prop
end L2
namespace Mq
theorem mD {p q:Q2}(hp:1<=p.2)(hq:1<=q.2):Low (minus p q):=gU (jB hp hq)
theorem nU {p q:Q2}(hp:1<=p.2)(hq:q.1≠0):p.2*q.1≠0:=Int.mul_ne_zero (by omega) hq
theorem zS {p q:Q2}(hp:1<=p.2)(hq:q.1≠0):Low (mI p q):=gU (nU hp hq)
theorem Nr {n m:Nat}{p q:Q2}(h:Bd n p)(g:Bd m q)(hp:1<=p.2)(hq:1<=q.2):Bd (n+m+1) (minus p q):=by
 have k:=kZ (t:=p.1*q.2 - q.1*p.2) (jB hp hq);have a2:B (n+m) (q.1*p.2):=by rw[Nat.add_comm];exact g.a.mul h.b
 exact⟨((h.a.mul g.b).sub a2).le k.1,((h.b.mul g.b).mono (Nat.le_succ _)).le k.2⟩
theorem Es {n m:Nat}{p q:Q2}(h:Bd n p)(g:Bd m q)(hp:1<=p.2)(hq:q.1≠0):Bd (n+m) (mI p q):=by
 have k:=kZ (t:=p.1*q.2) (nU hp hq);exact⟨(h.a.mul g.b).le k.1,(h.b.mul g.a).le k.2⟩
end Mq
namespace L2
open PySem PySem.Spec PyProof.Rows
def Fy (K:PySem.W.Frag):Sp:=fun vs H Q _=>∃(a b:Addr) (p q:Mq.Q2) (n m:Nat),vs=[.ref a,.ref b]/\Fq K H a p/\Fq K H b q/\Mq.Bd n p/\Mq.Bd m q/\n+m+1<=9000/\Q (.bl (decide (p.1*q.2 < q.1*p.2))) H
end L2
set_option maxHeartbeats 2000000
namespace L2
open PySem PySem.Spec PyProof.Rows
inductive TyQ (K:PySem.W.Frag) (H:Hp):V->Value->Prop where
 |of {x:V} {t:Value} (h:mH K H x t):TyQ K H x t
 |tup {a:Addr} {xs:List V} (h:SqT K H a xs):TyQ K H (.ref a) (.type "tuple")
 |lst {a:Addr} {xs:List V} (h:SqL K H a xs):TyQ K H (.ref a) (.type "list")
section
variable {X:Cx} {pins:List (Addr × Obj)} {σ:St} {H:Hp} {s:Shared} {A:Around} {E:Value->Shared->Prop} {Q:Value->Shared->Prop} {c:Value} {b:Bool}
theorem Co {x:V}{u t:Value}(I:Inv X pins σ H s)(rx:cD x u)(ty:TyQ X.K H x t)(e:PySem.W.kitOne X.K t c=some b)(h:∀tk,Q (.bool b) { s with toks:=tk }) :
  wpAny (model X.prog X.w) A (call (.builtin "isinstance") [u,c]) Q E s:=by
 cases ty with
 |of ty=>exact Gn I rx ty e h
 | @tup a xs ht=>
  cases (show u=Value.ref a from rx)
  obtain⟨its,_,p,_⟩:=I.tuple ht;obtain⟨o,h1,h2,_⟩:=p;exact PySem.W.kia_one PySem.W.kitx_tuple I.kIn ⟨o,h1,h2⟩ e (fun z=>nomatch z) h
 | @lst a xs ht=>
  cases (show u=Value.ref a from rx)
  obtain⟨its,_,p,_⟩:=I.list ht;obtain⟨o,h1,h2,_⟩:=p.isList;exact PySem.W.kia_one PySem.W.kitx_list I.kIn ⟨_,h1,h2⟩ e (fun z=>nomatch z) h
end
section
variable {X:Cx}
theorem Ig:mM X (.builtin "isinstance") (fun xs H Q=>∃x n t b,xs=[x,.ty n]/\TyQ X.K H x t/\PySem.W.kitOne X.K t (.type n)=some b/\Q (.bl b) H):=by
 intro pins s σ H vs us Q I rv h;obtain⟨x,n,t,b,rfl,ty,e,q⟩:=h;obtain⟨u,u2,rfl,r1,r2⟩:=Dv rv
 cases (show u2=Value.type n from r2)
 exact Co I r1 ty e fun tk=>⟨.bl b,H,I.tok tk,rfl,q⟩
theorem gQ {i:Nat}{x T:Str}{T':String}{p1 p2 p3 pos:Pos}(hN:X.N[i]?=some x)(hv:Vis X.env.scope x)(b:X.mg "isinstance"=none)(b2:X.mg T=none)(g1:Gl X "isinstance")(g2:Gl X T)(hT:bootBuiltins T=some (.type T'))(hd:(x == ("__debug__":Str))=false:=by decide)(hcd:(x == ("__classdict__":Str))=false:=by decide)(hTn:T≠"__name__":=by decide)(hTd:(T == ("__debug__":Str))=false:=by decide)(he:starEach [.Name x p2,.Name T p3] X.env=(false,eval (.Name x p2) X.env) :: starEach [.Name T p3] X.env:=by rfl)(he2:starEach [.Name T p3] X.env=(false,eval (.Name T p3) X.env) :: starEach [] X.env:=by rfl)(hpl:(backTo pos (starEach [.Name T p3] X.env)).any (·.1)=false:=by rfl) :
  PE X (.Call (.Name "isinstance" p1) [.Name x p2,.Name T p3] [] pos) (fun σ H Q=>∃v t b,σ[i]?=some (some v)/\TyQ X.K H v t/\PySem.W.kitOne X.K t (.type T')=some b/\Q (.bl b) H):=by
 have h:=bO (X:=X) (pos:=pos) (p:=p1) Ig g1 b PyProof.Rows.boot_isinstance (aA (Mb (i:=i) (pos:=p2) hN hv hd hcd) (aA (Qk (v:=.ty T') (pos:=p3) g2 b2 hT rfl hTn hTd) aD he2) he) (by decide) (by decide) he hpl;intro pins s σ H Q I q;obtain⟨v,t,bb,h1,h2,h3,h4⟩:=q;exact h pins s σ H Q I ⟨v,h1,v,T',t,bb,rfl,h2,h3,h4⟩
end
theorem SqT.upd {K:PySem.W.Frag}{H:Hp}{a l:Addr}{xs ys:List V}{o:HO}(h:SqT K H a xs)(hl:H l=some (.lst ys)):SqT K (L2.upd H l o) a xs:=by
 rcases h with (h | ⟨u,h⟩) | h
 ·exact .inl (.inl (by rw[bC (iN h hl (fun z=>by cases z))];exact h))
 ·exact .inl (.inr ⟨u,by rw[bC (iN h hl (fun z=>by cases z))];exact h⟩)
 ·exact .inr h
theorem zK {K:PySem.W.Frag}{H:Hp}:∀ns:List Int,qT K H (ns.map V.int) (ns.map PyData.int)
 | []=>.nil
 |n :: r=>.cons (.int n) (zK r)
theorem zD:∀ns:List Int,PyData.canLayAll0 (ns.map PyData.int)=true
 | []=>rfl
 |n :: r=>by
  show ((PyData.int n).canLay0 && PyData.canLayAll0 (r.map PyData.int))=true;rw[zD r];rfl
theorem yY (ns:List Int)(lo hi:Option Int):∃ms:List Int,iU (ns.map V.int) lo hi=ms.map V.int/\ms.length<=ns.length:=by
 refine⟨(ns.drop (HT.sIx (ns.map V.int).length 0 lo)).take (HT.sIx (ns.map V.int).length (ns.map V.int).length hi - HT.sIx (ns.map V.int).length 0 lo),?_,?_⟩
 ·unfold iU;rw[List.map_take,List.map_drop]
 ·rw[List.length_take,List.length_drop];omega
theorem As {K:PySem.W.Frag}{H:Hp}{a b:Addr}{ns:List Int}{neg:Bool}{Q:VK}(h1:SqL K H a (ns.map V.int))(h2:SqL K H b [])(z:Q (.bl (if neg then !ns.isEmpty else ns.isEmpty)) H):zB K neg (.ref a) (.ref b) H Q:=by
 refine⟨_,_,.lst h1 (zK ns),.lst h2 .nil,zD ns,rfl,?_,?_⟩
 ·have:(PyData.list []).depth<=1:=by decide
  omega
 ·cases ns<;>exact z
theorem qV {fr:List Nat}{σ:St}{x y:V}:(((σC 2 fr σ).set 0 (some x)).set 1 (some y)).length=(σC 2 fr σ).length/\∀(i:Nat) v,(σC 2 fr σ)[i]?=some (some v)->(((σC 2 fr σ).set 0 (some x)).set 1 (some y))[i]?=some (some v):=by
 refine⟨by simp,fun i v h=>?_⟩
 match i with
 |0=>unfold σC at h;simp at h
 |1=>unfold σC at h;simp at h
 |k+2=>rw[List.getElem?_set_ne (by omega),List.getElem?_set_ne (by omega)];exact h
theorem Fqs.set {K:PySem.W.Frag}{H:Hp}{a:Addr}{p:Mq.Q2}(h:Fq K H a p):∀{xs:List V} {ps:List Mq.Q2} (i:Nat),Fqs K H xs ps->Fqs K H (xs.set i (.ref a)) (ps.set i p)
 |_,_,_,.nil=>.nil
 |_,_,0,.cons _ q=>.cons h q
 |_,_,i+1,.cons g q=>.cons g (Fqs.set h i q)
theorem Fqs.at {K:PySem.W.Frag}{H:Hp}:∀{xs:List V} {ps:List Mq.Q2} {i:Nat} {p:Mq.Q2},Fqs K H xs ps->ps[i]?=some p->∃a,xs[i]?=some (.ref a)/\Fq K H a p
 |_,_,_,_,.nil,h=>by simp at h
 |_,_,0,_,.cons h _,e=>by simp at e;subst e;exact⟨_,rfl,h⟩
 |_,_,i+1,_,.cons _ q,e=>by simpa using Fqs.at q (by simpa using e)
theorem qY {n:Nat}{i:Int}(lo:-(2 ^ n:Int) < i)(hi:i < 2 ^ n):Mq.B n i:=by
 unfold Mq.B;have e:((2 ^ n:Nat):Int)=2 ^ n:=by simp
 omega
theorem xR (X:Cx):∀l:List (Int × _ × Pos),PA X (l.map fun q=>Expr.Constant (.int q.1) q.2.1 q.2.2) (fun _ H Q=>Q (l.map fun q=>V.int q.1) H)
 | []=>aD
 |q :: l=>aA (te:=tC (.int q.1)) aF (xR X l) rfl
theorem gR {n k:Nat}(h:k < n):ixN n (k:Int)=some k:=by
 unfold ixN;rw[if_pos (by omega),if_pos (by omega)];simp
section
variable {X:Cx} {tg:Expr}
def Ys (K:PySem.W.Frag):List V->Hp->VK->Prop:=fun xs H Q=>∃(p:Addr) (bs:List Bool),xs=[.ref p]/\SqL K H p (bs.map V.bl)/\Q (.bl (bs.all id)) H
theorem oU (hc:X.calm=true):mM X (.builtin "all") (Ys X.K):=by
 intro pins s σ H xs us Q I r h;obtain⟨p,bs,rfl,hq,q⟩:=h;obtain⟨u,rfl,rx⟩:=tG r
 cases rx
 obtain⟨its,rv,pl,hz⟩:=I.list hq;have hlen:its.toArray.size=bs.length:=by rw[List.size_toArray,<- rv.length,List.length_map]
 have hne:p≠s.heap.objs.size:=by
  obtain⟨o,e,_⟩:=pl.isList;exact Nat.ne_of_lt (Heap.lt_size e)
 refine call_all_walk (wpAny_pyIter_list pl.isList ?_);refine⟨s.heap.objs.size,_,_,_,_,_,fun i=>bs.getD i false,rfl,Walks.list (by exact I.ok.hd hc) s.heap.objs.size p hne its.toArray,⟨⟨_,Heap.get?_push_size _ rfl,rfl,rfl⟩,?_⟩,?_,?_⟩
 ·obtain⟨o,e,c⟩:=pl.isList;exact⟨o,Heap.get?_push_of_some _ e,c⟩
 ·intro i v s' Q' E' hv q';have hv':its[i]?=some v:=by simpa using hv
  have hi:i < its.length:=(List.getElem?_eq_some_iff.mp hv').1;have hb:(bs.map V.bl)[i]?=some (.bl (bs.getD i false)):=by
   rw[List.getElem?_map,List.getElem?_eq_getElem (by rw[<- hlen];simpa using hi)];simp[List.getD,List.getElem?_eq_getElem (show i < bs.length by rw[<- hlen];simpa using hi)]
  obtain⟨u,hu,ru⟩:=rv.get hb;have e:u=v:=by rw[hv'] at hu;cases hu;rfl
  subst e
  cases ru
  exact wpAny_truthy_bool q'
 ·intro h' tk kk;have e:(List.range its.toArray.size).all (fun i=>bs.getD i false)=bs.all id:=by
   rw[hlen,Bool.eq_iff_iff,List.all_eq_true,List.all_eq_true];constructor
   ·intro z b hb;obtain⟨i,hi,rfl⟩:=List.getElem_of_mem hb;have:=z i (List.mem_range.mpr hi);simpa[List.getD,List.getElem?_eq_getElem hi] using this
   ·intro z i hi;have hi':=List.mem_range.mp hi;have:=z bs[i] (List.getElem_mem hi');simpa[List.getD,List.getElem?_eq_getElem hi'] using this
  rw[e];refine⟨.bl _,H,I.kept (t':=tk) fun b o hb=>?_,rfl,q⟩;have hb2:b≠s.heap.objs.size:=Nat.ne_of_lt (Heap.lt_size hb);exact kk b o (by simpa using hb2) (Heap.get?_push_of_some _ hb)
end
def Uh {ι:Type}(C:ι->Addr)(m:Str)(sp:ι->Sp)(dvs:List V)(E:XK)(ta:TE)(t:TA):TE:=fun σ H Q=>ta σ H fun x H1=>∃i a dx fs,x=.ref a/\H1 a=some (.ins (C i) dx fs)/\fs.lookup m=none/\
 t σ H1 fun vs H2=>sp i (x :: (vs++dvs)) H2 Q E
section
variable {X:Cx} {ι:Type} {C f:ι->Addr} {fd:ι->FuncData} {sp:ι->Sp} {m:Str} {CX:CXT} {k:Nat} {ps:List Str} {ds:List Value} {dvs:List V} {E:XK} {o e:Expr} {es:List Expr} {ta:TE} {t:TA} {apos pos:Pos}
theorem fV {pl:Sem Bool}(he:PE X o ta)(c:∀i,Cls X.K (C i))(hm:∀i,gH X.K (C i) m (f i))(F:∀i,aQ X.prog X.w X.K X.mg X.base CX k (f i) (fd i) ps (sp i))(hr:gJ k X.A)(hb:∀i,aS X.K (fd i) ps ds)(hd:bY dvs ds)(hx:kJ CX X E)(ht:eval (.Call (.Attribute o m apos) [] [] pos) X.env=(do
   let ov <- eval o X.env
   standAt apos.atName
   let (f,first) <- holding [ov] (getMethod ov m pl)
   callWith pos f first (backTo pos (starEach [] X.env)) (backToKw pos (keywordEach [] X.env))):=by rfl) :
  PE X (.Call (.Attribute o m apos) [] [] pos) (Uh C m sp dvs E ta Tp):=by
 intro pins s σ H Q I h;refine PySem.W.methodCall_KW (pl:=pl) (thn (he pins s σ H _ I h) fun u s1 ⟨x,H1,I1,rx,i,a,dx,fs,ex,ea,l,q⟩=>?_) ht;subst ex;obtain rfl:u=Value.ref a:=rx;refine mX I1 ea (c i) (hm i) l ?_;exact PySem.W.callWith_K0 (first:=[.ref a]) I1.kIn (hm i).kp (xE (us:=[.ref a]) (vs:=[.ref a]) (F i) hr (hb i) hd hx I1 (.cons rfl .nil) q)
end
inductive Kd where
 |pc | pu | ho
 deriving DecidableEq
def Kd.wd:Kd->Str
 | .pc=>"piece"
 | .pu=>"push"
 | .ho=>"hold"
def Kd.cn:Kd->Str
 | .pc=>"Piece"
 | .pu=>"Push"
 | .ho=>"Hold"
theorem Kd.wd_inj {k j:Kd}(h:k.wd=j.wd):k=j:=by
 cases k<;>cases j<;>first | rfl | exact absurd h (by decide +kernel)
theorem fsg:¬(("start":Str) = "goal"):=by decide +kernel
theorem fsz:¬(("start":Str) = "size"):=by decide +kernel
theorem fgz:¬(("goal":Str) = "size"):=by decide +kernel
def jI (s g z:V):List (Str × V):=iI "size" z (iI "goal" g (iI "start" s []))
theorem dD (s g z:V):(jI s g z).lookup ("start":Str)=some s:=by
 unfold jI;rw[cB,if_neg fsz,cB,if_neg fsg,cB,if_pos rfl]
theorem dR (s g z:V):(jI s g z).lookup ("goal":Str)=some g:=by
 unfold jI;rw[cB,if_neg fgz,cB,if_pos rfl]
theorem iL (s g z:V):(jI s g z).lookup ("size":Str)=some z:=by
 unfold jI;rw[cB,if_pos rfl]
theorem eP (s g z:V){m:Str}(h1:¬m = "start")(h2:¬m = "goal")(h3:¬m = "size"):(jI s g z).lookup m=none:=by
 unfold jI;rw[cB,if_neg h3,cB,if_neg h2,cB,if_neg h1];rfl
def Rw (CK:Kd->Addr)(H:Hp)(x:Addr)(k:Kd)(s g z:V):Prop:=∃dx,H x=some (.ins (CK k) dx (jI s g z))
theorem Rw.same {CK:Kd->Addr}{H H':Hp}{x:Addr}{k:Kd}{s g z:V}(e:bG H H')(h:Rw CK H x k s g z):Rw CK H' x k s g z:=let ⟨dx,q⟩:=h;⟨dx,e _ _ q⟩
theorem Rw.upd {CK:Kd->Addr}{H:Hp}{x l:Addr}{k:Kd}{s g z:V}{ys:List V}{o:HO}(h:Rw CK H x k s g z)(hl:H l=some (.lst ys)):Rw CK (L2.upd H l o) x k s g z:=let ⟨dx,q⟩:=h;⟨dx,by rw[bC (iN q hl (fun z=>by cases z))];exact q⟩
structure RT (K:PySem.W.Frag) (mg:Str->Option Value) (CR:Addr) (CK:Kd->Addr):Prop where
 cl:∀k,Cls K (CK k)
 nS:∀k,iG K (CK k) "start"
 nG:∀k,iG K (CK k) "goal"
 nZ:∀k,iG K (CK k) "size"
 t1:∀k,PySem.W.findIn K (.ref (CK k)) "__class__"=some (some (.builtin "object.__class__"))
 t2:PySem.W.specialIn K (.builtin "object.__class__") "__get__"=some (some (.builtin "getset_descriptor.__get__"))
 t3:PySem.W.takesIn K (.builtin "object.__class__")=some true
 t4:∀k,PySem.W.mroIn K (CK k) (.type "object")=some true
 isR:∀k,PySem.W.kitOne K (.ref (CK k)) (.ref CR)=some true
 isK:∀k j,PySem.W.kitOne K (.ref (CK k)) (.ref (CK j))=some (decide (k=j))
 mR:mg "Row"=some (.ref CR)
 mK:∀k,mg (Kd.cn k)=some (.ref (CK k))
section
variable {K:PySem.W.Frag} {mg:Str->Option Value} {CR:Addr} {CK:Kd->Addr} {H:Hp} {x:Addr} {k:Kd} {s g z:V}
theorem Rw.new {C x dx:Addr}{fs:List (Str × V)}(h1:H x=none)(h2:H dx=none)(ne:dx≠x):bG H (L2.upd (L2.upd H dx (.own x)) x (.ins C dx fs)):=fun b o e=>by
 rw[bC (aU e h1),bC (aU e h2)];exact e
end
def yF (CK:Kd->Addr):Sp:=fun vs H Q _=>∃(x dx:Addr) (k:Kd) (s g z:V),vs=[.ref x,s,g,z]/\H x=some (.ins (CK k) dx [])/\Q .non (upd H x (.ins (CK k) dx (jI s g z)))
def jV (k:Kd):Sp:=fun vs H Q _=>∃x,vs=[x]/\Q (.str k.wd) H
def oH (k:Kd):Sp:=fun vs H Q _=>∃x,vs=[x]/\Q (.bl (decide (k≠.pu))) H
def yC (CK:Kd->Addr):Sp:=fun vs H Q _=>∃(x:Addr) (k:Kd) (s g z:V),vs=[.ref x]/\Rw CK H x k s g z/\∀t,H t=none->Q (.ref t) (upd H t (.tup [.str k.wd,s,g,z]))
def Yl (CK:Kd->Addr)(H:Hp)(Q:VK)(k:Kd)(s g z:V):Prop:=∀x H',bG H H'->H x=none->Rw CK H' x k s g z->Q (.ref x) H'
theorem Vd {K:PySem.W.Frag}{H:Hp}{x y:V}{d:PyData}{neg:Bool}{Q:VK}(h1:mV K H x d)(h2:mV K H y d)(hl:d.canLay0=true)(hd:d.depth<=16)(z:Q (.bl (!neg)) H):zB K neg x y H Q:=by
 refine⟨d,d,h1,h2,hl,hl,by omega,?_⟩;have e:PyData.eqv d d=true:=PySem.SeqAt.eqv_refl _ hl;rw[e]
 cases neg<;>exact z
def rd4 (w:Str)(i j:Int)(p:Mq.Q2):PyData:=.tuple [.str w,.int i,.int j,qd p]
theorem Qo {w:Str}(h:(PyData.str w).canLay0=true)(i j:Int)(p:Mq.Q2):(rd4 w i j p).canLay0=true:=by
 show ((PyData.str w).canLay0 && ((PyData.int i).canLay0 && ((PyData.int j).canLay0 && ((qd p).canLay0 && true))))=true;rw[h];rfl
theorem Kd.lay (k:Kd):(PyData.str k.wd).canLay0=true:=by cases k<;>decide +kernel
theorem ifT {c:Bool}{A B:Prop}(h:c=true)(x:A):if c=true then A else B:=by rw[if_pos h];exact x
theorem ifF {c:Bool}{A B:Prop}(h:c=false)(x:B):if c=true then A else B:=by rw[if_neg (by rw[h];decide)];exact x
theorem Oq {K:PySem.W.Frag}{H:Hp}{t a:Addr}{w:Str}{i j:Int}{p:Mq.Q2}(h:SqT K H t [.str w,.int i,.int j,.ref a])(f:Fq K H a p):mV K H (.ref t) (rd4 w i j p):=.tup h (.cons (.str _) (.cons (.int _) (.cons (.int _) (.cons f.dat .nil))))
theorem dG (k j:Kd):decide (V.str k.wd=V.str j.wd)=decide (k=j):=by
 by_cases h:k=j
 ·subst h;simp
 ·rw[decide_eq_false h];exact decide_eq_false fun z=>h (Kd.wd_inj (V.str.inj z))
end L2
namespace L2
theorem jH {p:Kd->Prop}(a:p .pc)(b:p .pu)(c:p .ho):∀k,p k:=fun k=>by cases k<;>assumption
theorem sE (K:PySem.W.Frag)(t:PySem.Value):PySem.W.kitOne K t t=some true:=by unfold PySem.W.kitOne;rw[if_pos (beq_self_eq_true _)]
def kd3 {α:Type}(a b c:α):Kd->α
 | .pc=>a
 | .pu=>b
 | .ho=>c
end L2
set_option maxHeartbeats 1000000
namespace Mq
def gD (ps:List Q2):Prop:=∀p∈ps,Low p
end Mq
namespace L2
open PySem PySem.Spec PyProof.Rows
section
variable {κ:Type} [DecidableEq κ]
def oG (kvs:List (κ × V))(k:κ):Option V:=(kvs.find? fun kv=>decide (kv.1=k)).map (·.2)
def kW (kvs:List (κ × V))(k:κ)(v:V):List (κ × V):=
 if (kvs.any fun kv=>decide (kv.1=k))=true then kvs.map (fun kv=>if kv.1=k then (kv.1,v) else kv) else kvs++[(k,v)]
theorem nV {p:κ × V}{r:List (κ × V)}{k:κ}(e:p.1=k):oG (p :: r) k=some p.2:=by simp[oG,List.find?_cons,e]
theorem lC {p:κ × V}{r:List (κ × V)}{k:κ}(e:¬p.1=k):oG (p :: r) k=oG r k:=by simp[oG,List.find?_cons,e]
theorem yZ (k:κ):∀kvs:List (κ × V),(kvs.any fun kv=>decide (kv.1=k))=(oG kvs k).isSome
 | []=>rfl
 |p :: r=>by
  rw[List.any_cons]
  by_cases e:p.1=k
  ·simp only[nV e,decide_eq_true e,Bool.true_or,Option.isSome_some]
  ·rw[lC e,decide_eq_false e,Bool.false_or];exact yZ k r
theorem kS (kvs:List (κ × V))(k:κ)(v:V):(kW kvs k v).length<=kvs.length+1:=by
 unfold kW;split
 ·rw[List.length_map];omega
 ·rw[List.length_append,List.length_cons,List.length_nil];omega
theorem kF.isSome_eq {o:Option V}{u:Option Value}(r:kF o u):o.isSome=u.isSome:=by
 cases o with
 |none=>cases u with
  |none=>rfl
  |some _=>exact(show False from r).elim
 |some _=>cases u with
  |none=>exact(show False from r).elim
  |some _=>rfl
theorem kF.getD {o:Option V}{u:Option Value}{d:V}{d':Value}(r:kF o u)(rd:cD d d'):cD (o.getD d) (u.getD d'):=by
 cases o with
 |none=>cases u with
  |none=>exact rd
  |some _=>exact(show False from r).elim
 |some _=>cases u with
  |none=>exact(show False from r).elim
  |some _=>exact r
theorem KV.val {kvs:List (κ × V)}{vs:List (κ × Value)}(r:KV kvs vs)(k:κ):kF (oG kvs k) (valueAt vs k):=by
 unfold KV at r
 induction r with
 |nil=>exact True.intro
 | @cons p q ps qs h t ih=>
  obtain⟨h1,h2⟩:=h
  by_cases e:p.1=k
  ·have e':q.1=k:=h1.symm.trans e;have b:valueAt (q :: qs) k=some q.2:=by simp[valueAt,List.find?_cons,e']
   rw[nV e,b];exact h2
  ·have e':¬q.1=k:=fun z=>e (h1.trans z);have b:valueAt (q :: qs) k=valueAt qs k:=by simp[valueAt,List.find?_cons,e']
   rw[lC e,b];exact ih
theorem KV.any {kvs:List (κ × V)}{vs:List (κ × Value)}(r:KV kvs vs)(k:κ):(kvs.any fun kv=>decide (kv.1=k))=vs.any fun kv=>decide (kv.1=k):=by
 unfold KV at r
 induction r with
 |nil=>rfl
 |cons h t ih=>rw[List.any_cons,List.any_cons,ih,h.1]
theorem KV.repl {kvs:List (κ × V)}{vs:List (κ × Value)}(r:KV kvs vs)(k:κ){y:V}{u:Value}(ry:cD y u) :
  KV (kvs.map fun kv=>if kv.1=k then (kv.1,y) else kv) (vs.map fun kv=>if kv.1=k then (kv.1,u) else kv):=by
 unfold KV at r ⊢
 induction r with
 |nil=>exact .nil
 | @cons p q ps qs h t ih=>
  rw[List.map_cons,List.map_cons];refine .cons ?_ ih;obtain⟨h1,h2⟩:=h
  by_cases e:p.1=k
  ·rw[if_pos e,if_pos (h1.symm.trans e)];exact⟨h1,ry⟩
  ·rw[if_neg e,if_neg (fun z=>e (h1.trans z))];exact⟨h1,h2⟩
theorem KV.put {kvs:List (κ × V)}{vs:List (κ × Value)}(r:KV kvs vs)(k:κ){y:V}{u:Value}(ry:cD y u):KV (kW kvs k y) (stored vs k u):=by
 unfold kW stored;rw[r.any k]
 by_cases e:(vs.any fun kv=>decide (kv.1=k))=true
 ·rw[if_pos e,if_pos e];exact r.repl k ry
 ·rw[if_neg e,if_neg e];exact Paired.snoc r ⟨rfl,ry⟩
theorem KV.length {kvs:List (κ × V)}{vs:List (κ × Value)}(r:KV kvs vs):kvs.length=vs.length:=Paired.length r
end
theorem wY {P:Program}{w:World}{k:Key}{u:Value}(r:cD (kV k) u):(dP P w).is k u=true:=by
 cases k with
 |inl i=>obtain⟨t,e⟩:=(show ∃t,u=Value.int i t from r);subst e;exact zI P w i t
 |inr x=>obtain⟨t,e⟩:=(show ∃t,u=Value.str x t from r);subst e;exact Ar P w x t
theorem vZ {P:Program}{w:World}:∀{ks:List Key} {us:List Value},bY (ks.map kV) us->ItemsAre (dP P w) ks us
 | [],_,r=>by rw[List.map_nil] at r;cases r;exact .nil
 |k :: ks,_,r=>by
  rw[List.map_cons] at r
  cases r with
  |cons h t=>exact .cons (wY h) (vZ t)
abbrev KT (H:Hp):List (List Key × V)->List (List Key × Addr × Value)->Prop:=Paired fun p q=>p.1=q.1/\H q.2.1=some (.tup (p.1.map kV))/\cD p.2 q.2.2
theorem KT.val {H:Hp}{kvs:List (List Key × V)}{xs:List (List Key × Addr × Value)}(r:KT H kvs xs)(k:List Key):kF (oG kvs k) ((atKey xs k).map (·.2)):=by
 induction r with
 |nil=>exact True.intro
 | @cons p q ps qs h t ih=>
  obtain⟨h1,_,h2⟩:=h
  by_cases e:p.1=k
  ·have e':q.1=k:=h1.symm.trans e;have b:atKey (q :: qs) k=some q.2:=by simp[atKey,List.find?_cons,e']
   rw[nV e,b];exact h2
  ·have e':¬q.1=k:=fun z=>e (h1.trans z);have b:atKey (q :: qs) k=atKey qs k:=by simp[atKey,List.find?_cons,e']
   rw[lC e,b];exact ih
theorem KT.repl {H:Hp}{kvs:List (List Key × V)}{xs:List (List Key × Addr × Value)}(r:KT H kvs xs)(k:List Key){y:V}{u:Value}(ry:cD y u) :
  KT H (kvs.map fun kv=>if kv.1=k then (kv.1,y) else kv) (xs.map (putAt k u)):=by
 induction r with
 |nil=>exact .nil
 | @cons p q ps qs h t ih=>
  rw[List.map_cons,List.map_cons];refine .cons ?_ ih;obtain⟨h1,h2,h3⟩:=h;unfold putAt
  by_cases e:p.1=k
  ·rw[if_pos e,if_pos (h1.symm.trans e)];exact⟨h1,h2,ry⟩
  ·rw[if_neg e,if_neg (fun z=>e (h1.trans z))];exact⟨h1,h2,h3⟩
theorem KT.put {H:Hp}{kvs:List (List Key × V)}{xs:List (List Key × Addr × Value)}(r:KT H kvs xs)(k:List Key){b:Addr}{y:V}{u:Value}(hb:H b=some (.tup (k.map kV)))(ry:cD y u) :
  KT H (kW kvs k y) (storedH xs k b u):=by
 have e:(kvs.any fun kv=>decide (kv.1=k))=(atKey xs k).isSome:=by
  rw[yZ,(r.val k).isSome_eq,Option.isSome_map]
 unfold kW storedH;rw[e]
 by_cases q:(atKey xs k).isSome=true
 ·rw[if_pos q,if_pos q];exact r.repl k ry
 ·rw[if_neg q,if_neg q];exact Paired.snoc r ⟨rfl,hb,ry⟩
theorem KT.keeps {H H':Hp}{kvs:List (List Key × V)}{xs:List (List Key × Addr × Value)}(r:KT H kvs xs)(ht:∀b ys,H b=some (.tup ys)->H' b=some (.tup ys)):KT H' kvs xs:=
 Paired.mapP r fun _ _ z=>⟨z.1,ht _ _ z.2.1,z.2.2⟩
section
variable {P:Program} {w:World} {H:Hp} {h:Heap} {a:Addr}
theorem Si {u:HO}(ok:HOk P w H h)(e:Rd H a u):dQ P w H h a u:=e.ok ok
theorem uW {kvs:List (Key × V)}(ok:HOk P w H h)(e:Rd H a (.dK kvs)):kvs.length<=sizeLine/\(a == sysModules)=false/\∃vs,KV kvs vs/\h.DictOf (dP P w) a vs:=
 show dQ P w H h a (.dK kvs) from Si ok e
theorem Rv {kvs:List (Key × V)}(ok:HOk P w H h)(e:H a=some (.dK kvs)):kvs.length<=sizeLine/\(a == sysModules)=false/\∃vs,KV kvs vs/\h.DictOf (dP P w) a vs:=uW ok (.inl e)
theorem sQ {ks:List Key}(ok:HOk P w H h)(e:H a=some (.tup (ks.map kV))):(tupleKind (dP P w)).is h ks a:=by
 obtain⟨_,its,r,o,h1,h2,n,h3⟩:=(show dQ P w H h a (.tup (ks.map kV)) from ok a _ e)
 exact⟨o,its.toArray,n,h1,h2,h3,by simpa using vZ r⟩
theorem vU {kvs:List (List Key × V)}(ok:HOk P w H h)(e:Rd H a (.dT kvs)):kvs.length<=sizeLine/\(a == sysModules)=false/\
  ∃xs,KT H kvs xs/\h.DictOfH (tupleKind (dP P w)) a xs:=by
 obtain⟨z,y,xs,r,o,es,ep,h1,h2,h3,h4,h5⟩:=(show dQ P w H h a (.dT kvs) from Si ok e)
 refine⟨z,y,xs,r,o,es,ep,h1,h2,h3,h4,fun x hx=>?_,h5⟩;have all:∀{l:List (List Key × V)} {m:List (List Key × Addr × Value)},KT H l m->∀x∈m,(tupleKind (dP P w)).is h x.1 x.2.1:=by
  intro l m q
  induction q with
  |nil=>intro x hx;exact nomatch hx
  | @cons p q ps qs hq t ih=>
   intro x hx;rcases List.mem_cons.mp hx with e | hx
   ·subst e;exact sQ ok (by rw[<- hq.1];exact hq.2.1)
   ·exact ih x hx
 exact all r x hx
theorem Ws {kvs:List (List Key × V)}(ok:HOk P w H h)(e:H a=some (.dT kvs)):kvs.length<=sizeLine/\(a == sysModules)=false/\
  ∃xs,KT H kvs xs/\h.DictOfH (tupleKind (dP P w)) a xs:=vU ok (.inl e)
end
def jE (H:Hp)(a:Addr)(y:V)(r:Option V):Prop:=
 (∃kvs k,Rd H a (.dK kvs)/\y=kV k/\r=oG kvs k)\/∃kvs k b,Rd H a (.dT kvs)/\y=.ref b/\H b=some (.tup (k.map kV))/\r=oG kvs k
def Ka (H:Hp)(a:Addr)(y v:V)(H':Hp):Prop:=
 (∃kvs k,H a=some (.dK kvs)/\y=kV k/\kvs.length < sizeLine/\H'=upd H a (.dK (kW kvs k v)))\/
 ∃kvs k b,H a=some (.dT kvs)/\y=.ref b/\H b=some (.tup (k.map kV))/\kvs.length < sizeLine/\H'=upd H a (.dT (kW kvs k v))
theorem jE.k {H:Hp}{a:Addr}{kvs:List (Key × V)}{k:Key}(e:H a=some (.dK kvs)):jE H a (kV k) (oG kvs k):=.inl ⟨kvs,k,.inl e,rfl,rfl⟩
theorem Ka.k {H:Hp}{a:Addr}{kvs:List (Key × V)}{k:Key}{v:V}(e:H a=some (.dK kvs))(hl:kvs.length < sizeLine):Ka H a (kV k) v (upd H a (.dK (kW kvs k v))):=.inl ⟨kvs,k,e,rfl,hl,rfl⟩
section
variable {X:Cx} {pins:List (Addr × Obj)} {σ:St} {H:Hp} {s:Shared} {a:Addr} {y v:V} {u r:Value} {o:Option V} {A:Around} {E:Value->Shared->Prop}
theorem Inv.big (I:Inv X pins σ H s):sysModules < s.heap.objs.size:=by
 have h:mainGlobals < s.heap.objs.size:=(I.mod.glob.keeps I.bk).lt;exact Nat.lt_trans (by decide) h
theorem Ir {Q:Value->Shared->Prop}(hu:A.units+1 < cLine)(I:Inv X pins σ H s)(g:jE H a y (some v))(ry:cD y u)(h:∀w' s',Inv X pins σ H s'->cD v w'->Q w' s') :
  wpAny (model X.prog X.w) A (getItem (.ref a) u) Q E s:=by
 rcases g with ⟨kvs,k,e,ey,l⟩ | ⟨kvs,k,b,e,ey,eb,l⟩
 ·subst ey;obtain⟨z,hd,vs,rel,dd⟩:=uW I.hok e;obtain⟨w',hw,rw'⟩:=kF.some_of (v:=v) (o:=valueAt vs k) (by rw[l];exact rel.val k);exact wpAny_getItem_of (wY ry) dd.mapOf hw (h w' _ (I.tok _) rw')
 ·subst ey
  cases (show u=Value.ref b from ry)
  obtain⟨z,hd,xs,rel,dd⟩:=vU I.hok e;obtain⟨w',hw,rw'⟩:=kF.some_of (v:=v) (o:=(atKey xs k).map (·.2)) (by rw[l];exact rel.val k);obtain⟨p,hp,hp2⟩:=Option.map_eq_some_iff.mp hw;refine wpAny_getItem_heap (tupleKind_room_in1 hu) (sQ I.hok eb) dd hp ?_;rw[hp2];exact h w' _ (I.tok _) rw'
theorem Qz {Q:Value->Shared->Prop}(hu:A.units+1 < cLine)(I:Inv X pins σ H s)(g:jE H a y o)(ry:cD y u)(h:∀s',Inv X pins σ H s'->Q (.bool (!o.isSome)) s') :
  wpAny (model X.prog X.w) A (compareOp .NotIn u (.ref a)) Q E s:=by
 rcases g with ⟨kvs,k,e,ey,l⟩ | ⟨kvs,k,b,e,ey,eb,l⟩
 ·subst ey;obtain⟨z,hd,vs,rel,dd⟩:=uW I.hok e;refine wpAny_notIn_of (wY ry) hd dd.mapOf ?_;rw[<- (rel.val k).isSome_eq,<- l];exact h _ (I.tok _)
 ·subst ey
  cases (show u=Value.ref b from ry)
  obtain⟨z,hd,xs,rel,dd⟩:=vU I.hok e;refine wpAny_notIn_heap (tupleKind_room_in1 hu) (sQ I.hok eb) hd dd ?_;have q:=(rel.val k).isSome_eq;rw[Option.isSome_map] at q;rw[<- q,<- l];exact h _ (I.tok _)
theorem xY {h':Heap}{t':Nat}{ob:HO}(I:Inv X pins σ H s)(mu:Mut (H a))(hs:Heap.SameBut a s.heap h')(he:∃q,h'.get? a=some q)(new:dQ X.prog X.w (upd H a ob) h' a ob) :
  Inv X pins σ (upd H a ob) { s with heap:=h',toks:=t' }:=
 I.write (x:=a) (e:=a) mu (.inl rfl) (fun b q hb z=>(hs.2 b hb).trans z) he new
theorem Kq {P:Program}{w:World}{H':Hp}{h':Heap}{kvs:List (Key × V)}{vs:List (Key × Value)}(z:kvs.length<=sizeLine)(hd:(a == sysModules)=false)(rel:KV kvs vs)(dd:h'.DictOf (dP P w) a vs) :
  dQ P w H' h' a (.dK kvs):=⟨z,hd,vs,rel,dd⟩
theorem Ic {H':Hp}{Q:Unit->Shared->Prop}(hu:A.units+1 < cLine)(I:Inv X pins σ H s)(g:Ka H a y v H')(ry:cD y u)(rv:cD v r)(h:∀s',Inv X pins σ H' s'->Q () s') :
  wpAny (model X.prog X.w) A (setItem (.ref a) u r) Q E s:=by
 rcases g with ⟨kvs,k,e,ey,l,eH⟩ | ⟨kvs,k,b,e,ey,eb,l,eH⟩
 ·subst ey eH;obtain⟨z,hd,vs,rel,dd⟩:=Rv I.hok e;have hz:vs.length<=sizeLine:=by rw[<- rel.length];exact z
  have hl:(kW kvs k v).length<=sizeLine:=by have:=kS kvs k v;omega
  refine wpAny_setItem_pairs (hsz:=hz) (wY ry) dd fun h' dd' hs=>h _ ?_;have he:∃q,h'.get? a=some q:=let ⟨q,_,_,hq,_⟩:=dd';⟨q,hq⟩
  exact xY I (by rw[e];exact True.intro) hs he (Kq hl hd (rel.put k rv) dd')
 ·subst ey eH
  cases (show u=Value.ref b from ry)
  obtain⟨z,hd,xs,rel,dd⟩:=Ws I.hok e;have hz:xs.length<=sizeLine:=by rw[<- Paired.length rel];exact z
  have hl:(kW kvs k v).length<=sizeLine:=by have:=kS kvs k v;omega
  refine wpAny_setItem_heap (hsz:=hz) (tupleKind_room_in1 hu) (sQ I.hok eb) dd fun h' dd' hs=>h _ ?_;obtain⟨q,es,ep,hq,h2,h3,h4,_,h5⟩:=dd';refine xY I (by rw[e];exact True.intro) hs ⟨q,hq⟩ ⟨hl,hd,_,(rel.put k eb rv).keeps fun c ys ec=>?_,q,es,ep,hq,h2,h3,h4,h5⟩;rw[bC (iN ec e (fun z=>nomatch z))];exact ec
end
def Xk (i:Expr):Prop:=∀ov iv,subscripted i false ov iv=operate [ov,iv] (getItem ov iv)
theorem Pm {prog:Program}{w:World}{A:Around}{E:Value->Shared->Prop}{s:Shared}{env:Env}{value slice:Expr}{pos:Pos}{T id:String}{Q:Value->Shared->Prop}(hl:typeLookup (.type T) "__getitem__"=pure (some (.builtin id)))(hs:Xk slice)(h:wpAny (model prog w) A (eval value env) (fun o s₁=>wpAny (model prog w) A (eval slice env) (fun i s₂=>s₂.TypeIs o T/\wpAny (model prog w) A (getItem o i) Q E s₂) E s₁) E s) :
  wpAny (model prog w) A (eval (.Subscript value slice pos) env) Q E s:=by
 refine Subscript_ (wpAny_mono h (fun o s₁ h₁=>wpAny_mono h₁ (fun i s₂ h₂=>?_) fun _ _ x=>x) fun _ _ x=>x);obtain⟨hT,h₂⟩:=h₂;unfold subscriptTail;refine wpAny_bind ?_;rw[getitemInPython_of_ne hT.not_modules];refine wpAny_bind (wpAny_specialOf hT hl ?_);have fin:wpAny (model prog w) A (subscripted slice false o i) (fun r s₃=>wpAny (model prog w) A (letTemporaryGo value o r >>= fun _=>pure r) Q E s₃) E s₂:=by
  rw[hs o i];exact wpAny_operating (wpAny_mono h₂ (fun r s₃ h₃=>wpAny_bind (wpAny_letTemporaryGo (wpAny_pure h₃))) fun _ _ x=>x)
 first
  |exact wpAny_pure (wpAny_bind fin)
  |exact wpAny_bind (wpAny_pure (wpAny_bind fin))
  |exact wpAny_bind fin
theorem Aa {X:Cx}{pins:List (Addr × Obj)}{σ:St}{H:Hp}{s:Shared}{a:Addr}{y:V}{o:Option V}(I:Inv X pins σ H s)(g:jE H a y o):s.TypeIs (.ref a) "dict":=by
 rcases g with ⟨kvs,k,e,_,_⟩ | ⟨kvs,k,b,e,_,_,_⟩
 ·obtain⟨_,_,vs,_,dd⟩:=uW I.hok e;exact dd.typeIs
 ·obtain⟨_,_,xs,_,dd⟩:=vU I.hok e;exact dd.typeIs
def Wu (td ty:TE):TE:=fun σ H Q=>td σ H fun x H1=>ty σ H1 fun y H2=>∃a v,x=.ref a/\jE H2 a y (some v)/\Q v H2
def Qf (ty td:TE):TE:=fun σ H Q=>ty σ H fun y H1=>td σ H1 fun x H2=>∃a o,x=.ref a/\jE H2 a y o/\Q (.bl (!o.isSome)) H2
def We (td ty tv:TE):TS:=fun D σ H=>tv σ H fun v H1=>td σ H1 fun x H2=>ty σ H2 fun y H3=>∃a H4,x=.ref a/\Ka H3 a y v H4/\D.nx σ H4
section
variable {X:Cx} {o i e value:Expr} {pos pos' tpos:Pos} {td ty tv:TE}
theorem rJ (hu:X.A.units+1 < cLine)(ho:PE X o td)(hi:PE X i ty)(hs:Xk i):PE X (.Subscript o i pos) (Wu td ty):=by
 intro pins s σ H Q I h;refine Pm PySem.F.slot_dict_getitem.lookup hs (thn (ho pins s σ H _ I h) fun u s1 ⟨x,H1,I1,rx,q1⟩=>thn (hi pins s1 σ H1 _ I1 q1) fun iv s2 ⟨y,H2,I2,ry,a,v,ex,g,q2⟩=>?_);subst ex;obtain rfl:u=Value.ref a:=rx;exact⟨Aa I2 g,Ir hu I2 g ry fun w' s3 I3 rw'=>⟨v,H2,I3,rw',q2⟩⟩
theorem Gw (hu:X.A.units+1 < cLine)(hi:PE X i ty)(ho:PE X o td):PC X .NotIn i o (Qf ty td):=by
 intro pins s σ H Q I h;refine thn (hi pins s σ H _ I h) fun iv s1 ⟨y,H1,I1,ry,q1⟩=>thn (ho pins s1 σ H1 _ I1 q1) fun u s2 ⟨x,H2,I2,rx,a,ov,ex,g,q2⟩=>?_;subst ex;obtain rfl:u=Value.ref a:=rx;exact Qz hu I2 g ry fun s3 I3=>⟨.bl (!ov.isSome),H2,I3,rfl,q2⟩
theorem Pa (hu:X.A.units+1 < cLine)(ho:PE X o td)(hi:PE X i ty)(hv:PE X value tv)(hs:swapsWith value (some (.Subscript o i pos')) pos.line X.env=pure false) :
  PS X (.Assign [.Subscript o i pos'] value pos) (We td ty tv):=by
 intro pins s σ H D I h;refine wpAny_Assign_Subscript (thn (hv pins s σ H _ I h) fun r s1 ⟨v,H1,I1,rv,q1⟩=>thn (ho pins s1 σ H1 _ I1 q1) fun u s2 ⟨x,H2,I2,rx,q2⟩=>thn (hi pins s2 σ H2 _ I2 q2) fun iv s3 ⟨y,H3,I3,ry,a,H4,ex,g,q3⟩=>?_) hs;subst ex;obtain rfl:u=Value.ref a:=rx;exact Ic hu I3 g ry rv fun s4 I4=>⟨σ,H4,I4,q3⟩
end
theorem Kn {P:Program}{w:World}{H:Hp}(h:Heap)(hb:sysModules < h.objs.size):dQ P w H (h.push { cls:=.type "dict",data:=.dict #[] }) h.objs.size (.dK []):=
 ⟨Nat.zero_le _,beq_eq_false_iff_ne.mpr (Ne.symm (Nat.ne_of_lt hb)),[],.nil,Heap.DictOf.new h⟩
def Bq:List (TE × TE)->St->Hp->(List (V × V)->Hp->Prop)->Prop
 | [],_,H,Q=>Q [] H
 | (tk,tv) :: r,σ,H,Q=>tk σ H fun x H1=>tv σ H1 fun y H2=>Bq r σ H2 fun ps H3=>Q ((x,y) :: ps) H3
abbrev VV:List (V × V)->List (Value × Value)->Prop:=Paired fun p q=>cD p.1 q.1/\cD p.2 q.2
def PPs (X:Cx)(pos:Pos)(keys:List (Option Expr))(values:List Expr)(trs:List (TE × TE)):Prop:=
 ∀(pins:List (Addr × Obj)) (s:Shared) (σ:St) (H:Hp) (Q:List (V × V)->Hp->Prop),Inv X pins σ H s->Bq trs σ H Q->
  wpAny (model X.prog X.w) X.A (evalPairs (pairTrees keys values X.env pos)) (fun vs s'=>∃ps H',Inv X pins σ H' s'/\VV ps vs/\Q ps H') X.xe s
theorem Fj {X:Cx}{pos:Pos}:PPs X pos [] [] []:=fun pins s σ H Q I h=>pairTrees_nil_walk ⟨[],H,I,.nil,h⟩
theorem lD {X:Cx}{pos:Pos}{k v:Expr}{ks:List (Option Expr)}{vs:List Expr}{tk tv:TE}{trs:List (TE × TE)}(hk:PE X k tk)(hv:PE X v tv)(hr:PPs X pos ks vs trs) :
  PPs X pos (some k :: ks) (v :: vs) ((tk,tv) :: trs):=fun pins s σ H Q I h=>
 pairTrees_cons_walk (thn (hk pins s σ H _ I h) fun u s1 ⟨x,H1,I1,rx,q1⟩=>thn (hv pins s1 σ H1 _ I1 q1) fun w2 s2 ⟨y,H2,I2,ry,q2⟩=>
  thn (hr pins s2 σ H2 _ I2 q2) fun ws s3 ⟨ps,H3,I3,rel,q3⟩=>⟨(x,y) :: ps,H3,I3,.cons ⟨rx,ry⟩ rel,q3⟩)
def iX (kvs more:List (Key × V)):List (Key × V):=more.foldl (fun acc kv=>kW acc kv.1 kv.2) kvs
theorem KV.merge:∀{more:List (Key × V)} {rs:List (Key × Value)} {kvs:List (Key × V)} {vs:List (Key × Value)},KV more rs->KV kvs vs->KV (iX kvs more) (merged vs rs):=by
 intro more rs kvs vs r;unfold KV at r
 induction r generalizing kvs vs with
 |nil=>intro q;exact q
 | @cons p q ps qs h t ih=>
  intro r0;have e:KV (kW kvs p.1 p.2) (stored vs q.1 q.2):=by
   have:=r0.put p.1 h.2;rw[<- h.1];exact this
  exact ih e
theorem mQ:∀(more kvs:List (Key × V)),(iX kvs more).length<=kvs.length+more.length
 | [],kvs=>by show kvs.length<=kvs.length+0;omega
 |p :: r,kvs=>by
  have h1:=mQ r (kW kvs p.1 p.2);have h2:=kS kvs p.1 p.2;show (iX (kW kvs p.1 p.2) r).length<=_;rw[List.length_cons];omega
theorem tN {P:Program}{w:World}:∀{kvs:List (Key × V)} {ws:List (Value × Value)},VV (kvs.map fun kv=>(kV kv.1,kv.2)) ws->∃rs,Carries (dP P w) ws rs/\KV kvs rs
 | [],_,r=>by rw[List.map_nil] at r;cases r;exact⟨[],True.intro,.nil⟩
 |p :: kvs,_,r=>by
  rw[List.map_cons] at r
  cases r with
  | @cons a b as bs h t=>
   obtain⟨rs,c,q⟩:=tN (P:=P) (w:=w) t;obtain⟨b1,b2⟩:=b;exact⟨(p.1,b2) :: rs,⟨wY h.1,rfl,c⟩,.cons ⟨rfl,h.2⟩ q⟩
def Xo (trs:List (TE × TE)):TE:=fun σ H Q=>∀p,H p=none->Bq trs σ (upd H p (.dK [])) fun ps H2=>H2 p=some (.dK [])/\∃kvs:List (Key × V),ps=kvs.map (fun kv=>(kV kv.1,kv.2))/\kvs.length<=15/\Q (.ref p) (upd H2 p (.dK (iX [] kvs)))
theorem Ei {X:Cx}{pos:Pos}{keys:List (Option Expr)}{values:List Expr}{trs:List (TE × TE)}(h:PPs X pos keys values trs)(hall:keys.all (·.isSome)=true)(hl:keys.length=values.length)(h0:keys≠[])(h15:keys.length<=15):PE X (.Dict keys values pos) (Xo trs):=by
 intro pins s σ H Q I q;have hn:=I.hok.fresh (Nat.le_refl s.heap.objs.size);have I1:=I.laid (a:=s.heap.objs.size) (o:=.dK []) (h':=s.heap.push { cls:=.type "dict",data:=.dict #[] }) (t':=s.toks) (fun _ _ q=>Heap.get?_push_of_some _ q) (Nat.le_refl _) (Kn s.heap I.big);refine wpAny_Dict_walk (knd:=dP X.prog X.w) hall hl h0 h15 (thn (h pins _ σ _ _ I1 (q _ hn)) fun ws s2 ⟨ps,H2,I2,rel,e,kvs,ep,lk,q2⟩=>?_);subst ep;obtain⟨rs,c,rk⟩:=tN (P:=X.prog) (w:=X.w) rel;obtain⟨z,hd,vs0,r0,dd⟩:=Rv I2.hok e
 cases r0
 refine⟨rs,c,dd,fun h' dd' hs=>⟨.ref s.heap.objs.size,_,?_,rfl,q2⟩⟩;have hz:(iX [] kvs).length<=sizeLine:=by
  have h1:=mQ kvs [];rw[List.length_nil] at h1;rw[sizeLine_eq];omega
 have he:∃q,h'.get? s.heap.objs.size=some q:=let ⟨q,_,_,hq,_⟩:=dd';⟨q,hq⟩
 exact xY I2 (by rw[e];exact True.intro) hs he (Kq hz hd (rk.merge .nil) dd')
structure M1 (X:Cx) (o:Expr) (m:Str) (apos:Pos) (e:Expr) (cpos:Pos):Prop where
 base:attributeBase o m X.env (eval o X.env)=eval o X.env
 few:((backTo cpos (starEach [e] X.env)).all (fun x=>!x.1) && (backToKw cpos (keywordEach [] X.env)).all (fun x=>x.1.isSome)
  && decide (([e]:List Expr).length+([]:List Keyword).length+(if ([]:List Keyword).isEmpty then 0 else 1) < 30))=true
 line:(apos.endLine == cpos.line)=true
 trees:backTo cpos (starEach [e] X.env)=[(false,eval e X.env)]
def IsD (H:Hp)(a:Addr):Prop:=(∃kvs,Rd H a (.dK kvs))\/∃kvs,Rd H a (.dT kvs)
theorem Ua {X:Cx}{pins:List (Addr × Obj)}{σ:St}{H:Hp}{s:Shared}{a:Addr}(I:Inv X pins σ H s)(d:IsD H a) :
  s.TypeIs (.ref a) "dict"/\(∀b,Value.ref a=.ref b->∃ob,s.heap.get? b=some ob/\ob.dict=none)/\(a == sysModules)=false:=by
 rcases d with ⟨kvs,e⟩ | ⟨kvs,e⟩
 ·obtain⟨_,hd,vs,_,dd⟩:=uW I.hok e;refine⟨dd.typeIs,fun b q=>?_,hd⟩
  cases q
  obtain⟨ob,_,_,h1,h2,_⟩:=dd;exact⟨ob,h1,h2.2.1⟩
 ·obtain⟨_,hd,xs,_,dd⟩:=vU I.hok e;refine⟨dd.typeIs,fun b q=>?_,hd⟩
  cases q
  obtain⟨ob,_,_,h1,h2,_⟩:=dd;exact⟨ob,h1,h2.2.1⟩
section
variable {X:Cx} {pins:List (Addr × Obj)} {σ:St} {H:Hp} {s:Shared} {a:Addr} {y d:V} {u r:Value} {o:Option V} {A:Around} {E:Value->Shared->Prop}
theorem Tn {Q:Value->Shared->Prop}(hu:A.units+1 < cLine)(I:Inv X pins σ H s)(g:jE H a y o)(ry:cD y u)(h:∀w' s',Inv X pins σ H s'->cD (o.getD .non) w'->Q w' s') :
  wpAny (model X.prog X.w) A (call (.builtin "dict.get") [.ref a,u]) Q E s:=by
 rcases g with ⟨kvs,k,e,ey,l⟩ | ⟨kvs,k,b,e,ey,eb,l⟩
 ·subst ey;obtain⟨z,hd,vs,rel,dd⟩:=uW I.hok e;refine call_meetsIn PySem.F.slot_dict_get dd.typeIs PySem.F.entry_dict_get (PySem.F.args_dict_get_2 _ _) (meets_dict_get (dP X.prog X.w) a (wY ry) hd) ⟨_,dd.mapOf,h _ _ (I.tok _) ?_⟩;rw[l];exact(rel.val k).getD rfl
 ·subst ey
  cases (show u=Value.ref b from ry)
  obtain⟨z,hd,xs,rel,dd⟩:=vU I.hok e;refine call_meetsIn PySem.F.slot_dict_get dd.typeIs PySem.F.entry_dict_get (PySem.F.args_dict_get_2 _ _) (meetsH_dict_get (tupleKind (dP X.prog X.w)) a b hd) ⟨tupleKind_room_in1 hu,k,xs,sQ I.hok eb,dd,h _ _ (I.tok _) ?_⟩;rw[l];exact(rel.val k).getD rfl
end
def Vb (td ty:TE):TE:=fun σ H Q=>td σ H fun x H1=>∃a,x=.ref a/\IsD H1 a/\ty σ H1 fun y H2=>∃o,jE H2 a y o/\Q (o.getD .non) H2
section
variable {X:Cx} {o e f:Expr} {apos cpos:Pos} {td ty tx:TE}
theorem Jj (hu:X.A.units+1 < cLine)(ho:PE X o td)(he:PE X e ty)(m:M1 X o "get" apos e cpos):PE X (.Call (.Attribute o "get" apos) [e] [] cpos) (Vb td ty):=by
 intro pins s σ H Q I h;refine wpAny_Call_method m.base m.few m.line PySem.F.plainAttrs_dict PySem.F.slot_dict_get PySem.F.type_dict_get (thn (ho pins s σ H _ I h) fun u s1 ⟨x,H1,I1,rx,a,ex,d,q1⟩=>?_);subst ex;obtain rfl:u=Value.ref a:=rx;obtain⟨t1,t2,_⟩:=Ua I1 d;refine⟨t1,t2,?_⟩;rw[m.trees];refine Calls.callWith_builtin rfl (Calls.evalArgs_plain (Calls.spliced_cons (thn (he pins s1 σ H1 _ I1 q1) fun iv s2 ⟨y,H2,I2,ry,ov,g,q2⟩=>Calls.spliced_nil ?_)));exact Tn hu I2 g ry fun w' s3 I3 rw'=>⟨_,H2,I3,rw',q2⟩
end
end L2
set_option maxHeartbeats 2000000
namespace L2
open PySem PySem.Spec PyProof.Rows
theorem Fq.mod {K:PySem.W.Frag}{a:Addr}{d:Option Addr}{n:Nat}{sl:Array (Option Value)}{i j:Int}{t u:Tok}(l:K.lookup a=some ⟨.type "tuple",d,.seq #[.int i t,.int j u] n,sl⟩)(H:Hp):Fq K H a (i,j):=
 .inr ⟨_,_,_,l,rfl,rfl,(by show 2<=sizeLine;decide),.cons ⟨_,rfl⟩ (.cons ⟨_,rfl⟩ .nil)⟩
abbrev RD:=Kd × Int × Int × Mq.Q2
inductive Rts (K:PySem.W.Frag) (H:Hp):List V->List RD->Prop where
 |nil:Rts K H [] []
 |cons {t z:Addr} {k:Kd} {i j:Int} {p:Mq.Q2} {xs:List V} {ds:List RD} (h:SqT K H t [.str k.wd,.int i,.int j,.ref z]) (f:Fq K H z p) (q:Rts K H xs ds):Rts K H (.ref t :: xs) ((k,i,j,p) :: ds)
section
variable {K:PySem.W.Frag} {H H':Hp}
theorem Rts.same (e:bG H H'):∀{xs:List V} {ds:List RD},Rts K H xs ds->Rts K H' xs ds
 |_,_,.nil=>.nil
 |_,_,.cons h f q=>.cons (e.seqT h) (e.fq f) (Rts.same e q)
theorem Rts.length:∀{xs:List V} {ds:List RD},Rts K H xs ds->xs.length=ds.length
 |_,_,.nil=>rfl
 |_,_,.cons _ _ q=>by simp[Rts.length q]
theorem Rts.app:∀{xs ys:List V} {ds es:List RD},Rts K H xs ds->Rts K H ys es->Rts K H (xs++ys) (ds++es)
 |_,_,_,_,.nil,r=>r
 |_,_,_,_,.cons h f q,r=>.cons h f (Rts.app q r)
theorem Rts.at:∀{xs:List V} {ds:List RD} {q:Nat} {d:RD},Rts K H xs ds->ds[q]?=some d->∃t z,xs[q]?=some (.ref t)/\SqT K H t [.str d.1.wd,.int d.2.1,.int d.2.2.1,.ref z]/\Fq K H z d.2.2.2
 |_,_,_,_,.nil,h=>by simp at h
 |_,_,0,_,.cons h f _,e=>by simp at e;subst e;exact⟨_,_,rfl,h,f⟩
 |_,_,i+1,_,.cons _ _ q,e=>by simpa using Rts.at q (by simpa using e)
theorem Rts.set {t z:Addr}{k:Kd}{i j:Int}{p:Mq.Q2}(h:SqT K H t [.str k.wd,.int i,.int j,.ref z])(f:Fq K H z p):∀{xs:List V} {ds:List RD} (q:Nat),Rts K H xs ds->Rts K H (xs.set q (.ref t)) (ds.set q (k,i,j,p))
 |_,_,_,.nil=>.nil
 |_,_,0,.cons _ _ q=>.cons h f q
 |_,_,n+1,.cons a b q=>.cons a b (Rts.set h f n q)
theorem Rts.upd {l:Addr}{ys:List V}{o:HO}(hl:H l=some (.lst ys)):∀{xs:List V} {ds:List RD},Rts K H xs ds->Rts K (L2.upd H l o) xs ds
 |_,_,.nil=>.nil
 |_,_,.cons h f q=>.cons (h.upd hl) (f.upd hl) (Rts.upd hl q)
def rdd (d:RD):PyData:=rd4 d.1.wd d.2.1 d.2.2.1 d.2.2.2
theorem Rts.dat:∀{xs:List V} {ds:List RD},Rts K H xs ds->qT K H xs (ds.map rdd)
 |_,_,.nil=>.nil
 |_,_,.cons h f q=>.cons (Oq h f) (Rts.dat q)
theorem Ah:∀ds:List RD,PyData.canLayAll0 (ds.map rdd)=true
 | []=>rfl
 |d :: r=>by
  show ((rdd d).canLay0 && PyData.canLayAll0 (r.map rdd))=true;rw[Ah r,show (rdd d).canLay0=true from Qo (Kd.lay _) _ _ _];rfl
theorem tZ:∀ds:List RD,PyData.depthAll (ds.map rdd)<=3
 | []=>by simp[PyData.depthAll]
 |d :: r=>by
  have b:=tZ r;have a:(rdd d).depth<=3:=by simp[rdd,rd4,qd,PyData.depth,PyData.depthAll]
  simp only[List.map_cons,PyData.depthAll];omega
theorem Us {a b:Addr}{xs ys:List V}{ds:List RD}{neg:Bool}{Q:VK}(h1:SqL K H a xs)(h2:SqL K H b ys)(f1:Rts K H xs ds)(f2:Rts K H ys ds)(z:Q (.bl (!neg)) H):zB K neg (.ref a) (.ref b) H Q:=
 Vd (d:=.list (ds.map rdd)) (.lst h1 f1.dat) (.lst h2 f2.dat) (Ah ds) (by have:=tZ ds;simp only[PyData.depth];omega) z
end
def dF (l:Addr)(H H':Hp):Prop:=∀b o,H b=some o->b≠l->H' b=some o
theorem bG.x {l:Addr}{H H':Hp}(s:bG H H'):dF l H H':=fun b o h _=>s b o h
theorem dF.write {l:Addr}{H H1:Hp}{o:HO}(a:dF l H H1):dF l H (upd H1 l o):=fun c u h n=>by rw[bC n];exact a c u h n
section
variable {K:PySem.W.Frag} {H H':Hp} {l:Addr}
theorem dF.seqT {a:Addr}{xs ys:List V}(hl:H l=some (.lst ys))(e:dF l H H')(h:SqT K H a xs):SqT K H' a xs:=by
 rcases h with (h | ⟨u,h⟩) | h
 ·exact .inl (.inl (e _ _ h (iN h hl (fun z=>by cases z))))
 ·exact .inl (.inr ⟨u,e _ _ h (iN h hl (fun z=>by cases z))⟩)
 ·exact .inr h
theorem dF.rts {ys:List V}(hl:H l=some (.lst ys))(e:dF l H H'):∀{xs:List V} {ds:List RD},Rts K H xs ds->Rts K H' xs ds
 |_,_,.nil=>.nil
 |_,_,.cons h f q=>.cons (e.seqT hl h) (e.seqT hl f) (dF.rts hl e q)
end
theorem fpk:¬(("point_count":Str) = "kept"):=by decide +kernel
def oI (m:Int)(l:Addr):List (Str × V):=iI "kept" (.ref l) (iI "point_count" (.int m) [])
theorem Ag (m:Int)(l:Addr):(oI m l).lookup ("point_count":Str)=some (.int m):=by
 unfold oI;rw[cB,if_neg fpk,cB,if_pos rfl]
theorem fB (m:Int)(l:Addr):(oI m l).lookup ("kept":Str)=some (.ref l):=by
 unfold oI;rw[cB,if_pos rfl]
theorem dM (m:Int)(l:Addr){x:Str}(h1:¬x = "point_count")(h2:¬x = "kept"):(oI m l).lookup x=none:=by
 unfold oI;rw[cB,if_neg h2,cB,if_neg h1];rfl
def Hg (m:Int)(d:RD):Prop:=0<=d.2.1/\d.2.1 < m/\0<=d.2.2.1/\d.2.2.1 < m/\Mq.Low d.2.2.2/\(d.1=.pc->0 < d.2.2.2.1)/\Mq.Bd 1000 d.2.2.2
structure eJ (CN:Addr) (K:PySem.W.Frag) (H:Hp) (n l:Addr) (m:Int) (ds:List RD):Prop where
 ob:∃dx,H n=some (.ins CN dx (oI m l))
 ls:∃ts,H l=some (.lst ts)/\Rts K H ts ds
theorem eJ.same {CN:Addr}{K:PySem.W.Frag}{H H':Hp}{n l:Addr}{m:Int}{ds:List RD}(e:bG H H')(h:eJ CN K H n l m ds):eJ CN K H' n l m ds:=
 let ⟨⟨dx,a⟩,ts,b,c⟩:=h;⟨⟨dx,e _ _ a⟩,ts,e _ _ b,c.same e⟩
theorem eJ.x {CN:Addr}{K:PySem.W.Frag}{H H':Hp}{n l q:Addr}{m:Int}{ds:List RD}{ys:List V}(hq:H q=some (.lst ys))(e:dF q H H')(ne:l≠q)(h:eJ CN K H n l m ds):eJ CN K H' n l m ds:=
 let ⟨⟨dx,a⟩,ts,b,c⟩:=h;⟨⟨dx,e _ _ a (iN a hq (fun z=>by cases z))⟩,ts,e _ _ b ne,e.rts hq c⟩
structure NT (K:PySem.W.Frag) (mg:Str->Option Value) (CN:Addr):Prop where
 cl:Cls K CN
 nP:iG K CN "point_count"
 nK:iG K CN "kept"
 t1:PySem.W.findIn K (.ref CN) "__class__"=some (some (.builtin "object.__class__"))
 t2:PySem.W.specialIn K (.builtin "object.__class__") "__get__"=some (some (.builtin "getset_descriptor.__get__"))
 t3:PySem.W.takesIn K (.builtin "object.__class__")=some true
 t4:PySem.W.mroIn K CN (.type "object")=some true
 mN:mg "Net"=some (.ref CN)
def tD (K:PySem.W.Frag)(CK:Kd->Addr):Sp:=fun vs H Q _=>∃(t:Addr) (v s g z:V),vs=[.ref t]/\SqT K H t [v,s,g,z]/\∃k:Kd,v=.str k.wd/\Yl CK H Q k s g z
def Kj (K:PySem.W.Frag):Sp:=fun vs H Q _=>∃(a:Addr) (p:Mq.Q2),vs=[.ref a]/\Fq K H a p/\Mq.Low p/\Q (.bl true) H
def Xp (K:PySem.W.Frag):Sp:=fun vs H Q _=>∃(a:Addr) (p:Mq.Q2) (n:Nat),vs=[.ref a]/\Fq K H a p/\Mq.Low p/\0 < p.1/\Mq.Bd n p/\n<=8000/\Q (.bl true) H
def Uo:Sp:=fun vs H Q _=>∃i b:Int,vs=[.int i,.int b]/\0<=i/\i < b/\Q (.bl true) H
def Uz (K:PySem.W.Frag):Sp:=fun vs H Q _=>∃(k:Kd) (z:Addr) (p:Mq.Q2),vs=[.str k.wd,.ref z]/\Fq K H z p/\Mq.Low p/\(k=.pc->0 < p.1)/\Mq.Bd 1000 p/\Q .non H
def Ep (CN:Addr):Sp:=fun vs H Q _=>∃(n dx:Addr) (m:Int),vs=[.ref n,.int m]/\H n=some (.ins CN dx [])/\1<=m/\m<=20/\∀l H',H l=none->(∀b o,H b=some o->b≠n->H' b=some o)->H' n=some (.ins CN dx (oI m l))->H' l=some (.lst [])->Q .non H'
def sV (CN:Addr)(K:PySem.W.Frag):Sp:=fun vs H Q _=>∃(n l:Addr) (m:Int) (ds:List RD),vs=[.ref n]/\eJ CN K H n l m ds/\Q (.int m) H
def Dz (CN:Addr)(K:PySem.W.Frag):Sp:=fun vs H Q _=>∃(n l:Addr) (m:Int) (ds:List RD),vs=[.ref n]/\eJ CN K H n l m ds/\Q (.int ds.length) H
def Ed (CN:Addr)(K:PySem.W.Frag):Sp:=fun vs H Q _=>∃(n l:Addr) (m:Int) (ds:List RD),vs=[.ref n]/\eJ CN K H n l m ds/\∀a ts H',bG H H'->H a=none->H' a=some (.lst ts)->Rts K H' ts ds->Q (.ref a) H'
def Sj (CN:Addr)(K:PySem.W.Frag)(CK:Kd->Addr):Sp:=fun vs H Q _=>∃(n l x z:Addr) (m:Int) (ds:List RD) (k:Kd) (i j:Int) (p:Mq.Q2),vs=[.ref n,.ref x]/\eJ CN K H n l m ds/\Rw CK H x k (.int i) (.int j) (.ref z)/\Fq K H z p/\Hg m (k,i,j,p)/\ds.length < 40/\
 ∀H',dF l H H'->eJ CN K H' n l m (ds++[(k,i,j,p)])->Q (.int ds.length) H'
def tW (CN:Addr)(K:PySem.W.Frag):Sp:=fun vs H Q _=>∃(n l z:Addr) (m q:Int) (ds:List RD) (k:Kd) (i j:Int) (p0 p:Mq.Q2),vs=[.ref n,.int q,.ref z]/\eJ CN K H n l m ds/\0<=q/\ds[q.toNat]?=some (k,i,j,p0)/\Fq K H z p/\Mq.Low p/\(k=.pc->0 < p.1)/\Mq.Bd 1000 p/\
 ∀H',dF l H H'->eJ CN K H' n l m (ds.set q.toNat (k,i,j,p))->Q .non H'
theorem Cd {a1 u:TS}{D:mF}{σ:St}{H:Hp}(P:St->Hp->Prop)(h1:∀X:St->Hp->Prop,(∀σ' H',P σ' H'->X σ' H')->(a1) { D with nx:=X } σ H)(h2:∀σ' H',P σ' H'->u D σ' H'):(iW a1 (u)) D σ H:=h1 _ h2
theorem Xl {a1 a2 u:TS}{D:mF}{σ:St}{H:Hp}(P:St->Hp->Prop)(h1:∀X:St->Hp->Prop,(∀σ' H',P σ' H'->X σ' H')->(iW a1 (a2)) { D with nx:=X } σ H)(h2:∀σ' H',P σ' H'->u D σ' H'):(iW a1 (iW a2 (u))) D σ H:=h1 _ h2
theorem Yi {a1 a2 a3 u:TS}{D:mF}{σ:St}{H:Hp}(P:St->Hp->Prop)(h1:∀X:St->Hp->Prop,(∀σ' H',P σ' H'->X σ' H')->(iW a1 (iW a2 (a3))) { D with nx:=X } σ H)(h2:∀σ' H',P σ' H'->u D σ' H'):(iW a1 (iW a2 (iW a3 (u)))) D σ H:=h1 _ h2
theorem Yd {a1 a2 a3 a4 u:TS}{D:mF}{σ:St}{H:Hp}(P:St->Hp->Prop)(h1:∀X:St->Hp->Prop,(∀σ' H',P σ' H'->X σ' H')->(iW a1 (iW a2 (iW a3 (a4)))) { D with nx:=X } σ H)(h2:∀σ' H',P σ' H'->u D σ' H'):(iW a1 (iW a2 (iW a3 (iW a4 (u))))) D σ H:=h1 _ h2
end L2
namespace Mq
def val (p:Q2):Rat:=(p.1:Rat) / (p.2:Rat)
theorem dW {b:Int}(h:b≠0):(b:Rat)≠0:=fun e=>h (Rat.intCast_inj.mp (by simpa using e))
theorem Bb {p:Q2}{t b:Int}(hp:p.2≠0)(hb:b≠0)(h:p.1*b=t*p.2):val p=(t:Rat) / (b:Rat):=by
 unfold val;have h1:=dW hp;have h2:=dW hb;have h3:(p.1:Rat)*(b:Rat)=(t:Rat)*(p.2:Rat):=by rw[<- Rat.intCast_mul,<- Rat.intCast_mul,h]
 grind
theorem lV {t b:Int}(hb:b≠0):val (red t b)=(t:Rat) / (b:Rat):=by
 have:=(gU (t:=t) hb).pos;exact Bb (by omega) hb (wF hb)
theorem oJ {p q:Q2}(hp:Low p)(hq:Low q)(h:val p=val q):p=q:=by
 refine Jz hp hq ?_;have p1:=dW (show p.2≠0 by have:=hp.pos;omega);have q1:=dW (show q.2≠0 by have:=hq.pos;omega);unfold val at h;have:(p.1:Rat)*(q.2:Rat)=(q.1:Rat)*(p.2:Rat):=by grind
 rw[<- Rat.intCast_mul,<- Rat.intCast_mul] at this;exact Rat.intCast_inj.mp this
theorem tF {p q:Q2}(hp:1<=p.2)(hq:1<=q.2):val (plus p q)=val p+val q:=by
 have p1:=dW (show p.2≠0 by omega);have q1:=dW (show q.2≠0 by omega);unfold plus;rw[lV (jB hp hq),Rat.intCast_add,Rat.intCast_mul,Rat.intCast_mul,Rat.intCast_mul];unfold val;grind
theorem mC {p q:Q2}(hp:1<=p.2)(hq:1<=q.2):val (minus p q)=val p - val q:=by
 have p1:=dW (show p.2≠0 by omega);have q1:=dW (show q.2≠0 by omega);unfold minus;rw[lV (jB hp hq),Rat.intCast_sub,Rat.intCast_mul,Rat.intCast_mul,Rat.intCast_mul];unfold val;grind
theorem An {p q:Q2}(hp:1<=p.2)(hq:1<=q.2)(h0:q.1≠0):val (mI p q)=val p / val q:=by
 have p1:=dW (show p.2≠0 by omega);have q1:=dW (show q.2≠0 by omega);have q2:=dW h0;unfold mI;rw[lV (nU hp h0),Rat.intCast_mul,Rat.intCast_mul];unfold val;grind
theorem kM:val (0,1)=0:=by unfold val;simp;grind
theorem rX:val (1,1)=1:=by unfold val;simp;grind
theorem Fc {t b:Int}(ht:0 < t)(hb:0 < b):0 < (red t b).1:=by
 have h1:=wF (t:=t) (b:=b) (by omega);have h2:=(gU (t:=t) (b:=b) (by omega)).pos;have h3:0 < t*(red t b).2:=Int.mul_pos ht (by omega);rw[<- h1] at h3;exact Int.pos_of_mul_pos_left h3 (by omega)
def rs (n:Nat)(F:Nat->Rat):Rat:=match n with
 |0=>0
 |n+1=>rs n F+F n
theorem aK {n:Nat}{F G:Nat->Rat}(h:∀i,i < n->F i=G i):rs n F=rs n G:=by
 induction n with
 |zero=>rfl
 |succ n ih=>simp only[rs];rw[ih (fun i hi=>h i (by omega)),h n (by omega)]
theorem dA (n:Nat)(F G:Nat->Rat):rs n (fun i=>F i+G i)=rs n F+rs n G:=by
 induction n with
 |zero=>simp[rs];grind
 |succ n ih=>simp only[rs];rw[ih];grind
theorem eK (n:Nat)(c:Rat)(F:Nat->Rat):rs n (fun i=>c*F i)=c*rs n F:=by
 induction n with
 |zero=>simp[rs]
 |succ n ih=>simp only[rs];rw[ih];grind
theorem jU (n:Nat)(F:Nat->Rat):rs n (fun i=>- F i)=- rs n F:=by
 induction n with
 |zero=>simp[rs]
 |succ n ih=>simp only[rs];rw[ih];grind
theorem cW (n:Nat):rs n (fun _=>0)=0:=by
 induction n with
 |zero=>rfl
 |succ n ih=>simp only[rs];rw[ih];grind
theorem yO (n k:Nat)(F:Nat->Rat):rs n (fun i=>if k=i then F i else 0)=if k < n then F k else 0:=by
 induction n with
 |zero=>simp[rs]
 |succ n ih=>
  simp only[rs];rw[ih]
  by_cases h1:k < n
  ·rw[if_pos h1,if_neg (by omega),if_pos (by omega)];grind
  ·by_cases h2:k=n
   ·subst h2;rw[if_neg h1,if_pos rfl,if_pos (by omega)];grind
   ·rw[if_neg h1,if_neg h2,if_neg (by omega)];grind
abbrev z0:Q2:=(0,1)
abbrev Row:=Nat × Nat × Q2
theorem gD.pos {ls:List Q2}(h:gD ls):Pos ls:=fun p hp=>(h p hp).pos
def mS (L b:Int):Int:=Int.fdiv L (gc L b)*b
theorem mY {L b:Int}(hL:1<=L)(hb:1<=b):1<=mS L b/\(∃j,mS L b=L*j)/\(∃k,mS L b=k*b/\1<=k)/\mS L b<=L*b:=by
 have gp:0 < gc L b:=sM (by omega);have d1:gc L b ∣ L:=by unfold gc;exact Int.gcd_dvd_left ..
 have d2:gc L b ∣ b:=by unfold gc;exact Int.gcd_dvd_right ..
 obtain⟨k,hk⟩:=d1;obtain⟨j,hj⟩:=d2;have ek:Int.fdiv L (gc L b)=k:=fL (by omega) hk;have k1:1<=k:=by
  have:0 < gc L b*k:=by omega
  have:=Int.pos_of_mul_pos_right this (by omega);omega
 unfold mS;rw[ek];refine⟨?_,⟨j,?_⟩,⟨k,rfl,k1⟩,?_⟩
 ·have:0 < k*b:=Int.mul_pos (by omega) (by omega);omega
 ·generalize gc L b=g at *
  rw[hk,hj];grind
 ·have:k<=L:=by
   rw[hk];have:=Int.mul_le_mul_of_nonneg_right (show 1<=gc L b by omega) (show 0<=k by omega);omega
  exact Int.mul_le_mul_of_nonneg_right this (by omega)
def dI (ps:List Q2):Int:=ps.foldl (fun L p=>mS L p.2) 1
theorem Il (ps:List Q2)(p:Q2):dI (ps++[p])=mS (dI ps) p.2:=by unfold dI;rw[List.foldl_append];rfl
theorem lM {ps:List Q2}{i:Nat}{p:Q2}(h:ps[i]?=some p):dI (ps.take (i+1))=mS (dI (ps.take i)) p.2:=by
 rw[List.take_add_one,h];exact Il _ _
theorem mZ {ps:List Q2}(hp:Pos ps){n:Nat}(hb:∀p∈ps,Bd n p):∀i,i<=ps.length->1<=dI (ps.take i)/\B (1+n*i) (dI (ps.take i))/\∀p∈ps.take i,∃k,dI (ps.take i)=k*p.2
 |0,_=>⟨by show (1:Int)<=1;omega,show (1:Nat) < 2 ^ (1+n*0) by simp,fun p h=>by simp at h⟩
 |i+1,hi=>by
  obtain⟨h1,h2,h3⟩:=mZ hp hb i (by omega);have e:ps[i]?=some ps[i]:=List.getElem?_eq_getElem (by omega);have mem:ps[i]∈ps:=List.getElem_mem _;rw[lM e];obtain⟨l1,⟨j,l2⟩,⟨k,l3,l4⟩,l5⟩:=mY h1 (hp _ mem);refine⟨l1,?_,fun p hpp=>?_⟩
  ·have:=h2.mul (hb _ mem).b;refine B.mono (n:=1+n*i+n) (this.le ?_) (by rw[Nat.mul_succ];omega);have h0:1<=ps[i].2:=hp _ mem;have:0<=dI (ps.take i)*ps[i].2:=Int.mul_nonneg (by omega) (by omega);omega
  ·rw[List.take_add_one,e] at hpp;rcases List.mem_append.mp hpp with z | z
   ·obtain⟨q,hq⟩:=h3 p z;exact⟨q*j,by rw[l2,hq];grind⟩
   ·have:p=ps[i]:=by simpa using z
    rw[this];exact⟨k,l3⟩
theorem rH {ps:List Q2}(hp:Pos ps):1<=dI ps:=by
 have:∀(l:List Q2) (L:Int),1<=L->Pos l->1<=l.foldl (fun L p=>mS L p.2) L:=fun l=>by
  induction l with
  |nil=>intro L h _;exact h
  |cons p l ih=>intro L h q;exact ih _ (mY h (q p (by simp))).1 fun x hx=>q x (List.mem_cons_of_mem _ hx)
 exact this ps 1 (by omega) hp
def Ax (L:Int)(p:Q2):Int:=p.1*Int.fdiv L p.2
def iw (ps:List Q2):List Int:=ps.map (Ax (dI ps))
theorem Mi {L k:Int}{p:Q2}(h:1<=p.2)(e:L=k*p.2):((Ax L p:Int):Rat)=val p*(L:Rat):=by
 have e1:Int.fdiv L p.2=k:=fL (by omega) (by rw[e,Int.mul_comm]);have n:=dW (show p.2≠0 by omega);unfold Ax val;rw[e1,e,Rat.intCast_mul,Rat.intCast_mul];grind
theorem zX {ps:List Q2}(hp:Pos ps):∀p∈ps,∃k,dI ps=k*p.2:=fun p hpp=>by
 have:∀(l:List Q2) (L:Int),1<=L->Pos l->(∃j,l.foldl (fun L p=>mS L p.2) L=L*j)/\∀p∈l,∃k,l.foldl (fun L p=>mS L p.2) L=k*p.2:=fun l=>by
  induction l with
  |nil=>intro L h _;exact⟨⟨1,by simp⟩,fun p h=>by simp at h⟩
  |cons q l ih=>
   intro L h hq;obtain⟨l1,⟨j,l2⟩,⟨k,l3,l4⟩,l5⟩:=mY h (hq q (by simp));obtain⟨⟨j2,i1⟩,i2⟩:=ih (mS L q.2) l1 fun x hx=>hq x (List.mem_cons_of_mem _ hx);refine⟨⟨j*j2,by rw[List.foldl_cons,i1,l2];grind⟩,fun p hp=>?_⟩;rcases List.mem_cons.mp hp with rfl | hp
   ·exact⟨k*j2,by rw[List.foldl_cons,i1,l3];grind⟩
   ·exact i2 p hp
 exact(this ps 1 (by omega) hp).2 p hpp
def fF (X:List (List Q2)):Prop:=∀row∈X,Pos row
theorem Mr {row:List Q2}(h:Pos row)(j:Nat):1<=(row.getD j z0).2:=by
 rw[List.getD_eq_getElem?_getD]
 cases e:row[j]? with
 |none=>exact Int.le_refl 1
 |some v=>exact h v (List.mem_of_getElem? e)
end Mq
namespace L2
open PySem PySem.Spec PyProof.Rows
abbrev Nb (scope:Scope)(cl:List (Str × Addr))(x0:Str)(C:Addr)(env:Env):Env:={ compEnvC scope cl C env with cells:=(x0,C+1) :: cl }
abbrev Xz (X:Cx)(scope:Scope)(cl:List (Str × Addr))(x0:Str)(Nc:List Str)(C:Addr)(s3:Shared)(H3:Hp)(fp:List Addr)(pins:List (Addr × Obj)):Cx:=
 { X with N:=Nc,s₀:=s3,H₀:=H3,env:=Nb scope cl x0 C X.env,outer:=X.stack,ex:=fp,fn:=fun x=>x == x0,pn:=X.pn++pins,xe:=fun _ _=>False }
def Ite (K : PySem.W.Frag)(a : Addr) : It :=
  ⟨fun i H => ∃ xs x, SqL K H a xs /\ xs[i]? = some x,
   fun i H v H' => ∃ T x, v = .ref T /\ H T = none /\ H' = upd H T (.tup [.int (i : Int), x]) /\ ∀ xs, SqL K H a xs -> xs[i]? = some x,
   fun i H => ∃ xs, SqL K H a xs /\ xs.length <= i⟩
def Ud (e it l:Addr)(i:Nat)(h:Heap):Prop:=e≠it/\(∃old,IsEnum h e it (i:Int) old)/\h.IsListIter it l i
theorem Iv {P:Program}{w:World}{K:PySem.W.Frag}{elts:List Expr}{kk:Nat}{tpos:Pos}(e it l:Addr) :
  Iy P w K (.Tuple elts kk tpos) (Ite K l) [e,it] e (Ud e it l) where
 mem:=by simp
 obj:=fun i h st b hb=>by
  obtain⟨ne,⟨old,he⟩,⟨o1,e1,c1,d1⟩⟩:=st;simp only[List.mem_cons,List.not_mem_nil,or_false] at hb;rcases hb with rfl | rfl
  ·exact⟨_,he,fun v q=>by cases q⟩
  ·exact⟨o1,e1,fun v q=>by rw[d1] at q;cases q⟩
 keep:=fun i h h' st k=>by
  obtain⟨ne,⟨old,he⟩,⟨o1,e1,c1,d1⟩⟩:=st;exact⟨ne,⟨old,k _ (by simp) _ he⟩,⟨o1,k _ (by simp) _ e1,c1,d1⟩⟩
 item:=by
  intro X hP hw hK hc i pins s σ H E I hf st hg;subst hP hw hK;obtain⟨ne,⟨old,he⟩,t1⟩:=st;obtain⟨xs,x,hx,ex⟩:=hg;obtain⟨its1,rv1,p1,z1⟩:=I.list hx;obtain⟨u1,hu1,ru1⟩:=rv1.get ex;refine wpAny_pyNext_enum_item he t1 p1.isList (x:=u1) (by simpa using hu1) ne fun h' g1 g2 g3 g4 kk'=>?_;have hn:H s.heap.objs.size=none:=I.hok.fresh (Nat.le_refl _);have lt:∀b∈[e,it],b < s.heap.objs.size:=fun b hb=>by
   simp only[List.mem_cons,List.not_mem_nil,or_false] at hb;obtain⟨o1,e1,_⟩:=t1;rcases hb with rfl | rfl
   ·exact Heap.lt_size he
   ·exact Heap.lt_size e1
  have I1:Inv X pins σ (upd H s.heap.objs.size (.tup [.int (i:Int),x])) { s with heap:=s.heap.push { cls:=.type "tuple",data:=.seq #[.int i s.toks,u1] },toks:=s.toks+1 }:=
   I.laid (t':=s.toks+1) (fun b o e=>Heap.get?_push_of_some _ e) (Nat.le_refl _) (show dQ X.prog X.w _ _ _ (.tup [.int (i:Int),x]) from ⟨by show 2<=sizeLine;decide,[.int i s.toks,u1],.cons ⟨_,rfl⟩ (.cons ru1 .nil),IsTup.new _ _⟩)
  have hf1:∀b∈[e,it],mG X pins (upd H s.heap.objs.size (.tup [.int (i:Int),x])) b:=fun b hb=>⟨by rw[bC (Nat.ne_of_lt (lt b hb))];exact(hf b hb).1,(hf b hb).2⟩
  have k1:∀b o,b∉[e,it]->(s.heap.push { cls:=.type "tuple",data:=.seq #[.int i s.toks,u1] }).get? b=some o->h'.get? b=some o:=fun b o nb e=>by
   simp only[List.mem_cons,List.not_mem_nil,or_false,not_or] at nb
   by_cases hb:b=s.heap.objs.size
   ·subst hb;rw[Heap.get?_push_size _ rfl] at e
    cases e
    exact g3
   ·have e0:s.heap.get? b=some o:=by rw[Heap.get?_push_ne _ _ _ hb] at e;exact e
    exact kk' b o nb.1 nb.2 e0
  have I2:Inv X pins σ (upd H s.heap.objs.size (.tup [.int (i:Int),x])) { s with heap:=h',toks:=s.toks+1 }:=Inv.turnedL (s:={ s with heap:=s.heap.push { cls:=.type "tuple",data:=.seq #[.int i s.toks,u1] },toks:=s.toks+1 }) (t':=s.toks+1) I1 k1 hf1;refine⟨_,rfl,wpAny_letOwnedTupleGo_enum (s:={ s with heap:=h',toks:=s.toks+1 }) g1 fun h2 q1 q2=>?_⟩;have kz:∀b o,b≠e->h'.get? b=some o->h2.get? b=some o:=fun b o nb e=>(q2.2 b nb).trans e;have I3:Inv X pins σ (upd H s.heap.objs.size (.tup [.int (i:Int),x])) { s with heap:=h2,toks:=s.toks+1 }:=Inv.turnedL (s:={ s with heap:=h',toks:=s.toks+1 }) (t':=s.toks+1) (fp:=[e]) I2 (fun b o nb e=>kz b o (by simpa using nb) e) fun b hb=>hf1 b (by simp at hb;simp[hb]);obtain⟨o3,e3,c3,d3⟩:=g2;refine⟨.ref s.heap.objs.size,_,I3,rfl,⟨_,x,rfl,hn,rfl,fun xs' h1=>?_⟩,⟨ne,⟨_,q1⟩,⟨o3,kz _ _ ne.symm e3,c3,d3⟩⟩,fun b hb=>(hf1 b hb).1⟩;rw[I.list_inj h1 hx];exact ex
 done:=by
  intro X hP hw hK hc i pins s σ H E I hf st hg;subst hP hw hK;obtain⟨ne,⟨old,he⟩,t1⟩:=st;obtain⟨xs,hx,hor⟩:=hg;obtain⟨its1,rv1,p1,z1⟩:=I.list hx;have l1':=rv1.length;refine wpAny_pyNext_enum_end (I.ok.hd hc) he t1 p1.isList (by simp;omega) fun h' kk'=>⟨rfl,?_⟩
  refine I.turnedL (t':=s.toks) (fun b o nb e=>?_) hf;simp only[List.mem_cons,List.not_mem_nil,or_false,not_or] at nb;exact kk' b o nb.2 e
 self:=fun A i s Q E st h=>by
  obtain⟨ne,⟨old,he⟩,t1⟩:=st;exact wpAny_pyIter_enum he h
section
variable {X:Cx}
def Wr (K:PySem.W.Frag)(ta:TA):TI:=fun σ H R=>ta σ H fun vs H1=>∃a,vs=[.ref a]/\(∃xs,SqL K H1 a xs)/\R (Ite K a) H1
theorem xS {e1:Expr}{ta:TA}{p pos:Pos}{elts:List Expr}{kk:Nat}{tpos:Pos}(hg:Gl X "enumerate")(hm:X.mg "enumerate"=none)(hv:bootBuiltins "enumerate"=some (.type "enumerate"))(ha:PA X [e1] ta)(hs:starEach [e1] X.env=(false,eval e1 X.env) :: starEach [] X.env:=by rfl)(hpl:(backTo pos (starEach [] X.env)).any (·.1)=false:=by rfl):PI X (.Tuple elts kk tpos) (.Call (.Name "enumerate" p) [e1] [] pos) (Wr X.K ta):=by
 intro pins s σ H R I h;refine Call_ (jY I hg hm hv (PyProof.Rows.callWith_type1 (thn (ha pos pins s σ H _ I h) fun us s1 ⟨vs,H1,I1,r1,q1⟩=>?_) hs hpl));obtain⟨a,rfl,⟨xs,hx⟩,q⟩:=q1;obtain⟨u,rfl,ra⟩:=tG r1
 cases (show u=Value.ref a from ra)
 obtain⟨its1,rv1,p1,z1⟩:=I1.list hx;have la:a < s1.heap.objs.size:=by obtain⟨o,e,_⟩:=p1.isList;exact Heap.lt_size e
 refine call_enumerate_list p1.isList fun h' g1 g2 g3 kk'=>?_;refine wpAny_pyIter_enum g1 ?_;refine⟨s1.heap.objs.size+1,[s1.heap.objs.size+1,s1.heap.objs.size],_,Ite X.K a,H1,rfl,I1.kept (t':=s1.toks) kk',Iv _ _ a,⟨?_,⟨_,g1⟩,g2⟩,fun c hc=>?_,q⟩
 ·exact Nat.succ_ne_self _
 ·have hle:s1.heap.objs.size<=c:=by
   simp only[List.mem_cons,List.not_mem_nil,or_false] at hc;rcases hc with rfl | rfl<;>first | exact Nat.le_add_right _ _ | exact Nat.le_refl _
  exact I1.fpOk hle (I1.hok.fresh hle)
theorem Kt {K:PySem.W.Frag}{a:Addr}{xs:List V}{g:TG}{tb:TS}{D:mF}{σ:St}{H:Hp}(Pv:Nat->St->Hp->Prop)(h0:Pv 0 σ H)(hl:∀i σ H,i<=xs.length->Pv i σ H->SqL K H a xs)(hs:∀i x σ H T,xs[i]?=some x->Pv i σ H->H T=none->g (.ref T) σ (upd H T (.tup [.int (i:Int),x])) fun σ2 H2=>tb { D with nx:=Pv (i+1),ct:=Pv (i+1),bk:=D.nx } σ2 H2)(hd:∀σ H,Pv xs.length σ H->D.nx σ H) :
  ∃W:Nat->Nat->St->Hp->Prop,(∃m,W 0 m σ H)/\∀i m σ H,W i m σ H->
   ((Ite K a).stop i H/\D.nx σ H)\/((Ite K a).go i H/\∃N:St->Hp->Prop,(∀σ' H',N σ' H'->∃m',m' < m/\W (i+1) m' σ' H')/\∀x H',(Ite K a).yld i H x H'->g x σ H' fun σ2 H2=>tb { D with nx:=N,ct:=N,bk:=D.nx } σ2 H2):=by
 refine⟨fun i m σ H=>m=xs.length - i/\i<=xs.length/\Pv i σ H,⟨_,rfl,Nat.zero_le _,h0⟩,?_⟩;rintro i m σ H ⟨rfl,hi,p⟩;have qx:=hl i σ H hi p
 by_cases hlt:i < xs.length
 ·refine .inr ⟨⟨xs,xs[i],qx,by simp[hlt]⟩,Pv (i+1),fun σ' H' p'=>⟨xs.length - (i+1),by omega,rfl,hlt,p'⟩,fun v H' z=>?_⟩;obtain⟨T,x,rfl,hT,rfl,hh⟩:=z;exact hs i x σ H T (hh xs qx) p hT
 ·have e:i=xs.length:=by omega
  subst e;exact .inl ⟨⟨xs,qx,Nat.le_refl _⟩,hd σ H p⟩
theorem wZ {K:PySem.W.Frag}{a:Addr}{xs:List V}{nl:Nat}{fr:List Nat}{g:TG}{tt:TT}{te:TE}{σ:St}{D:Addr}{H1:Hp}{Q:VK}(Pv:Nat->List V->Hp->Prop)(h0:Pv 0 [] (upd H1 D (.lst [])))(hl:∀i zs H,Pv i zs H->H D=some (.lst zs))(hx:∀i zs H,i<=xs.length->Pv i zs H->SqL K H a xs)(hs:∀i zs x H T,xs[i]?=some x->Pv i zs H->H T=none->∀(C:Nat->List V->Hp->Prop),(∀zs H,Pv (i+1) zs H->C (i+1) zs H)->Dt nl fr g tt te σ D C i zs (.ref T) (upd H T (.tup [.int (i:Int),x])))(hd:∀zs H,Pv xs.length zs H->Q (.ref D) H) :
  zA (Ite K a) nl fr g tt te σ D H1 Q:=by
 refine⟨fun i m zs H=>m=xs.length - i/\i<=xs.length/\Pv i zs H,⟨_,rfl,Nat.zero_le _,h0⟩,?_⟩;rintro i m zs H ⟨rfl,hi,p⟩;refine⟨hl i zs H p,?_⟩;have qx:=hx i zs H hi p
 by_cases hlt:i < xs.length
 ·refine .inr ⟨⟨xs,xs[i],qx,by simp[hlt]⟩,fun v H' z=>?_⟩;obtain⟨T,x,rfl,hT,rfl,hh⟩:=z;exact hs i zs x H T (hh xs qx) p hT (fun j zs Hz=>∃m',m' < xs.length - i/\m'=xs.length - j/\j<=xs.length/\Pv j zs Hz) fun zs Hz z=>⟨xs.length - (i+1),by omega,rfl,hlt,z⟩
 ·have e:i=xs.length:=by omega
  subst e;exact .inl ⟨⟨xs,qx,Nat.le_refl _⟩,hd zs H p⟩
end
end L2
set_option maxHeartbeats 4000000
namespace Shp
open PySem L2
theorem Qj {t b:Int}(h:0 < b):Mq.dvr t b=Mq.gc t b:=by unfold Mq.dvr;rw[if_neg (by omega)]
end Shp
namespace Mq
def skip (j k:Nat):Nat:=if k < j then k else k+1
def sgn (n:Nat):Rat:=if n % 2=0 then 1 else -1
theorem tL (n:Nat):sgn (n+1)=- sgn n:=by
 unfold sgn;rcases Nat.mod_two_eq_zero_or_one n with h | h
 ·rw[if_neg (by omega),if_pos h]
 ·rw[if_pos (by omega),if_neg (by omega)];grind
abbrev Mat:=Nat->Nat->Rat
def det:Nat->Mat->Rat
 |0,_=>1
 |n+1,M=>rs (n+1) fun j=>sgn (n+j)*M n j*det n fun i k=>M i (skip j k)
theorem fP (n:Nat)(M:Mat):det (n+1) M=rs (n+1) fun j=>sgn (n+j)*M n j*det n fun i k=>M i (skip j k):=rfl
theorem Ps {j k n:Nat}(hk:k < n):skip j k < n+1:=by unfold skip;split<;>omega
theorem cK:∀{n:Nat} {M N:Mat},(∀i j,i < n->j < n->M i j=N i j)->det n M=det n N
 |0,_,_,_=>rfl
 |n+1,M,N,h=>by
  rw[fP,fP];exact aK fun j hj=>by rw[h n j (by omega) hj,cK (N:=fun i k=>N i (skip j k)) fun i k hi hk=>h i _ (by omega) (Ps hk)]
theorem wR {j k l:Nat}(h:j<=k):skip (k+1) (skip j l)=skip j (skip k l):=by
 unfold skip
 by_cases h1:l < j
 ·rw[if_pos h1,if_pos (show l < k by omega),if_pos (show l < k+1 by omega),if_pos h1]
 ·rw[if_neg h1]
  by_cases h2:l < k
  ·rw[if_pos h2,if_pos (show l+1 < k+1 by omega),if_neg h1]
  ·rw[if_neg h2,if_neg (show ¬l+1 < k+1 by omega),if_neg (show ¬l+1 < j by omega)]
theorem Om (n m:Nat)(F:Nat->Nat->Rat):(rs n fun i=>rs m fun j=>F i j)=rs m fun j=>rs n fun i=>F i j:=by
 induction n with
 |zero=>simp only[rs];rw[cW]
 |succ n ih=>simp only[rs];rw[ih,<- dA]
theorem kH (n:Nat)(F:Nat->Rat):rs (n+1) F=F 0+rs n fun i=>F (i+1):=by
 induction n with
 |zero=>simp only[rs];grind
 |succ n ih=>rw[show rs (n+1+1) F=rs (n+1) F+F (n+1) from rfl,ih];simp only[rs];grind
theorem wW (N:Nat)(X:Nat->Nat->Rat):(rs (N+1) fun j=>rs N fun k=>X j k)=(rs N fun k=>rs N fun j=>if k<=j then X (j+1) k else 0)+rs N fun j=>rs N fun k=>if j<=k then X j k else 0:=by
 have h1:(rs (N+1) fun j=>rs N fun k=>X j k)=(rs (N+1) fun j=>rs N fun k=>if k < j then X j k else 0)+rs (N+1) fun j=>rs N fun k=>if k < j then 0 else X j k:=by
  rw[<- dA];refine aK fun j _=>?_;rw[<- dA];exact aK fun k _=>by split<;>grind
 have h2:(rs (N+1) fun j=>rs N fun k=>if k < j then X j k else 0)=rs N fun k=>rs N fun j=>if k<=j then X (j+1) k else 0:=by
  rw[Om];refine aK fun k _=>?_;rw[kH,if_neg (by omega)];have:(rs N fun i=>if k < i+1 then X (i+1) k else 0)=rs N fun j=>if k<=j then X (j+1) k else 0:=aK fun i _=>by
   by_cases c:k<=i
   ·rw[if_pos (by omega),if_pos c]
   ·rw[if_neg (by omega),if_neg c]
  rw[this];grind
 have h3:(rs (N+1) fun j=>rs N fun k=>if k < j then 0 else X j k)=rs N fun j=>rs N fun k=>if j<=k then X j k else 0:=by
  show (rs N fun j=>rs N fun k=>if k < j then 0 else X j k)+(rs N fun k=>if k < N then 0 else X N k)=_;have:(rs N fun k=>if k < N then 0 else X N k)=rs N fun _=>0:=aK fun k hk=>by rw[if_pos hk]
  rw[this,cW];have e2:(rs N fun j=>rs N fun k=>if k < j then 0 else X j k)=rs N fun j=>rs N fun k=>if j<=k then X j k else 0:=aK fun j _=>aK fun k _=>by
   by_cases c:j<=k
   ·rw[if_neg (by omega),if_pos c]
   ·rw[if_pos (by omega),if_neg c]
  rw[e2];grind
 rw[h1,h2,h3]
theorem Bk (N:Nat)(X Y:Nat->Nat->Rat)(h:∀j k,j<=k->Y (k+1) j=- X j k)(h':∀j k,j<=k->X (k+1) j=- Y j k):(rs (N+1) fun j=>rs N fun k=>Y j k)=- rs (N+1) fun j=>rs N fun k=>X j k:=by
 rw[wW,wW];have e1:(rs N fun k=>rs N fun j=>if k<=j then Y (j+1) k else 0)=- rs N fun j=>rs N fun k=>if j<=k then X j k else 0:=by
  rw[<- jU];refine aK fun k _=>?_;rw[<- jU];exact aK fun j _=>by
   by_cases c:k<=j
   ·rw[if_pos c,if_pos c,h k j c]
   ·rw[if_neg c,if_neg c];grind
 have e2:(rs N fun k=>rs N fun j=>if k<=j then X (j+1) k else 0)=- rs N fun j=>rs N fun k=>if j<=k then Y j k else 0:=by
  rw[<- jU];refine aK fun k _=>?_;rw[<- jU];exact aK fun j _=>by
   by_cases c:k<=j
   ·rw[if_pos c,if_pos c,h' k j c]
   ·rw[if_neg c,if_neg c];grind
 rw[e1,e2];grind
def cH (a:Nat)(M:Mat):Mat:=fun i=>if i=a then M (a+1) else if i=a+1 then M a else M i
theorem Ek (n:Nat)(M:Mat):det (n+2) M=rs (n+2) fun j=>rs (n+1) fun k=>(sgn (n+1+j)*M (n+1) j)*(sgn (n+k)*M n (skip j k)*det n fun i l=>M i (skip j (skip k l))):=by
 rw[fP];exact aK fun j _=>by rw[fP,<- eK]
theorem nA (a b:Nat):sgn (a+1+b)=- sgn (a+b):=by rw[show a+1+b=a+b+1 by omega,tL]
theorem uY (n:Nat)(M:Mat):det (n+2) (cH n M)=- det (n+2) M:=by
 rw[Ek,Ek];refine Bk (n+1) _ _ (fun j k hjk=>?_) (fun j k hjk=>?_)
 ·show (sgn (n+1+(k+1))*cH n M (n+1) (k+1))*(sgn (n+j)*cH n M n (skip (k+1) j)*det n fun i l=>cH n M i (skip (k+1) (skip j l)))=- ((sgn (n+1+j)*M (n+1) j)*(sgn (n+k)*M n (skip j k)*det n fun i l=>M i (skip j (skip k l))));have a1:cH n M (n+1)=M n:=by unfold cH;rw[if_neg (by omega),if_pos rfl]
  have a2:cH n M n=M (n+1):=by unfold cH;rw[if_pos rfl]
  have a3:(det n fun i l=>cH n M i (skip (k+1) (skip j l)))=det n fun i l=>M i (skip j (skip k l)):=cK fun i l hi _=>by
   show cH n M i (skip (k+1) (skip j l))=M i (skip j (skip k l));rw[wR hjk];unfold cH;rw[if_neg (by omega),if_neg (by omega)]
  have a4:skip (k+1) j=j:=by unfold skip;rw[if_pos (by omega)]
  have a5:skip j k=k+1:=by unfold skip;rw[if_neg (by omega)]
  rw[a1,a2,a3,a4,a5,nA,nA,show n+(k+1)=n+k+1 by omega,tL];generalize (det n fun i l=>M i (skip j (skip k l)))=dd;generalize sgn (n+k)=s1;generalize sgn (n+j)=s2;grind
 ·show (sgn (n+1+(k+1))*M (n+1) (k+1))*(sgn (n+j)*M n (skip (k+1) j)*det n fun i l=>M i (skip (k+1) (skip j l)))=- ((sgn (n+1+j)*cH n M (n+1) j)*(sgn (n+k)*cH n M n (skip j k)*det n fun i l=>cH n M i (skip j (skip k l))));have a1:cH n M (n+1)=M n:=by unfold cH;rw[if_neg (by omega),if_pos rfl]
  have a2:cH n M n=M (n+1):=by unfold cH;rw[if_pos rfl]
  have a3:(det n fun i l=>M i (skip (k+1) (skip j l)))=det n fun i l=>cH n M i (skip j (skip k l)):=cK fun i l hi _=>by
   show M i (skip (k+1) (skip j l))=cH n M i (skip j (skip k l));rw[wR hjk];unfold cH;rw[if_neg (by omega),if_neg (by omega)]
  have a4:skip (k+1) j=j:=by unfold skip;rw[if_pos (by omega)]
  have a5:skip j k=k+1:=by unfold skip;rw[if_neg (by omega)]
  rw[a1,a2,a3,a4,a5,nA,nA,show n+(k+1)=n+k+1 by omega,tL];generalize (det n fun i l=>cH n M i (skip j (skip k l)))=dd;generalize sgn (n+k)=s1;generalize sgn (n+j)=s2;grind
theorem lB:∀(n a:Nat) (M:Mat),a+1 < n->det n (cH a M)=- det n M
 |0,_,_,h=>absurd h (by omega)
 |n+1,a,M,h=>by
  by_cases e:a+1=n
  ·subst e;exact uY a M
  ·rw[fP,fP,<- jU];refine aK fun j hj=>?_;have e1:cH a M n j=M n j:=by unfold cH;rw[if_neg (by omega),if_neg (by omega)]
   have e2:(det n fun i k=>cH a M i (skip j k))=- det n fun i k=>M i (skip j k):=by
    rw[<- lB n a (fun i k=>M i (skip j k)) (by omega)];exact cK fun i k _ _=>by
     show cH a M i (skip j k)=cH a (fun i k=>M i (skip j k)) i k;unfold cH;split
     ·rfl
     ·split<;>rfl
   rw[e1,e2];grind
theorem vC:∀(t n:Nat) (M:Mat) (i:Nat),i+t+1=n->(∀j,M i j=M n j)->det (n+1) M=0
 |0,n,M,i,h,e=>by
  have hn:n=i+1:=by omega
  subst hn;have s:=uY i M;have c:det (i+2) (cH i M)=det (i+2) M:=cK fun k j _ _=>by
   unfold cH
   by_cases k1:k=i
   ·rw[if_pos k1,k1];exact(e j).symm
   ·rw[if_neg k1]
    by_cases k2:k=i+1
    ·rw[if_pos k2,k2];exact e j
    ·rw[if_neg k2]
  rw[c] at s;grind
 |t+1,n,M,i,h,e=>by
  have s:=lB (n+1) i M (by omega);have z:=vC t n (cH i M) (i+1) (by omega) fun j=>by
   have a1:cH i M (i+1)=M i:=by unfold cH;rw[if_neg (by omega),if_pos rfl]
   have a2:cH i M n=M n:=by unfold cH;rw[if_neg (by omega),if_neg (by omega)]
   rw[a1,a2];exact e j
  rw[z] at s;grind
def xJ (n:Nat)(S:Mat)(x:Nat->Rat):Mat:=fun i=>if i=n then x else S i
def F (n:Nat)(S:Mat)(c:Nat->Nat)(x:Nat->Rat):Rat:=det (n+1) (xJ n (fun i j=>S i (c j)) fun j=>x (c j))
theorem Ii (n:Nat)(S:Mat)(c:Nat->Nat)(x:Nat->Rat):F n S c x=rs (n+1) fun j=>sgn (n+j)*x (c j)*det n fun i k=>S i (c (skip j k)):=by
 unfold F;rw[fP];refine aK fun j _=>?_;have e1:xJ n (fun i j=>S i (c j)) (fun j=>x (c j)) n j=x (c j):=by unfold xJ;rw[if_pos rfl]
 rw[e1,cK fun i k hi _=>show xJ n (fun i j=>S i (c j)) (fun j=>x (c j)) i (skip j k)=S i (c (skip j k)) by unfold xJ;rw[if_neg (by omega)]]
theorem Wy (n:Nat)(S:Mat)(c:Nat->Nat)(x y:Nat->Rat)(l:Rat):F n S c (fun j=>x j+l*y j)=F n S c x+l*F n S c y:=by
 rw[Ii,Ii,Ii,<- eK,<- dA];exact aK fun j _=>by grind
theorem Dm (n:Nat)(S:Mat)(c:Nat->Nat){i:Nat}(h:i < n):F n S c (S i)=0:=by
 unfold F;refine vC (n - i - 1) n _ i (by omega) fun j=>?_;unfold xJ;rw[if_neg (by omega),if_pos rfl]
theorem xI (n:Nat)(S:Mat)(c:Nat->Nat)(x:Nat->Rat)(h:∀j,j < n->x (c j)=0):F n S c x=x (c n)*det n fun i j=>S i (c j):=by
 rw[Ii];show (rs n fun j=>sgn (n+j)*x (c j)*det n fun i k=>S i (c (skip j k)))+sgn (n+n)*x (c n)*(det n fun i k=>S i (c (skip n k)))=_;have z:(rs n fun j=>sgn (n+j)*x (c j)*det n fun i k=>S i (c (skip j k)))=rs n fun _=>0:=aK fun j hj=>by rw[h j hj];grind
 have s:sgn (n+n)=1:=by unfold sgn;rw[if_pos (by omega)]
 have d:(det n fun i k=>S i (c (skip n k)))=det n fun i j=>S i (c j):=cK fun i k _ hk=>by show S i (c (skip n k))=_;unfold skip;rw[if_pos hk]
 rw[z,cW,s,d];grind
theorem Ao {n:Nat}{F:Nat->Rat}(h:∀i,i < n->∃z:Int,F i=(z:Rat)):∃z:Int,rs n F=(z:Rat):=by
 induction n with
 |zero=>exact⟨0,by simp[rs]⟩
 |succ n ih=>
  obtain⟨a,ha⟩:=ih fun i hi=>h i (by omega);obtain⟨b,hb⟩:=h n (by omega);exact⟨a+b,by simp only[rs];rw[ha,hb,Rat.intCast_add]⟩
theorem Gr (n:Nat):∃z:Int,sgn n=(z:Rat):=by
 unfold sgn;split
 ·exact⟨1,by simp⟩
 ·exact⟨-1,by rw[Rat.intCast_neg];simp⟩
theorem qM {a b:Rat}(h:∃z:Int,a=(z:Rat))(k:∃z:Int,b=(z:Rat)):∃z:Int,a*b=(z:Rat):=by
 obtain⟨x,rfl⟩:=h;obtain⟨y,rfl⟩:=k;exact⟨x*y,by rw[Rat.intCast_mul]⟩
theorem vB:∀{n:Nat} {M:Mat},(∀i j,∃z:Int,M i j=(z:Rat))->∃z:Int,det n M=(z:Rat)
 |0,_,_=>⟨1,by simp[det]⟩
 |n+1,M,h=>by
  rw[fP];exact Ao fun j _=>qM (qM (Gr _) (h n j)) (vB fun i k=>h i _)
theorem Ob {n:Nat}{S:Mat}{c:Nat->Nat}{x:Nat->Rat}(h:∀i j,∃z:Int,S i j=(z:Rat))(hx:∀j,∃z:Int,x j=(z:Rat)):∃z:Int,F n S c x=(z:Rat):=by
 unfold F;refine vB fun i j=>?_;unfold xJ;split
 ·exact hx _
 ·exact h i _
def Lin (Φ:(Nat->Rat)->Rat):Prop:=∀x y l,Φ (fun j=>x j+l*y j)=Φ x+l*Φ y
theorem Lin.zero {Φ:(Nat->Rat)->Rat}(h:Lin Φ):Φ (fun _=>0)=0:=by
 have:=h (fun _=>0) (fun _=>0) 1;have e:(fun j:Nat=>(fun _=>(0:Rat)) j+1*(fun _=>(0:Rat)) j)=fun _=>0:=by funext j;show (0:Rat)+1*0=0;grind
 rw[e] at this;grind
theorem Lin.mul {Φ:(Nat->Rat)->Rat}(h:Lin Φ)(l:Rat)(y:Nat->Rat):Φ (fun j=>l*y j)=l*Φ y:=by
 have:=h (fun _=>0) y l;have e:(fun j:Nat=>(fun _=>(0:Rat)) j+l*y j)=fun j=>l*y j:=by funext j;show (0:Rat)+l*y j=_;grind
 rw[e,h.zero] at this;grind
theorem Lin.sum {Φ:(Nat->Rat)->Rat}(h:Lin Φ)(a:Nat->Rat)(Y:Nat->Nat->Rat):∀n,Φ (fun j=>rs n fun k=>a k*Y k j)=rs n fun k=>a k*Φ (Y k)
 |0=>h.zero
 |n+1=>by
  have:=h (fun j=>rs n fun k=>a k*Y k j) (Y n) (a n);simp only[rs];rw[this,Lin.sum h a Y n]
theorem Fn (n:Nat)(S:Mat)(c:Nat->Nat):Lin (F n S c):=fun x y l=>Wy n S c x y l
def Wh (x:Rat):Prop:=∃z:Int,x=(z:Rat)
theorem Wh.mul {a b:Rat}(h:Wh a)(k:Wh b):Wh (a*b):=qM h k
theorem Wh.neg {a:Rat}(h:Wh a):Wh (-a):=by obtain⟨z,rfl⟩:=h;exact⟨-z,by rw[Rat.intCast_neg]⟩
theorem Wh.sub {a b:Rat}(h:Wh a)(k:Wh b):Wh (a - b):=by obtain⟨x,rfl⟩:=h;obtain⟨y,rfl⟩:=k;exact⟨x - y,by rw[Rat.intCast_sub]⟩
theorem Wh.one:Wh 1:=⟨1,by simp⟩
theorem Wh.nil:Wh 0:=⟨0,by simp⟩
structure Bar (m:Nat) (A E:Mat) (r col:Nat) (d:Rat) (c:Nat->Nat):Prop where
 dne:d≠0
 rm:r<=m
 rc:r<=col
 clt:∀j,j < r->c j < col
 cinj:∀i j,i < r->j < r->c i=c j->i=j
 wA:∀i j,Wh (A i j)
 wE:∀i j,i < m->Wh (E i j)
 i2:∀k j,k < r->j < r->E k (c j)=if j=k then d else 0
 i3:∀i x,r<=i->i < m->x < col->E i x=0
 i4:∀i x,i < m->d*A i x=(rs r fun k=>A i (c k)*E k x)+if i < r then 0 else E i x
 i5:det r (fun i j=>A i (c j))=d
 i6:∀Φ,Lin Φ->(∀s,s < r->Φ (A s)=0)->∀k,k < r->Φ (E k)=0
 full:r=col->∀j,j < r->c j=j
theorem Bar.start {m:Nat}{A:Mat}(wA:∀i j,Wh (A i j)):Bar m A A 0 0 1 id where
 dne:=by grind
 rm:=by omega
 rc:=by omega
 clt:=fun j h=>absurd h (by omega)
 cinj:=fun i j h=>absurd h (by omega)
 wA:=wA
 wE:=fun i j _=>wA i j
 i2:=fun k j h=>absurd h (by omega)
 i3:=fun i x _ _ h=>absurd h (by omega)
 i4:=fun i x _=>by simp only[rs];rw[if_neg (by omega)];grind
 i5:=rfl
 i6:=fun Φ _ _ k h=>absurd h (by omega)
 full:=fun _ j h=>absurd h (by omega)
section
variable {m:Nat} {A E:Mat} {r col:Nat} {d:Rat} {c:Nat->Nat}
theorem Bar.skip (h:Bar m A E r col d c)(hz:∀i,r<=i->i < m->E i col=0):Bar m A E r (col+1) d c:=
 { h with
  rc:=by have:=h.rc;omega
  clt:=fun j hj=>by have:=h.clt j hj;omega
  i3:=fun i x hi hm hx=>by
   by_cases e:x=col
   ·rw[e];exact hz i hi hm
   ·exact h.i3 i x hi hm (by omega)
  full:=fun e=>by have:=h.rc;omega }
def sw (p r i:Nat):Nat:=if i=r then p else if i=p then r else i
theorem vV {p r i:Nat}(hp:r<=p)(hi:i < r):sw p r i=i:=by unfold sw;rw[if_neg (by omega),if_neg (by omega)]
theorem Rp {p r i:Nat}(hp:r<=p)(hi:r<=i):r<=sw p r i:=by unfold sw;split;exact hp;split<;>omega
theorem yR {p r i m:Nat}(hp:p < m)(hr:r < m)(hi:i < m):sw p r i < m:=by unfold sw;split;exact hp;split<;>omega
theorem Nf (p r i:Nat):sw p r (sw p r i)=i:=by
 unfold sw
 by_cases h1:i=r
 ·rw[if_pos h1]
  by_cases h2:p=r
  ·rw[if_pos h2];omega
  ·rw[if_neg h2,if_pos rfl];exact h1.symm
 ·rw[if_neg h1]
  by_cases h2:i=p
  ·rw[if_pos h2,if_pos rfl];exact h2.symm
  ·rw[if_neg h2,if_neg h1,if_neg h2]
theorem Bar.swap (h:Bar m A E r col d c){p:Nat}(hp:r<=p)(hpm:p < m):Bar m (fun i=>A (sw p r i)) (fun i=>E (sw p r i)) r col d c:=
 { h with
  wA:=fun i j=>h.wA _ j
  wE:=fun i j hi=>h.wE _ j (yR hpm (by omega) hi)
  i2:=fun k j hk hj=>by
   show E (sw p r k) (c j)=_;rw[vV hp hk];exact h.i2 k j hk hj
  i3:=fun i x hi hm hx=>h.i3 _ x (Rp hp hi) (yR hpm (by omega) hm) hx
  i4:=fun i x hm=>by
   have e:(rs r fun k=>A (sw p r i) (c k)*E (sw p r k) x)=rs r fun k=>A (sw p r i) (c k)*E k x:=aK fun k hk=>by rw[vV hp hk]
   show d*A (sw p r i) x=(rs r fun k=>A (sw p r i) (c k)*E (sw p r k) x)+_;rw[e,h.i4 _ x (yR hpm (by omega) hm)];congr 1
   by_cases hi:i < r
   ·rw[vV hp hi,if_pos hi]
   ·have:=Rp hp (show r<=i by omega);rw[if_neg (by omega),if_neg hi]
  i5:=by
   rw[<- h.i5];exact cK fun i j hi _=>by show A (sw p r i) (c j)=_;rw[vV hp hi]
  i6:=fun Φ hΦ hs k hk=>by
   show Φ (E (sw p r k))=0;rw[vV hp hk];exact h.i6 Φ hΦ (fun s hs'=>by have:=hs s hs';rwa [vV hp hs'] at this) k hk }
def clr (E:Mat)(r col:Nat)(d:Rat):Mat:=fun k x=>if k=r then E r x else (E r col*E k x - E k col*E r x) / d
def c1 (c:Nat->Nat)(r col:Nat):Nat->Nat:=fun j=>if j=r then col else c j
theorem iO (c:Nat->Nat){r col j:Nat}(h:j < r):c1 c r col j=c j:=by unfold c1;rw[if_neg (by omega)]
theorem mL (c:Nat->Nat)(r col:Nat):c1 c r col r=col:=by unfold c1;rw[if_pos rfl]
theorem xH (E:Mat)(r col:Nat)(d:Rat):clr E r col d r=E r:=by funext x;unfold clr;rw[if_pos rfl]
theorem kR (E:Mat){r col k:Nat}{d:Rat}(h:k≠r)(x:Nat):clr E r col d k x=(E r col*E k x - E k col*E r x) / d:=by unfold clr;rw[if_neg h]
theorem Bar.j2 (h:Bar m A E r col d c)(hr:r < m):∀k j,k < r+1->j < r+1->clr E r col d k (c1 c r col j)=if j=k then E r col else 0:=fun k j hk hj=>by
 have hd:=h.dne
 by_cases kr:k=r
 ·subst kr;rw[xH]
  by_cases jr:j=k
  ·rw[if_pos jr,jr,mL]
  ·rw[if_neg jr,iO c (by omega)];exact h.i3 k _ (Nat.le_refl _) hr (h.clt j (by omega))
 ·rw[kR E kr]
  by_cases jr:j=r
  ·subst jr;rw[mL,if_neg (by omega)];grind
  ·rw[iO c (by omega),h.i2 k j (by omega) (by omega),h.i3 r (c j) (Nat.le_refl _) hr (h.clt j (by omega))]
   by_cases e:j=k
   ·rw[if_pos e,if_pos e];grind
   ·rw[if_neg e,if_neg e];grind
theorem Bar.j4 (h:Bar m A E r col d c)(hr:r < m):∀i x,i < m->E r col*A i x=(rs (r+1) fun k=>A i (c1 c r col k)*clr E r col d k x)+if i < r+1 then 0 else clr E r col d i x:=fun i x hi=>by
 have hd:=h.dne;have q:=h.i4 i x hi;have q2:=h.i4 i col hi;show _=(rs r fun k=>A i (c1 c r col k)*clr E r col d k x)+A i (c1 c r col r)*clr E r col d r x+_;rw[mL,xH];have e:(rs r fun k=>A i (c1 c r col k)*clr E r col d k x)=(E r col / d)*(rs r fun k=>A i (c k)*E k x)+(-(E r x / d))*rs r fun k=>A i (c k)*E k col:=by
  rw[<- eK,<- eK,<- dA];exact aK fun k hk=>by rw[iO c hk,kR E (by omega)];grind
 rw[e];generalize (rs r fun k=>A i (c k)*E k x)=s1 at q ⊢;generalize (rs r fun k=>A i (c k)*E k col)=s2 at q2 ⊢
 by_cases h1:i < r
 ·rw[if_pos h1] at q q2;rw[if_pos (by omega)];have:s1=d*A i x:=by grind
  have:s2=d*A i col:=by grind
  subst s1 s2;grind
 ·rw[if_neg h1] at q q2;have a1:s1=d*A i x - E i x:=by grind
  have a2:s2=d*A i col - E i col:=by grind
  subst a1 a2
  by_cases h2:i=r
  ·subst h2;rw[if_pos (by omega)];grind
  ·rw[if_neg (by omega),kR E h2];grind
theorem Bar.j6 (h:Bar m A E r col d c)(hr:r < m):∀Φ,Lin Φ->(∀s,s < r+1->Φ (A s)=0)->∀k,k < r+1->Φ (clr E r col d k)=0:=fun Φ hΦ hs k hk=>by
 have hd:=h.dne;have z:=h.i6 Φ hΦ fun s hs'=>hs s (by omega);have zr:Φ (E r)=0:=by
  have e:E r=fun x=>(fun x=>d*A r x) x+(-1)*(fun x=>rs r fun k=>A r (c k)*E k x) x:=by
   funext x
   have:=h.i4 r x hr;rw[if_neg (by omega)] at this;show E r x=d*A r x+(-1)*(rs r fun k=>A r (c k)*E k x)
   grind
  rw[e,hΦ,hΦ.mul,hΦ.sum,hs r (by omega)];have:(rs r fun k=>A r (c k)*Φ (E k))=rs r fun _=>0:=aK fun k hk=>by rw[z k hk];grind
  rw[this,cW];grind
 by_cases kr:k=r
 ·rw[kr,xH];exact zr
 ·have e:clr E r col d k=fun x=>(fun x=>(E r col / d)*E k x) x+(-(E k col / d))*E r x:=by
   funext x
   rw[kR E kr];show _=(E r col / d)*E k x+(-(E k col / d))*E r x;grind
  rw[e,hΦ,hΦ.mul,z k (by omega),zr];grind
theorem Bar.j5 (h:Bar m A E r col d c)(hr:r < m):det (r+1) (fun i j=>A i (c1 c r col j))=E r col:=by
 have hd:=h.dne;have e1:det (r+1) (fun i j=>A i (c1 c r col j))=F r A (c1 c r col) (A r):=by
  unfold F;exact cK fun i j hi _=>by
   unfold xJ
   by_cases e:i=r
   ·rw[if_pos e,e]
   ·rw[if_neg e]
 have hΦ:=Fn r A (c1 c r col);have z:=h.i6 _ hΦ fun s hs=>Dm r A (c1 c r col) hs;have eA:A r=fun x=>(fun x=>(1 / d)*E r x) x+(1 / d)*(fun x=>rs r fun k=>A r (c k)*E k x) x:=by
  funext x
  have:=h.i4 r x hr;rw[if_neg (by omega)] at this;show A r x=(1 / d)*E r x+(1 / d)*(rs r fun k=>A r (c k)*E k x)
  grind
 have zs:(rs r fun k=>A r (c k)*F r A (c1 c r col) (E k))=0:=by
  have:(rs r fun k=>A r (c k)*F r A (c1 c r col) (E k))=rs r fun _=>0:=aK fun k hk=>by rw[z k hk];grind
  rw[this,cW]
 have fb:=xI r A (c1 c r col) (E r) fun j hj=>by rw[iO c hj];exact h.i3 r _ (Nat.le_refl _) hr (h.clt j hj)
 have dd:(det r fun i j=>A i (c1 c r col j))=d:=by rw[<- h.i5];exact cK fun i j _ hj=>by show A i (c1 c r col j)=_;rw[iO c hj]
 rw[mL,dd] at fb;rw[e1,eA,hΦ,hΦ.mul,hΦ.sum,zs,fb];grind
theorem Bar.wV (h:Bar m A E r col d c)(hr:r < m)(he:E r col≠0):∀i x,i < m->Wh (clr E r col d i x):=by
 have j2:=h.j2 hr;have j4:=h.j4 hr;have j5:=h.j5 hr;have j6:=h.j6 hr;have cin:∀i j,i < r+1->j < r+1->c1 c r col i=c1 c r col j->i=j:=fun i j hi hj e=>by
  by_cases a:i=r
  ·by_cases b:j=r
   ·omega
   ·rw[a,mL,iO c (by omega)] at e;have:=h.clt j (by omega);omega
  ·by_cases b:j=r
   ·rw[b,mL,iO c (by omega)] at e;have:=h.clt i (by omega);omega
   ·rw[iO c (by omega),iO c (by omega)] at e;exact h.cinj i j (by omega) (by omega) e
 have top:∀k x,k < r+1->Wh (clr E r col d k x):=fun k x hk=>by
  by_cases hx:∃j,j < r+1/\x=c1 c r col j
  ·obtain⟨j,hj,rfl⟩:=hx;rw[j2 k j hk hj];split
   ·exact h.wE r col hr
   ·exact Wh.nil
  ·let c2:Nat->Nat:=fun j=>if j=r+1 then x else c1 c r col j
   let u:Nat->Rat:=fun j=>if j=c1 c r col k then 1 else 0
   have hΦ:=Fn (r+1) A c2;have z:=j6 _ hΦ (fun s hs=>Dm (r+1) A c2 hs) k hk;have eu:u=fun y=>(fun y=>u y+(-(1 / E r col))*clr E r col d k y) y+(1 / E r col)*clr E r col d k y:=by
    funext y
    show u y=u y+(-(1 / E r col))*clr E r col d k y+(1 / E r col)*clr E r col d k y;grind
   have fb:=xI (r+1) A c2 (fun y=>u y+(-(1 / E r col))*clr E r col d k y) fun j hj=>by
    have ec:c2 j=c1 c r col j:=by show (if j=r+1 then x else c1 c r col j)=_;rw[if_neg (by omega)]
    rw[ec];show u (c1 c r col j)+(-(1 / E r col))*clr E r col d k (c1 c r col j)=0;rw[j2 k j hk hj];show (if c1 c r col j=c1 c r col k then (1:Rat) else 0)+_=0
    by_cases e:j=k
    ·rw[if_pos e,if_pos (by rw[e])];grind
    ·rw[if_neg e,if_neg (fun q=>e (cin j k hj hk q))];grind
   have dd:(det (r+1) fun i j=>A i (c2 j))=E r col:=by
    rw[<- j5];exact cK fun i j _ hj=>by show A i (if j=r+1 then x else c1 c r col j)=_;rw[if_neg (by omega)]
   have ux:u x=0:=by show (if x=c1 c r col k then (1:Rat) else 0)=0;rw[if_neg (fun q=>hx ⟨k,hk,q⟩)]
   have cx:c2 (r+1)=x:=by show (if r+1=r+1 then x else _)=x;rw[if_pos rfl]
   rw[dd,cx] at fb;have val:F (r+1) A c2 u=- clr E r col d k x:=by
    rw[eu,hΦ,z,fb];show (u x+(-(1 / E r col))*clr E r col d k x)*E r col+_=_;rw[ux];grind
   have wh:Wh (F (r+1) A c2 u):=Ob h.wA fun j=>by
    show Wh (if j=c1 c r col k then (1:Rat) else 0);split
    ·exact Wh.one
    ·exact Wh.nil
   rw[val] at wh;have:=wh.neg
   rwa [show - - clr E r col d k x=clr E r col d k x by grind] at this
 intro i x hi
 by_cases h1:i < r+1
 ·exact top i x h1
 ·have q:=j4 i x hi;rw[if_neg h1] at q;have e:clr E r col d i x=E r col*A i x - rs (r+1) fun k=>A i (c1 c r col k)*clr E r col d k x:=by grind
  rw[e];exact Wh.sub (Wh.mul (h.wE r col hr) (h.wA i x)) (Ao fun k hk=>Wh.mul (h.wA _ _) (top k x hk))
theorem Bar.clear (h:Bar m A E r col d c)(hr:r < m)(he:E r col≠0):Bar m A (clr E r col d) (r+1) (col+1) (E r col) (c1 c r col) where
 dne:=he
 rm:=hr
 rc:=by have:=h.rc;omega
 clt:=fun j hj=>by
  by_cases e:j=r
  ·rw[e,mL];omega
  ·rw[iO c (by omega)];have:=h.clt j (by omega);omega
 cinj:=fun i j hi hj e=>by
  by_cases a:i=r
  ·by_cases b:j=r
   ·omega
   ·rw[a,mL,iO c (by omega)] at e;have:=h.clt j (by omega);omega
  ·by_cases b:j=r
   ·rw[b,mL,iO c (by omega)] at e;have:=h.clt i (by omega);omega
   ·rw[iO c (by omega),iO c (by omega)] at e;exact h.cinj i j (by omega) (by omega) e
 wA:=h.wA
 wE:=fun i j hi=>h.wV hr he i j hi
 i2:=h.j2 hr
 i3:=fun i x hi hm hx=>by
  rw[kR E (by omega)]
  by_cases e:x=col
  ·rw[e];grind
  ·rw[h.i3 i x (by omega) hm (by omega),h.i3 r x (Nat.le_refl _) hr (by omega)];grind
 i4:=h.j4 hr
 i5:=h.j5 hr
 i6:=h.j6 hr
 full:=fun e j hj=>by
  by_cases a:j=r
  ·rw[a,mL];omega
  ·rw[iO c (by omega)];exact h.full (by omega) j (by omega)
end
def ent (R:List (List Int))(i x:Nat):Int:=(R.getD i []).getD x 0
def at2 (R:List (List Int)):Mat:=fun i x=>((ent R i x:Int):Rat)
theorem Bar.congr {m:Nat}{A E E':Mat}{r col:Nat}{d:Rat}{c:Nat->Nat}(h:Bar m A E r col d c)(e:∀i,i < m->E i=E' i):Bar m A E' r col d c:=
 { h with
  wE:=fun i j hi=>by rw[<- e i hi];exact h.wE i j hi
  i2:=fun k j hk hj=>by rw[<- e k (by have:=h.rm;omega)];exact h.i2 k j hk hj
  i3:=fun i x hi hm hx=>by rw[<- e i hm];exact h.i3 i x hi hm hx
  i4:=fun i x hm=>by
   rw[h.i4 i x hm];congr 1
   ·exact aK fun k hk=>by rw[e k (by have:=h.rm;omega)]
   ·rw[e i hm]
  i6:=fun Φ hΦ hs k hk=>by rw[<- e k (by have:=h.rm;omega)];exact h.i6 Φ hΦ hs k hk }
theorem Mn (n:Nat):∀(t p r:Nat) (A:Mat),p=r+t+1->p < n->det n (fun i=>A (sw p r i))=- det n A
 |0,p,r,A,h,hp=>by
  subst h;rw[<- lB n r A (by omega)];exact cK fun i j _ _=>by
   show A (sw (r+0+1) r i) j=cH r A i j;unfold sw cH
   by_cases h1:i=r
   ·rw[if_pos h1,if_pos h1]
   ·rw[if_neg h1,if_neg h1]
    by_cases h2:i=r+1
    ·rw[if_pos (by omega),if_pos h2]
    ·rw[if_neg (by omega),if_neg h2]
 |t+1,p,r,A,h,hp=>by
  have ih:=Mn n t (r+t+1) r (cH (r+t+1) A) rfl (by omega);have s1:=lB n (r+t+1) A (by omega);have s2:=lB n (r+t+1) (fun i=>cH (r+t+1) A (sw (r+t+1) r i)) (by omega);have e:det n (fun i=>A (sw p r i))=det n (cH (r+t+1) (fun i=>cH (r+t+1) A (sw (r+t+1) r i))):=cK fun i j _ _=>by
   subst h;show A (sw (r+(t+1)+1) r i) j=cH (r+t+1) (fun i=>cH (r+t+1) A (sw (r+t+1) r i)) i j
   by_cases h1:i=r
   ·have a1:sw (r+(t+1)+1) r i=r+t+1+1:=by unfold sw;rw[if_pos h1];omega
    have a2:sw (r+t+1) r i=r+t+1:=by unfold sw;rw[if_pos h1]
    rw[a1];unfold cH;rw[if_neg (by omega),if_neg (by omega)];dsimp only;rw[a2,if_pos rfl]
   ·by_cases h2:i=r+t+1+1
    ·have a1:sw (r+(t+1)+1) r i=r:=by unfold sw;rw[if_neg h1,if_pos (by omega)]
     have a2:sw (r+t+1) r (r+t+1)=r:=by unfold sw;rw[if_neg (by omega),if_pos rfl]
     rw[a1];unfold cH;rw[if_neg (by omega),if_pos h2];dsimp only;rw[a2,if_neg (by omega),if_neg (by omega)]
    ·have a1:sw (r+(t+1)+1) r i=i:=by unfold sw;rw[if_neg h1,if_neg (by omega)]
     rw[a1]
     by_cases h3:i=r+t+1
     ·have a2:sw (r+t+1) r (r+t+1+1)=r+t+1+1:=by unfold sw;rw[if_neg (by omega),if_neg (by omega)]
      unfold cH;rw[if_pos h3];dsimp only;rw[a2,if_neg (by omega),if_pos rfl,h3]
     ·have a2:sw (r+t+1) r i=i:=by unfold sw;rw[if_neg h1,if_neg h3]
      unfold cH;rw[if_neg h3,if_neg h2];dsimp only;rw[a2,if_neg h3,if_neg h2]
  rw[e,s2,ih,s1];grind
def fG (R:List (List Int))(p r:Nat):List (List Int):=(R.set p (R.getD r [])).set r (R.getD p [])
theorem Uw (R:List (List Int))(p r:Nat):(fG R p r).length=R.length:=by unfold fG;simp
theorem xU {R:List (List Int)}{p r:Nat}(hp:p < R.length)(hr:r < R.length)(i:Nat):(fG R p r).getD i []=R.getD (sw p r i) []:=by
 unfold fG sw;rw[List.getD_eq_getElem?_getD]
 by_cases h1:i=r
 ·rw[if_pos h1,h1,List.getElem?_set_self (by simpa using hr)];rfl
 ·rw[if_neg h1,List.getElem?_set_ne (Ne.symm h1)]
  by_cases h2:i=p
  ·rw[if_pos h2,h2,List.getElem?_set_self hp];rfl
  ·rw[if_neg h2,List.getElem?_set_ne (Ne.symm h2),List.getD_eq_getElem?_getD]
def gE (upper row:List Int)(col:Nat)(dv:Int):List Int:=List.zipWith (fun here above=>Int.fdiv (upper.getD col 0*here - row.getD col 0*above) dv) row upper
def cI (R:List (List Int))(r col:Nat)(dv:Int):List (List Int):=R.mapIdx fun i row=>if i=r then row else gE (R.getD r []) row col dv
theorem El (R:List (List Int))(r col:Nat)(dv:Int):(cI R r col dv).length=R.length:=by unfold cI;simp
theorem oR {R:List (List Int)}{i:Nat}(hi:i < R.length)(r col:Nat)(dv:Int):(cI R r col dv).getD i []=if i=r then R.getD i [] else gE (R.getD r []) (R.getD i []) col dv:=by
 unfold cI;rw[List.getD_eq_getElem?_getD,List.getElem?_mapIdx,List.getElem?_eq_getElem hi];have:R.getD i []=R[i]:=by rw[List.getD_eq_getElem?_getD,List.getElem?_eq_getElem hi];rfl
 rw[this];rfl
structure SI (m w:Nat) (A0:Mat) (R:List (List Int)) (r col:Nat) (d sg:Int):Prop where
 len:R.length=m
 wid:∀i,i < m->(R.getD i []).length=w
 bar:∃A c,Bar m A (at2 R) r col (d:Rat) c/\det m A=(sg:Rat)*det m A0
 one:sg=1\/sg=-1
theorem SI.start {m w:Nat}{R:List (List Int)}(h:R.length=m)(hw:∀i,i < m->(R.getD i []).length=w):SI m w (at2 R) R 0 0 1 1:=
 ⟨h,hw,⟨at2 R,id,by
  have:=Bar.start (m:=m) (A:=at2 R) fun i j=>⟨_,rfl⟩
  simpa using this,by simp⟩,.inl rfl⟩
theorem SI.skip {m w:Nat}{A0:Mat}{R:List (List Int)}{r col:Nat}{d sg:Int}(h:SI m w A0 R r col d sg)(hz:∀i,r<=i->i < m->ent R i col=0):SI m w A0 R r (col+1) d sg:=by
 obtain⟨A,c,B,e⟩:=h.bar;exact⟨h.len,h.wid,⟨A,c,B.skip fun i h1 h2=>by unfold at2;rw[hz i h1 h2];simp,e⟩,h.one⟩
theorem SI.swap {m w:Nat}{A0:Mat}{R:List (List Int)}{r col:Nat}{d sg:Int}(h:SI m w A0 R r col d sg){p:Nat}(hp:r < p)(hm:p < m):SI m w A0 (fG R p r) r col d (-sg):=by
 obtain⟨A,c,B,e⟩:=h.bar;have hl:=h.len;have gd:=fun i=>xU (R:=R) (p:=p) (r:=r) (by omega) (by omega) i;refine⟨(Uw R p r).trans hl,fun i hi=>?_,⟨_,c,(B.swap (by omega) hm).congr fun i hi=>?_,?_⟩,?_⟩
 ·rw[gd i];exact h.wid _ (yR hm (by omega) hi)
 ·funext x
  show (((R.getD (sw p r i) []).getD x 0:Int):Rat)=((((fG R p r).getD i []).getD x 0:Int):Rat)
  rw[gd i]
 ·rw[Mn m (p - r - 1) p r A (by omega) hm,e,Rat.intCast_neg];grind
 ·rcases h.one with z | z
  ·right;omega
  ·left;omega
theorem kP {l:List Int}{x:Nat}(h:x < l.length):l[x]?=some (l.getD x 0):=by rw[List.getD_eq_getElem?_getD,List.getElem?_eq_getElem h];rfl
theorem tX {l:List Int}{x:Nat}(h:l.length<=x):l.getD x 0=0:=by rw[List.getD_eq_getElem?_getD,List.getElem?_eq_none h];rfl
theorem Fh {m w:Nat}{A A0:Mat}{R:List (List Int)}{r col:Nat}{d sg:Int}(h:SI m w A0 R r col d sg){c:Nat->Nat}(B:Bar m A (at2 R) r col (d:Rat) c)(hr:r < m)(hc:col < w)(he:ent R r col≠0){i:Nat}(hi:i < m)(hir:i≠r)(x:Nat) :
  ∃z:Int,(gE (R.getD r []) (R.getD i []) col d).getD x 0=z/\(z:Rat)=clr (at2 R) r col (d:Rat) i x/\(x < w->ent R r col*ent R i x - ent R i col*ent R r x=d*z):=by
 have dn:d≠0:=fun z=>B.dne (by rw[z];simp);have dq:=B.dne;have heq:at2 R r col≠0:=fun z=>he (Rat.intCast_inj.mp (by unfold at2 at z;simpa using z));have wi:=h.wid i hi;have wr:=h.wid r hr
 by_cases hx:x < w
 ·obtain⟨z,hz⟩:=B.wV hr heq i x hi;have e1:ent R r col*ent R i x - ent R i col*ent R r x=d*z:=by
   rw[kR _ hir] at hz;have:((ent R r col*ent R i x - ent R i col*ent R r x:Int):Rat)=((d*z:Int):Rat):=by
    rw[Rat.intCast_sub,Rat.intCast_mul,Rat.intCast_mul,Rat.intCast_mul,<- hz];show at2 R r col*at2 R i x - at2 R i col*at2 R r x=_;grind
   exact Rat.intCast_inj.mp this
  refine⟨z,?_,hz.symm,fun _=>e1⟩;unfold gE;have g1:(R.getD i [])[x]?=some ((R.getD i []).getD x 0):=kP (by omega);have g2:(R.getD r [])[x]?=some ((R.getD r []).getD x 0):=kP (by omega);rw[List.getD_eq_getElem?_getD (l:=List.zipWith _ _ _),List.getElem?_zipWith,g1,g2];exact fL dn e1
 ·refine⟨0,?_,?_,fun h=>absurd h hx⟩
  ·unfold gE;exact tX (by rw[List.length_zipWith,wi,wr];omega)
  ·rw[kR _ hir];have a1:at2 R i x=0:=by unfold at2 ent;rw[tX (by omega)];simp
   have a2:at2 R r x=0:=by unfold at2 ent;rw[tX (by omega)];simp
   rw[a1,a2];simp;grind
theorem SI.clear {m w:Nat}{A0:Mat}{R:List (List Int)}{r col:Nat}{d sg:Int}(h:SI m w A0 R r col d sg)(hr:r < m)(hc:col < w)(he:ent R r col≠0):SI m w A0 (cI R r col d) (r+1) (col+1) (ent R r col) sg:=by
 obtain⟨A,c,B,e⟩:=h.bar;have hl:=h.len;have heq:at2 R r col≠0:=fun z=>he (Rat.intCast_inj.mp (by unfold at2 at z;simpa using z));refine⟨(El R r col d).trans hl,fun i hi=>?_,⟨A,_,(B.clear hr heq).congr fun i hi=>?_,e⟩,h.one⟩
 ·rw[oR (by omega)];split
  ·exact h.wid i hi
  ·unfold gE;rw[List.length_zipWith,h.wid i hi,h.wid r hr,Nat.min_self]
 ·funext x
  show clr (at2 R) r col (d:Rat) i x=((((cI R r col d).getD i []).getD x 0:Int):Rat)
  rw[oR (by omega)]
  by_cases hir:i=r
  ·rw[if_pos hir,hir,xH];rfl
  ·rw[if_neg hir];obtain⟨z,h1,h2,_⟩:=Fh h B hr hc he hi hir x;rw[h1,h2]
def BdR (n:Nat)(R:List (List Int)):Prop:=∀i x,B n (ent R i x)
theorem SI.whole {m w:Nat}{A0:Mat}{R:List (List Int)}{d sg:Int}(h:SI m w A0 R m m d sg):det m A0=(sg:Rat)*(d:Rat):=by
 obtain⟨A,c,B,e⟩:=h.bar;have f:=B.full rfl;have i5:=B.i5;have:det m (fun i j=>A i (c j))=det m A:=cK fun i j _ hj=>by show A i (c j)=A i j;rw[f j hj]
 rw[this,e] at i5;rcases h.one with z | z
 ·rw[z] at i5 ⊢;simp at i5 ⊢;exact i5
 ·rw[z,Rat.intCast_neg] at i5 ⊢;simp at i5 ⊢;grind
theorem SI.lame {m w:Nat}{A0:Mat}{R:List (List Int)}{r:Nat}{d sg:Int}(h:SI m w A0 R r m d sg)(hr:r < m):det m A0=0:=by
 obtain⟨A,c,B,e⟩:=h.bar;obtain⟨n,rfl⟩:∃n,m=n+1:=⟨m - 1,by omega⟩
 have dq:=B.dne;have e1:det (n+1) A=F n A id (A n):=by
  unfold F;exact cK fun i j hi _=>by
   unfold xJ
   by_cases z:i=n
   ·rw[if_pos z,z];rfl
   ·rw[if_neg z];rfl
 have hΦ:=Fn n A id;have z:=B.i6 _ hΦ fun s hs=>Dm n A id (by omega);have eA:A n=fun x=>(fun x=>(1 / (d:Rat))*at2 R n x) x+(1 / (d:Rat))*(fun x=>rs r fun k=>A n (c k)*at2 R k x) x:=by
  funext x
  have:=B.i4 n x (by omega);rw[if_neg (by omega)] at this;show A n x=(1 / (d:Rat))*at2 R n x+(1 / (d:Rat))*(rs r fun k=>A n (c k)*at2 R k x)
  grind
 have zs:(rs r fun k=>A n (c k)*F n A id (at2 R k))=0:=by
  have:(rs r fun k=>A n (c k)*F n A id (at2 R k))=rs r fun _=>0:=aK fun k hk=>by rw[z k hk];grind
  rw[this,cW]
 have zn:F n A id (at2 R n)=0:=by
  rw[Ii];have:(rs (n+1) fun j=>sgn (n+j)*at2 R n (id j)*det n fun i k=>A i (id (Mq.skip j k)))=rs (n+1) fun _=>0:=aK fun j hj=>by
   rw[show at2 R n (id j)=0 from B.i3 n j (by omega) (by omega) hj];grind
  rw[this,cW]
 have:det (n+1) A=0:=by
  rw[e1,eA,hΦ,hΦ.mul,hΦ.sum,zs,zn];grind
 rw[this] at e;rcases h.one with q | q
 ·rw[q] at e;simp at e;exact e.symm
 ·rw[q,Rat.intCast_neg] at e;simp at e;grind
def Im:Nat->(Nat->Rat)->Rat
 |0,_=>1
 |n+1,b=>Im n b*b n
theorem qJ:∀(n:Nat) (b:Nat->Rat) (Q:Mat),det n (fun i j=>b i*Q i j)=Im n b*det n Q
 |0,_,_=>by simp[det,Im]
 |n+1,b,Q=>by
  rw[fP,fP,<- eK];refine aK fun j _=>?_;have:=qJ n b (fun i k=>Q i (Mq.skip j k));show sgn (n+j)*(b n*Q n j)*det n (fun i k=>b i*Q i (Mq.skip j k))=Im n b*b n*_;rw[this];grind
end Mq
namespace Shp
open PySem L2
inductive Imx (D:Addr) (H:Hp):List V->List (List Int)->Prop where
 |nil:Imx D H [] []
 |cons {u:Addr} {r:List Int} {us:List V} {R:List (List Int)} (ne:u≠D) (h:H u=some (.lst (r.map V.int))) (q:Imx D H us R):Imx D H (.ref u :: us) (r :: R)
theorem Imx.same {D:Addr}{H H':Hp}(e:bG H H'):∀{xs:List V} {R:List (List Int)},Imx D H xs R->Imx D H' xs R
 |_,_,.nil=>.nil
 |_,_,.cons n h q=>.cons n (e _ _ h) (q.same e)
theorem Imx.upd {D:Addr}{H:Hp}{o:HO}:∀{xs:List V} {R:List (List Int)},Imx D H xs R->Imx D (L2.upd H D o) xs R
 |_,_,.nil=>.nil
 |_,_,.cons n h q=>.cons n (by rw[bC n];exact h) q.upd
theorem Imx.length {D:Addr}{H:Hp}:∀{xs:List V} {R:List (List Int)},Imx D H xs R->xs.length=R.length
 |_,_,.nil=>rfl
 |_,_,.cons _ _ q=>by rw[List.length_cons,List.length_cons,q.length]
theorem Imx.get {D:Addr}{H:Hp}:∀{xs:List V} {R:List (List Int)} {i:Nat} {x:V},Imx D H xs R->xs[i]?=some x->∃u r,x=.ref u/\R[i]?=some r/\u≠D/\H u=some (.lst (r.map V.int))
 |_,_,0,_,.cons n h q,e=>by simp at e;exact⟨_,_,e.symm,rfl,n,h⟩
 |_,_,i+1,_,.cons n h q,e=>by simp at e;exact q.get e
theorem Imx.at {D:Addr}{H:Hp}{xs:List V}{R:List (List Int)}(h:Imx D H xs R){i:Nat}(hi:i < R.length):∃u,xs[i]?=some (.ref u)/\u≠D/\H u=some (.lst ((R.getD i []).map V.int)):=by
 have hx:i < xs.length:=by rw[h.length];exact hi
 obtain⟨u,r,e1,e2,e3,e4⟩:=h.get (List.getElem?_eq_getElem hx);refine⟨u,by rw[List.getElem?_eq_getElem hx,e1],e3,?_⟩;rw[List.getD_eq_getElem?_getD,e2];exact e4
theorem Imx.app {D:Addr}{H:Hp}:∀{xs ys:List V} {R S:List (List Int)},Imx D H xs R->Imx D H ys S->Imx D H (xs++ys) (R++S)
 |_,_,_,_,.nil,k=>k
 |_,_,_,_,.cons n h q,k=>.cons n h (q.app k)
theorem Imx.set {D:Addr}{H:Hp}{u:Addr}{r:List Int}(hn:u≠D)(hu:H u=some (.lst (r.map V.int))):∀{xs:List V} {R:List (List Int)} (i:Nat),Imx D H xs R->Imx D H (xs.set i (.ref u)) (R.set i r)
 |_,_,_,.nil=>by simp;exact .nil
 |_,_,0,.cons n h q=>.cons hn hu q
 |_,_,i+1,.cons n h q=>.cons n h (q.set hn hu i)
theorem Imx.other {D D':Addr}{H:Hp}(hD:H D'=none):∀{xs:List V} {R:List (List Int)},Imx D H xs R->Imx D' H xs R
 |_,_,.nil=>.nil
 |_,_,.cons n h q=>.cons (fun z=>by rw[z,hD] at h;cases h) h (q.other hD)
theorem jW {l:List Int}{i:Nat}(h:i < l.length):(l.map V.int)[i]?=some (.int (l.getD i 0)):=by
 rw[List.getElem?_map,Mq.kP h];rfl
def Rt (K:PySem.W.Frag):Sp:=fun vs H Q _=>∃(a:Addr) (xs:List V) (ps:List Mq.Q2) (n:Nat),vs=[.ref a]/\SqL K H a xs/\Fqs K H xs ps/\Mq.Pos ps/\(∀p∈ps,Mq.Bd n p)/\ps.length<=100/\10+n+n*ps.length<=8000/\
 ∀t l H',bG H H'->H l=none->SqT K H' t [.ref l,.int (Mq.dI ps)]->H' l=some (.lst ((Mq.iw ps).map V.int))->Q (.ref t) H'
def Rn (K:PySem.W.Frag):Sp:=fun vs H Q _=>∃(l D:Addr) (zs:List V) (R:List (List Int)) (r c m w:Nat),vs=[.ref l,.int (r:Int),.int (c:Int)]/\SqL K H l zs/\Imx D H zs R/\R.length=m/\(∀i,i < m->(R.getD i []).length=w)/\c < w/\r<=m/\m<=100/\
 (∀p,r<=p->p < m->Mq.ent R p c≠0->Q (.int (p:Int)) H)/\((∀i,r<=i->i < m->Mq.ent R i c=0)->Q .non H)
def vQ (K:PySem.W.Frag):Sp:=fun vs H Q _=>∃(u v:Addr) (row upper:List Int) (c n:Nat) (dv:Int),vs=[.ref u,.ref v,.int (c:Int),.int dv]/\SqL K H u (row.map V.int)/\SqL K H v (upper.map V.int)/\row.length=upper.length/\row.length<=100/\c < row.length/\dv≠0/\
 (∀i,Mq.B n (row.getD i 0))/\(∀i,Mq.B n (upper.getD i 0))/\Mq.B n dv/\n<=9000/\
 ∀l H',bG H H'->H l=none->H' l=some (.lst ((Mq.gE upper row c dv).map V.int))->Q (.ref l) H'
def wD (K:PySem.W.Frag):Sp:=fun vs H Q _=>∃(l D:Addr) (zs:List V) (R:List (List Int)) (r c m w n:Nat) (dv:Int),vs=[.ref l,.int (r:Int),.int (c:Int),.int dv]/\SqL K H l zs/\Imx D H zs R/\R.length=m/\(∀i,i < m->(R.getD i []).length=w)/\c < w/\w<=100/\r < m/\m<=100/\dv≠0/\Mq.BdR n R/\Mq.B n dv/\n<=9000/\
 ∀l' zs' H',bG H H'->H l'=none->H' l'=some (.lst zs')->Imx l' H' zs' (Mq.cI R r c dv)->Q (.ref l') H'
def Jb (l:Addr)(rank:Nat)(pivot sign:Int):HO:=.dK (iX [] [(.inr "rows",.ref l),(.inr "rank",.int (rank:Int)),(.inr "pivot",.int pivot),(.inr "sign",.int sign)])
def wgt (X:List (List Mq.Q2)):Rat:=Mq.det X.length fun i j=>Mq.val ((X.getD i []).getD j Mq.z0)
theorem zG {H:Hp}{d l:Addr}{rank:Nat}{pivot sign:Int}(h:H d=some (Jb l rank pivot sign)):jE H d (.str "rows") (some (.ref l))/\jE H d (.str "rank") (some (.int (rank:Int)))/\jE H d (.str "pivot") (some (.int pivot))/\jE H d (.str "sign") (some (.int sign)):=by
 refine⟨?_,?_,?_,?_⟩
 ·exact jE.k (k:=(Sum.inr "rows":Key)) h
 ·exact jE.k (k:=(Sum.inr "rank":Key)) h
 ·exact jE.k (k:=(Sum.inr "pivot":Key)) h
 ·exact jE.k (k:=(Sum.inr "sign":Key)) h
def qZ (X:List (List Mq.Q2)):Int:=X.foldl (fun b row=>b*Mq.dI row) 1
theorem vJ {X:List (List Mq.Q2)}{i:Nat}{row:List Mq.Q2}(h:X[i]?=some row):qZ (X.take (i+1))=qZ (X.take i)*Mq.dI row:=by
 unfold qZ;rw[List.take_add_one,h,List.foldl_append];rfl
theorem pY (X:List (List Mq.Q2)):∀i,i<=X.length->((qZ (X.take i):Int):Rat)=Mq.Im i fun k=>((Mq.dI (X.getD k []):Int):Rat)
 |0,_=>by simp[qZ,Mq.Im]
 |i+1,h=>by
  have e:X[i]?=some (X.getD i []):=by rw[List.getD_eq_getElem?_getD,List.getElem?_eq_getElem (by omega)];rfl
  rw[vJ e,Rat.intCast_mul,pY X i (by omega)];rfl
theorem yM {X:List (List Mq.Q2)}(hX:Mq.fF X):∀i,i<=X.length->1<=qZ (X.take i)
 |0,_=>by show (1:Int)<=1;omega
 |i+1,h=>by
  have e:X[i]?=some (X.getD i []):=by rw[List.getD_eq_getElem?_getD,List.getElem?_eq_getElem (by omega)];rfl
  rw[vJ e];have h1:=yM hX i (by omega);have h2:=Mq.rH (hX _ (List.mem_of_getElem? e));have:=Int.mul_pos (show 0 < qZ (X.take i) by omega) (show 0 < Mq.dI (X.getD i []) by omega);omega
theorem Mg {row:List Mq.Q2}(hp:Mq.Pos row){j:Nat}(hj:j < row.length):(((Mq.iw row).getD j 0:Int):Rat)=((Mq.dI row:Int):Rat)*Mq.val (row.getD j Mq.z0):=by
 have ej:row[j]?=some (row.getD j Mq.z0):=by rw[List.getD_eq_getElem?_getD,List.getElem?_eq_getElem hj];rfl
 have mem:row.getD j Mq.z0∈row:=List.mem_of_getElem? ej;obtain⟨k,hk⟩:=Mq.zX hp _ mem;have e2:(Mq.iw row).getD j 0=Mq.Ax (Mq.dI row) (row.getD j Mq.z0):=by
  unfold Mq.iw;rw[List.getD_eq_getElem?_getD,List.getElem?_map,ej];rfl
 rw[e2,Mq.Mi (hp _ mem) hk];grind
theorem tJ (row:List Mq.Q2):(Mq.iw row).length=row.length:=by unfold Mq.iw;simp
end Shp
set_option maxHeartbeats 1000000
namespace Mq
theorem kU (m a:Nat)(v:Rat)(h:a < m):(rs m fun i=>if i=a then v else 0)=v:=by
 induction m with
 |zero=>omega
 |succ m ih=>
  simp only[rs]
  by_cases e:m=a
  ·subst e;rw[if_pos rfl];have:(rs m fun i=>if i=m then v else 0)=rs m fun _=>0:=aK fun i hi=>by rw[if_neg (by omega)]
   rw[this,cW];grind
  ·rw[if_neg e,ih (by omega)];grind
theorem Wz (m p r:Nat)(hp:p < m)(hr:r < m)(F:Nat->Rat):(rs m fun i=>F (sw p r i))=rs m F:=by
 by_cases e:p=r
 ·subst e;exact aK fun i _=>by
   congr 1;unfold sw
   by_cases h:i=p
   ·rw[if_pos h,h]
   ·rw[if_neg h,if_neg h]
 have:(rs m fun i=>F (sw p r i))=rs m fun i=>F i+((if i=r then F p - F r else 0)+(if i=p then F r - F p else 0)):=aK fun i _=>by
  unfold sw
  by_cases h1:i=r
  ·rw[if_pos h1,if_pos h1,if_neg (by omega),h1];grind
  ·rw[if_neg h1,if_neg h1]
   by_cases h2:i=p
   ·rw[if_pos h2,if_pos h2,h2];grind
   ·rw[if_neg h2,if_neg h2];grind
 rw[this,dA,dA,kU m r _ hr,kU m p _ hp];grind
structure LI (m:Nat) (Aq:Mat) (R:List (List Int)):Prop where
 lin:∀i x,i < m->x < m->at2 R i x=rs m fun k=>at2 R i (m+k)*Aq k x
 ind:∀lam:Nat->Rat,(∀j,j < m->(rs m fun i=>lam i*at2 R i (m+j))=0)->∀i,i < m->lam i=0
theorem pX {R:List (List Int)}{p r:Nat}(hp:p < R.length)(hr:r < R.length)(i x:Nat):at2 (fG R p r) i x=at2 R (sw p r i) x:=by
 show ((((fG R p r).getD i []).getD x 0:Int):Rat)=_;rw[xU hp hr];rfl
theorem LI.swap {m:Nat}{Aq:Mat}{R:List (List Int)}(h:LI m Aq R)(hl:R.length=m){p r:Nat}(hp:p < m)(hr:r < m):LI m Aq (fG R p r) where
 lin:=fun i x hi hx=>by
  rw[pX (by omega) (by omega),h.lin _ x (yR hp hr hi) hx];exact aK fun k _=>by rw[pX (by omega) (by omega)]
 ind:=fun lam hz i hi=>by
  have:=h.ind (fun i=>lam (sw p r i)) (fun j hj=>by
   rw[<- hz j hj,<- Wz m p r hp hr];exact aK fun i _=>by
    show lam (sw p r (sw p r i))*_=_;rw[Nf,pX (by omega) (by omega)]) (sw p r i) (yR hp hr hi)
  have e:lam (sw p r (sw p r i))=0:=this
  rwa [Nf] at e
theorem rM {m w:Nat}{A0:Mat}{R:List (List Int)}{r col:Nat}{d sg:Int}(h:SI m w A0 R r col d sg)(hr:r < m)(hc:col < w)(he:ent R r col≠0){i:Nat}(hi:i < m)(x:Nat) :
  at2 (cI R r col d) i x=if i=r then at2 R i x else (at2 R r col*at2 R i x - at2 R i col*at2 R r x) / (d:Rat):=by
 obtain⟨A,c,B,e⟩:=h.bar;have hl:=h.len;show ((((cI R r col d).getD i []).getD x 0:Int):Rat)=_;rw[oR (by omega)]
 by_cases hir:i=r
 ·rw[if_pos hir,if_pos hir];rfl
 ·rw[if_neg hir,if_neg hir];obtain⟨z,h1,h2,_⟩:=Fh h B hr hc he hi hir x;rw[h1,h2,kR _ hir]
theorem SI.dne {m w:Nat}{A0:Mat}{R:List (List Int)}{r col:Nat}{d sg:Int}(h:SI m w A0 R r col d sg):(d:Rat)≠0:=by
 obtain⟨A,c,B,e⟩:=h.bar;exact B.dne
theorem LI.clear {m w:Nat}{Aq A0:Mat}{R:List (List Int)}{r col:Nat}{d sg:Int}(h:LI m Aq R)(s:SI m w A0 R r col d sg)(hr:r < m)(hc:col < w)(he:ent R r col≠0):LI m Aq (cI R r col d):=by
 have dn:=s.dne;have hn:at2 R r col≠0:=fun z=>he (Rat.intCast_inj.mp (by unfold at2 at z;simpa using z));have cl:=fun (i:Nat) (hi:i < m) (x:Nat)=>rM s hr hc he hi x;refine⟨fun i x hi hx=>?_,fun lam hz i hi=>?_⟩
 ·rw[cl i hi x]
  by_cases e:i=r
  ·rw[if_pos e,h.lin i x hi hx];exact aK fun k _=>by rw[cl i hi,if_pos e]
  ·rw[if_neg e,h.lin i x hi hx,h.lin r x hr hx];have:(rs m fun k=>at2 (cI R r col d) i (m+k)*Aq k x)=rs m fun k=>(at2 R r col / (d:Rat))*(at2 R i (m+k)*Aq k x)+(-(at2 R i col / (d:Rat)))*(at2 R r (m+k)*Aq k x):=aK fun k _=>by rw[cl i hi,if_neg e];grind
   rw[this,dA,eK,eK];grind
 ·-- the factors of the rows as they were
  have key:=h.ind (fun i=>if i=r then lam r - (rs m fun k=>if k=r then 0 else lam k*(at2 R k col / (d:Rat))) else lam i*(at2 R r col / (d:Rat))) (fun j hj=>by
   have e0:=hz j hj;have e1:(rs m fun i=>lam i*at2 (cI R r col d) i (m+j))=rs m fun i=>(if i=r then lam r*at2 R r (m+j) else 0)+((if i=r then 0 else lam i*(at2 R r col / (d:Rat))*at2 R i (m+j))+(-(at2 R r (m+j)))*(if i=r then 0 else lam i*(at2 R i col / (d:Rat)))):=aK fun i hi=>by
    rw[cl i hi]
    by_cases e:i=r
    ·rw[if_pos e,if_pos e,if_pos e,if_pos e,e];grind
    ·rw[if_neg e,if_neg e,if_neg e,if_neg e];grind
   rw[e1,dA,dA,eK,kU m r _ hr] at e0;have e2:(rs m fun i=>(if i=r then lam r - (rs m fun k=>if k=r then 0 else lam k*(at2 R k col / (d:Rat))) else lam i*(at2 R r col / (d:Rat)))*at2 R i (m+j))=rs m fun i=>(if i=r then (lam r - (rs m fun k=>if k=r then 0 else lam k*(at2 R k col / (d:Rat))))*at2 R r (m+j) else 0)+(if i=r then 0 else lam i*(at2 R r col / (d:Rat))*at2 R i (m+j)):=aK fun i _=>by
    by_cases e:i=r
    ·rw[if_pos e,if_pos e,if_pos e,e];grind
    ·rw[if_neg e,if_neg e,if_neg e];grind
   rw[e2,dA,kU m r _ hr];grind)
  have other:∀k,k < m->k≠r->lam k=0:=fun k hk e=>by
   have:=key k hk;rw[if_neg e] at this;have n2:at2 R r col / (d:Rat)≠0:=fun z=>hn (by grind);grind
  by_cases e:i=r
  ·have:=key r hr;rw[if_pos rfl] at this;have z:(rs m fun k=>if k=r then 0 else lam k*(at2 R k col / (d:Rat)))=rs m fun _=>0:=aK fun k hk=>by
    by_cases e:k=r
    ·rw[if_pos e]
    ·rw[if_neg e,other k hk e];grind
   rw[z,cW] at this;rw[e];grind
  ·exact other i hi e
theorem LI.lame {m w:Nat}{Aq A0:Mat}{R:List (List Int)}{d sg:Int}{r:Nat}(h:LI m Aq R)(s:SI m w A0 R r m d sg)(hr:r < m):(∃k,k < m/\ent R (m - 1) (m+k)≠0)/\∀x,x < m->(rs m fun k=>at2 R (m - 1) (m+k)*Aq k x)=0:=by
 obtain⟨A,c,B,e⟩:=s.bar;refine⟨Classical.byContradiction fun n=>?_,fun x hx=>?_⟩
 ·have all:∀k,k < m->ent R (m - 1) (m+k)=0:=fun k hk=>Classical.byContradiction fun z=>n ⟨k,hk,z⟩;have:=h.ind (fun i=>if i=m - 1 then 1 else 0) (fun j hj=>by
   have:(rs m fun i=>(if i=m - 1 then (1:Rat) else 0)*at2 R i (m+j))=rs m fun _=>0:=aK fun i _=>by
    by_cases e:i=m - 1
    ·rw[if_pos e,e];have:at2 R (m - 1) (m+j)=0:=by unfold at2;rw[all j hj];simp
     rw[this];grind
    ·rw[if_neg e];grind
   rw[this,cW]) (m - 1) (by omega)
  rw[if_pos rfl] at this;grind
 ·rw[<- h.lin (m - 1) x (by omega) hx];exact B.i3 (m - 1) x (by omega) (by omega) hx
end Mq
set_option maxHeartbeats 2000000
namespace PySem
open Sem (wp)
section
variable {prog:Program} {w:World} {A:Around} {E:Value->Shared->Prop} {h:Heap} {g:Array GenState} {d:Drawn} {t:Nat} {os:OsState}
variable {nm q:Str} {C N f:Addr} {bs bm bmB:List Value} {hdct:Bool} {sn:List Str} {sub:List Value} {ab:Bool} {col:Option Bool} {dd:Option Addr} {k0 k1 k2 k3 k5:Option Value} {B Bn newId nid initId inN:String} {bmN:List Value}
abbrev Ty (h:Heap)(C:Addr)(rest:List Value):Heap:=(h.push { cls:=.type "tuple",data:=.seq rest.toArray }).push { cls:=.ref C,data:=.fields #[.ref h.objs.size,.none,.none,.none,.bool false,.none] }
end
end PySem
set_option maxHeartbeats 4000000
namespace Shp
open PySem L2
inductive Fmd (K:PySem.W.Frag) (H0:Hp) (D:Addr) (H:Hp):List V->List (List Mq.Q2)->Prop where
 |nil:Fmd K H0 D H [] []
 |cons {u:Addr} {xs:List V} {ps:List Mq.Q2} {us:List V} {X:List (List Mq.Q2)} (n0:H0 u=none) (ne:u≠D) (h:H u=some (.lst xs)) (f:Fqs K H xs ps) (q:Fmd K H0 D H us X):Fmd K H0 D H (.ref u :: us) (ps :: X)
theorem Fmd.same {K:PySem.W.Frag}{H0:Hp}{D:Addr}{H H':Hp}(e:bG H H'):∀{xs:List V} {X:List (List Mq.Q2)},Fmd K H0 D H xs X->Fmd K H0 D H' xs X
 |_,_,.nil=>.nil
 |_,_,.cons n0 n h f q=>.cons n0 n (e _ _ h) (f.same e) (q.same e)
theorem Fmd.length {K:PySem.W.Frag}{H0:Hp}{D:Addr}{H:Hp}:∀{xs:List V} {X:List (List Mq.Q2)},Fmd K H0 D H xs X->xs.length=X.length
 |_,_,.nil=>rfl
 |_,_,.cons _ _ _ _ q=>by rw[List.length_cons,List.length_cons,q.length]
def pF (X:List (List Mq.Q2)):Mq.Mat:=fun i j=>Mq.val ((X.getD i []).getD j Mq.z0)
def lZ (m i:Nat)(row:List Mq.Q2):List Int:=Mq.iw row++(List.range m).map fun c=>if c=i then Mq.dI row else 0
def jL (X:List (List Mq.Q2)):List (List Int):=X.mapIdx fun i row=>lZ X.length i row
theorem Nh (X:List (List Mq.Q2)):(jL X).length=X.length:=by unfold jL;simp
theorem rR {X:List (List Mq.Q2)}{i:Nat}(h:i < X.length):(jL X).getD i []=lZ X.length i (X.getD i []):=by
 unfold jL;rw[List.getD_eq_getElem?_getD,List.getElem?_mapIdx,List.getD_eq_getElem?_getD,List.getElem?_eq_getElem h];rfl
theorem uT {X:List (List Mq.Q2)}{i:Nat}(h:i < X.length):X[i]?=some (X.getD i []):=by rw[List.getD_eq_getElem?_getD,List.getElem?_eq_getElem h];rfl
theorem zQ (m i:Nat)(row:List Mq.Q2):(lZ m i row).length=row.length+m:=by unfold lZ;simp[tJ]
theorem wT {X:List (List Mq.Q2)}(hX:Mq.fF X)(hw:∀row∈X,row.length=X.length){i x:Nat}(hi:i < X.length)(hx:x < X.length):Mq.at2 (jL X) i x=((Mq.dI (X.getD i []):Int):Rat)*pF X i x:=by
 have mem:=List.mem_of_getElem? (uT hi);show ((((jL X).getD i []).getD x 0:Int):Rat)=_;rw[rR hi];unfold lZ;have l:=hw _ mem;rw[List.getD_eq_getElem?_getD,List.getElem?_append_left (by rw[tJ];omega),<- List.getD_eq_getElem?_getD];exact Mg (hX _ mem) (by omega)
theorem uC {X:List (List Mq.Q2)}(hw:∀row∈X,row.length=X.length){i k:Nat}(hi:i < X.length)(hk:k < X.length):Mq.ent (jL X) i (X.length+k)=if k=i then Mq.dI (X.getD i []) else 0:=by
 have mem:=List.mem_of_getElem? (uT hi);unfold Mq.ent;rw[rR hi];unfold lZ;have l:=hw _ mem;rw[List.getD_eq_getElem?_getD,List.getElem?_append_right (by rw[tJ];omega),tJ,l,Nat.add_sub_cancel_left,List.getElem?_map,List.getElem?_range hk];rfl
theorem Qp {X:List (List Mq.Q2)}(hX:Mq.fF X)(hw:∀row∈X,row.length=X.length):Mq.LI X.length (pF X) (jL X) where
 lin:=fun i x hi hx=>by
  rw[wT hX hw hi hx];have:(Mq.rs X.length fun k=>Mq.at2 (jL X) i (X.length+k)*pF X k x)=Mq.rs X.length fun k=>if k=i then ((Mq.dI (X.getD i []):Int):Rat)*pF X i x else 0:=Mq.aK fun k hk=>by
   show ((Mq.ent (jL X) i (X.length+k):Int):Rat)*_=_;rw[uC hw hi hk]
   by_cases e:k=i
   ·rw[if_pos e,if_pos e,e]
   ·rw[if_neg e,if_neg e];simp
  rw[this,Mq.kU _ _ _ hi]
 ind:=fun lam hz i hi=>by
  have e:=hz i hi;have:(Mq.rs X.length fun j=>lam j*Mq.at2 (jL X) j (X.length+i))=Mq.rs X.length fun j=>if j=i then lam i*((Mq.dI (X.getD i []):Int):Rat) else 0:=Mq.aK fun k hk=>by
   show _*((Mq.ent (jL X) k (X.length+i):Int):Rat)=_;rw[uC hw hk hi]
   by_cases e:k=i
   ·rw[if_pos e,if_pos e.symm,e]
   ·rw[if_neg e,if_neg (Ne.symm e)];simp
  rw[this,Mq.kU _ _ _ hi] at e;have g:=Mq.rH (hX _ (List.mem_of_getElem? (uT hi)));have n:=Mq.dW (show Mq.dI (X.getD i [])≠0 by omega);grind
theorem Oi {X:List (List Mq.Q2)}{R:List (List Int)}(h:∀i j,i < X.length->j < X.length->Mq.at2 R i j=((Mq.dI (X.getD i []):Int):Rat)*pF X i j):Mq.det X.length (Mq.at2 R)=((qZ X:Int):Rat)*wgt X:=by
 unfold wgt;have hb:=pY X X.length (Nat.le_refl _);rw[List.take_length] at hb;rw[hb,<- Mq.qJ];exact Mq.cK fun i j hi hj=>h i j hi hj
theorem Ms {X:List (List Mq.Q2)}{R R':List (List Int)}{w r:Nat}{d sg:Int}(hX:Mq.fF X)(hR:Mq.det X.length (Mq.at2 R)=((qZ X:Int):Rat)*wgt X)(h:Mq.SI X.length w (Mq.at2 R) R' r X.length d sg):(r < X.length/\wgt X=0)\/(r=X.length/\wgt X≠0):=by
 have b1:=yM hX X.length (Nat.le_refl _);rw[List.take_length] at b1;have bn:=Mq.dW (show qZ X≠0 by omega);obtain⟨A,c,B,e⟩:=h.bar;have rm:=B.rm;have dn:=B.dne;clear B
 by_cases hr:r < X.length
 ·left
  have e:=h.lame hr;rw[hR] at e;exact⟨hr,by grind⟩
 ·right
  have er:r=X.length:=by omega
  subst er;refine⟨rfl,fun z=>?_⟩;have e:=h.whole;rw[hR,z] at e;rcases h.one with q | q
  ·rw[q] at e;simp at e;grind
  ·rw[q,Rat.intCast_neg] at e;simp at e;grind
structure Stp (m w:Nat) (A0:Mq.Mat) (Pr:List (List Int)->Prop):Prop where
 sw:∀R r col d sg p,Mq.SI m w A0 R r col d sg->r < p->p < m->Pr R->Pr (Mq.fG R p r)
 cl:∀R r col d sg,Mq.SI m w A0 R r col d sg->r < m->col < w->Mq.ent R r col≠0->Pr R->Pr (Mq.cI R r col d)
theorem Tf {m w:Nat}{A0 Aq:Mq.Mat}:Stp m w A0 (Mq.LI m Aq):=
 ⟨fun R r col d sg p s h1 h2 h=>h.swap s.len h2 (by omega),fun R r col d sg s h1 h2 h3 h=>h.clear s h1 h2 h3⟩
end Shp
set_option maxHeartbeats 2000000
set_option maxHeartbeats 4000000
namespace Mq
theorem Vs {row:List Q2}{j:Nat}(h:j < row.length):row[j]?=some (row.getD j z0):=by rw[List.getD_eq_getElem?_getD,List.getElem?_eq_getElem h];rfl
end Mq
namespace Shp
open PySem L2
theorem Fmd.get {K:PySem.W.Frag}{H0:Hp}{D:Addr}{H:Hp}:∀{xs:List V} {X:List (List Mq.Q2)} {i:Nat} {x:V},Fmd K H0 D H xs X->xs[i]?=some x->∃u ys ps,x=.ref u/\X[i]?=some ps/\H0 u=none/\u≠D/\H u=some (.lst ys)/\Fqs K H ys ps
 |_,_,0,_,.cons n0 n h f q,e=>by simp at e;exact⟨_,_,_,e.symm,rfl,n0,n,h,f⟩
 |_,_,i+1,_,.cons n0 n h f q,e=>by simp at e;exact q.get e
end Shp
set_option maxHeartbeats 1000000
namespace Mq
def KI (m:Nat)(A0:Mat)(R:List (List Int)):Prop:=∀Φ,Lin Φ->(∀k,k < m->Φ (at2 R k)=0)->∀i,i < m->Φ (A0 i)=0
theorem KI.swap {m:Nat}{A0:Mat}{R:List (List Int)}(h:KI m A0 R)(hl:R.length=m){p r:Nat}(hp:p < m)(hr:r < m):KI m A0 (fG R p r):=fun Φ lin hz=>by
 refine h Φ lin fun k hk=>?_;have e:at2 R k=at2 (fG R p r) (sw p r k):=by
  funext x
  rw[pX (by omega) (by omega),Nf]
 rw[e];exact hz _ (yR hp hr hk)
theorem KI.clear {m w:Nat}{A0 A1:Mat}{R:List (List Int)}{r col:Nat}{d sg:Int}(h:KI m A1 R)(s:SI m w A0 R r col d sg)(hr:r < m)(hc:col < w)(he:ent R r col≠0):KI m A1 (cI R r col d):=fun Φ lin hz=>by
 have dn:=s.dne;have hn:at2 R r col≠0:=fun z=>he (Rat.intCast_inj.mp (by unfold at2 at z;simpa using z));have cl:=fun (i:Nat) (hi:i < m) (x:Nat)=>rM s hr hc he hi x;have zr:Φ (at2 R r)=0:=by
  have e:at2 R r=at2 (cI R r col d) r:=by funext x;rw[cl r hr x,if_pos rfl]
  rw[e];exact hz r hr
 refine h Φ lin fun k hk=>?_
 by_cases e:k=r
 ·rw[e];exact zr
 ·have e2:at2 R k=fun x=>(fun x=>((d:Rat) / at2 R r col)*at2 (cI R r col d) k x) x+(at2 R k col / at2 R r col)*at2 R r x:=by
   funext x
   show _=((d:Rat) / at2 R r col)*at2 (cI R r col d) k x+_;rw[cl k hk x,if_neg e];grind
  rw[e2,lin,lin.mul,hz k hk,zr];grind
theorem KI.whole {m w:Nat}{A0 A1:Mat}{R:List (List Int)}{d sg:Int}(h:KI m A1 R)(s:SI m w A0 R m m d sg){i:Nat}(hi:i < m):(rs m fun k=>A1 i k*(at2 R k m / (d:Rat)))=A1 i m:=by
 obtain⟨A,c,B,e⟩:=s.bar;have dn:=B.dne;have:=h (fun f=>(rs m fun k=>f k*(at2 R k m / (d:Rat))) - f m) (fun x y l=>by
  have:(rs m fun k=>(x k+l*y k)*(at2 R k m / (d:Rat)))=(rs m fun k=>x k*(at2 R k m / (d:Rat))+l*(y k*(at2 R k m / (d:Rat)))):=aK fun k _=>by grind
  show (rs m fun k=>(x k+l*y k)*(at2 R k m / (d:Rat))) - (x m+l*y m)=((rs m fun k=>x k*(at2 R k m / (d:Rat))) - x m)+l*((rs m fun k=>y k*(at2 R k m / (d:Rat))) - y m)
  rw[this,dA,eK];grind) (fun k hk=>by
  have:(rs m fun j=>at2 R k j*(at2 R j m / (d:Rat)))=rs m fun j=>if j=k then (d:Rat)*(at2 R k m / (d:Rat)) else 0:=aK fun j hj=>by
   have i2:=B.i2 k j hk hj;rw[B.full rfl j hj] at i2;rw[i2]
   by_cases z:j=k
   ·rw[if_pos z,if_pos z,z]
   ·rw[if_neg z,if_neg z];grind
  show (rs m fun j=>at2 R k j*(at2 R j m / (d:Rat))) - at2 R k m=0;rw[this,kU m k _ hk];grind) i hi
 have e2:(rs m fun k=>A1 i k*(at2 R k m / (d:Rat))) - A1 i m=0:=this;grind
end Mq
set_option maxHeartbeats 4000000
namespace Shp
open PySem L2
def kQ (X:List (List Mq.Q2))(qs:List Mq.Q2):List (List Mq.Q2):=List.zipWith (fun row q=>row++[q]) X qs
def gZ (X:List (List Mq.Q2))(qs:List Mq.Q2):List (List Int):=(kQ X qs).map Mq.iw
section
variable {X:List (List Mq.Q2)} {qs:List Mq.Q2}
theorem nH (hl:qs.length=X.length):(kQ X qs).length=X.length:=by unfold kQ;simp[hl]
theorem zH (hl:qs.length=X.length):(gZ X qs).length=X.length:=by unfold gZ;rw[List.length_map,nH hl]
theorem oP (hl:qs.length=X.length){i:Nat}(hi:i < X.length):(kQ X qs).getD i []=X.getD i []++[qs.getD i Mq.z0]:=by
 unfold kQ;rw[List.getD_eq_getElem?_getD,List.getElem?_zipWith,uT hi,Mq.Vs (show i < qs.length by omega)];rfl
theorem tE (hl:qs.length=X.length){i:Nat}(hi:i < X.length):(gZ X qs).getD i []=Mq.iw (X.getD i []++[qs.getD i Mq.z0]):=by
 unfold gZ;rw[List.getD_eq_getElem?_getD,List.getElem?_map,uT (X:=kQ X qs) (by rw[nH hl];exact hi),oP hl hi];rfl
theorem rP (hX:Mq.fF X)(hq:Mq.Pos qs)(hl:qs.length=X.length){i:Nat}(hi:i < X.length):Mq.Pos (X.getD i []++[qs.getD i Mq.z0]):=fun p hp=>by
 rcases List.mem_append.mp hp with z | z
 ·exact hX _ (List.mem_of_getElem? (uT hi)) p z
 ·have e:p=qs.getD i Mq.z0:=by simpa using z
  rw[e];exact Mq.Mr hq i
theorem Bc (hX:Mq.fF X)(hq:Mq.Pos qs)(hl:qs.length=X.length):Mq.fF (kQ X qs):=fun row hr=>by
 obtain⟨i,hi,rfl⟩:=List.getElem_of_mem hr;have hi':i < X.length:=by rw[nH hl] at hi;exact hi
 have e:=oP hl hi';rw[List.getD_eq_getElem?_getD,List.getElem?_eq_getElem hi] at e;have e':(kQ X qs)[i]=X.getD i []++[qs.getD i Mq.z0]:=e;rw[e'];exact rP hX hq hl hi'
theorem rV (hX:Mq.fF X)(hq:Mq.Pos qs)(hl:qs.length=X.length)(hw:∀row∈X,row.length=X.length){i x:Nat}(hi:i < X.length)(hx:x < X.length+1) :
  Mq.at2 (gZ X qs) i x=((Mq.dI ((kQ X qs).getD i []):Int):Rat)*if x < X.length then pF X i x else Mq.val (qs.getD i Mq.z0):=by
 have l:=hw _ (List.mem_of_getElem? (uT hi));show ((((gZ X qs).getD i []).getD x 0:Int):Rat)=_;rw[tE hl hi,oP hl hi,Mg (rP hX hq hl hi) (by rw[List.length_append,l];simpa using hx)];congr 1
 by_cases h:x < X.length
 ·rw[if_pos h,List.getD_eq_getElem?_getD,List.getElem?_append_left (by rw[l];exact h),<- List.getD_eq_getElem?_getD];rfl
 ·have ex:x=X.length:=by omega
  rw[if_neg h,List.getD_eq_getElem?_getD,List.getElem?_append_right (by rw[l];omega),l,ex,Nat.sub_self];rfl
theorem Qu (hX:Mq.fF X)(hq:Mq.Pos qs)(hl:qs.length=X.length)(hw:∀row∈X,row.length=X.length):Mq.det X.length (Mq.at2 (gZ X qs))=((qZ (kQ X qs):Int):Rat)*wgt X:=by
 unfold wgt;have hb:=pY (kQ X qs) (kQ X qs).length (Nat.le_refl _);rw[List.take_length,nH hl] at hb;rw[hb,<- Mq.qJ];refine Mq.cK fun i j hi hj=>?_;rw[rV hX hq hl hw hi (by omega),if_pos hj];rfl
theorem Gh {R R':List (List Int)}{w r:Nat}{d sg:Int}{f:Rat}(fn:f≠0)(hR:Mq.det X.length (Mq.at2 R)=f*wgt X)(h:Mq.SI X.length w (Mq.at2 R) R' r X.length d sg):(r < X.length/\wgt X=0)\/(r=X.length/\wgt X≠0):=by
 obtain⟨A,c,B,e⟩:=h.bar;have rm:=B.rm;have dn:=B.dne;clear B
 by_cases hr:r < X.length
 ·left
  have e:=h.lame hr;rw[hR] at e;exact⟨hr,by grind⟩
 ·right
  have er:r=X.length:=by omega
  subst er;refine⟨rfl,fun z=>?_⟩;have e:=h.whole;rw[hR,z] at e;rcases h.one with q | q
  ·rw[q] at e;simp at e;grind
  ·rw[q,Rat.intCast_neg] at e;simp at e;grind
theorem Ls (hX:Mq.fF X)(hq:Mq.Pos qs)(hl:qs.length=X.length)(hw:∀row∈X,row.length=X.length){R':List (List Int)}{w r:Nat}{d sg:Int}(h:Mq.SI X.length w (Mq.at2 (gZ X qs)) R' r X.length d sg):(r < X.length/\wgt X=0)\/(r=X.length/\wgt X≠0):=by
 have b1:=yM (Bc hX hq hl) (kQ X qs).length (Nat.le_refl _);rw[List.take_length] at b1;exact Gh (Mq.dW (show qZ (kQ X qs)≠0 by omega)) (Qu hX hq hl hw) h
end
structure Slv (X:List (List Mq.Q2)) (qs ps:List Mq.Q2):Prop where
 len:ps.length=X.length
 low:Mq.gD ps
 bd:∀p∈ps,Mq.Bd 9000 p
 sum:∀i,i < X.length->(Mq.rs X.length fun j=>pF X i j*Mq.val (ps.getD j Mq.z0))=Mq.val (qs.getD i Mq.z0)
theorem Ub {X:List (List Mq.Q2)}{qs:List Mq.Q2}(hX:Mq.fF X)(hq:Mq.Pos qs)(hl:qs.length=X.length)(hw:∀row∈X,row.length=X.length){R:List (List Int)}{w:Nat}{d sg:Int}(h:Mq.KI X.length (Mq.at2 (gZ X qs)) R)(s:Mq.SI X.length w (Mq.at2 (gZ X qs)) R X.length X.length d sg){i:Nat}(hi:i < X.length):(Mq.rs X.length fun j=>pF X i j*(Mq.at2 R j X.length / (d:Rat)))=Mq.val (qs.getD i Mq.z0):=by
 have e:=h.whole s hi;rw[rV hX hq hl hw hi (by omega),if_neg (by omega)] at e;have e2:(Mq.rs X.length fun k=>Mq.at2 (gZ X qs) i k*(Mq.at2 R k X.length / (d:Rat)))=((Mq.dI ((kQ X qs).getD i []):Int):Rat)*Mq.rs X.length fun k=>pF X i k*(Mq.at2 R k X.length / (d:Rat)):=by
  rw[<- Mq.eK];refine Mq.aK fun k hk=>?_;rw[rV hX hq hl hw hi (by omega),if_pos hk];grind
 rw[e2] at e;have g:=Mq.rH (rP hX hq hl hi);have n:=Mq.dW (show Mq.dI ((kQ X qs).getD i [])≠0 by rw[oP hl hi];omega);grind
end Shp
set_option maxHeartbeats 1000000
namespace Mq
def Wb (n:Nat)(x:Rat):Prop:=∃z:Int,x=(z:Rat)/\B n z
theorem Wb.mono {n m:Nat}{x:Rat}(h:Wb n x)(l:n<=m):Wb m x:=by obtain⟨z,e,b⟩:=h;exact⟨z,e,b.mono l⟩
theorem Wb.mul {n m:Nat}{x y:Rat}(h:Wb n x)(k:Wb m y):Wb (n+m) (x*y):=by
 obtain⟨a,rfl,b⟩:=h;obtain⟨c,rfl,d⟩:=k;exact⟨a*c,by rw[Rat.intCast_mul],b.mul d⟩
theorem Wb.sub {n:Nat}{x y:Rat}(h:Wb n x)(k:Wb n y):Wb (n+1) (x - y):=by
 obtain⟨a,rfl,b⟩:=h;obtain⟨c,rfl,d⟩:=k;exact⟨a - c,by rw[Rat.intCast_sub],b.sub d⟩
theorem Wb.neg {n:Nat}{x:Rat}(h:Wb n x):Wb n (-x):=by
 obtain⟨a,rfl,b⟩:=h;exact⟨-a,by rw[Rat.intCast_neg],b.neg⟩
theorem Wb.zero (n:Nat):Wb n 0:=⟨0,by simp,Nat.two_pow_pos _⟩
theorem Wb.one:Wb 1 1:=⟨1,by simp,show (1:Nat) < 2 ^ 1 by decide⟩
theorem Wb.sgn {n:Nat}{x:Rat}(h:Wb n x)(k:Nat):Wb n (Mq.sgn k*x):=by
 unfold Mq.sgn;split
 ·rw[show (1:Rat)*x=x by grind];exact h
 ·rw[show (-1:Rat)*x=-x by grind];exact h.neg
theorem Se {n:Nat}{f:Nat->Rat}:∀K,(∀k,k < K->Wb n (f k))->∃z:Int,rs K f=(z:Rat)/\z.natAbs+K<=K*2 ^ n
 |0,_=>⟨0,by simp only[rs];simp,by simp⟩
 |K+1,h=>by
  obtain⟨z,e,b⟩:=Se K fun k hk=>h k (by omega);obtain⟨y,e2,b2⟩:=h K (by omega);refine⟨z+y,by simp only[rs];rw[e,e2,Rat.intCast_add],?_⟩;have:y.natAbs < 2 ^ n:=b2;rw[Nat.succ_mul];omega
def SB (n m:Nat)(R:List (List Int))(r col:Nat)(d:Int):Prop:=∃A c,Bar m A (at2 R) r col (d:Rat) c/\∀i x,i < m->Wb n (A i x)
theorem SB.start {n m:Nat}{R:List (List Int)}(hb:BdR n R):SB n m R 0 0 1:=
 ⟨at2 R,id,by
  have:=Bar.start (m:=m) (A:=at2 R) fun i j=>⟨_,rfl⟩
  simpa using this,fun i x _=>⟨ent R i x,rfl,hb i x⟩⟩
theorem SB.skip {n m:Nat}{R:List (List Int)}{r col:Nat}{d:Int}(h:SB n m R r col d)(hz:∀i,r<=i->i < m->ent R i col=0):SB n m R r (col+1) d:=by
 obtain⟨A,c,B,q⟩:=h;exact⟨A,c,B.skip fun i h1 h2=>by unfold at2;rw[hz i h1 h2];simp,q⟩
theorem SB.swap {n m w:Nat}{A0:Mat}{R:List (List Int)}{r col:Nat}{d sg:Int}(h:SB n m R r col d)(s:SI m w A0 R r col d sg){p:Nat}(hp:r < p)(hm:p < m):SB n m (fG R p r) r col d:=by
 obtain⟨A,c,B,q⟩:=h;have hl:=s.len;refine⟨_,c,(B.swap (by omega) hm).congr fun i hi=>?_,fun i x hi=>q _ x (yR hm (by omega) hi)⟩
 funext x
 rw[pX (by omega) (by omega)]
theorem SB.clear {n m w:Nat}{A0:Mat}{R:List (List Int)}{r col:Nat}{d sg:Int}(h:SB n m R r col d)(s:SI m w A0 R r col d sg)(hr:r < m)(hc:col < w)(he:ent R r col≠0):SB n m (cI R r col d) (r+1) (col+1) (ent R r col):=by
 obtain⟨A,c,B,q⟩:=h;have heq:at2 R r col≠0:=fun z=>he (Rat.intCast_inj.mp (by unfold at2 at z;simpa using z));refine⟨A,_,(B.clear hr heq).congr fun i hi=>?_,q⟩
 funext x
 rw[rM s hr hc he hi x];unfold clr
 by_cases e:i=r
 ·rw[if_pos e,if_pos e,e]
 ·rw[if_neg e,if_neg e]
end Mq
set_option maxHeartbeats 4000000
namespace Shp
open PySem L2
abbrev bq (n m:Nat):Nat:=(n+4)*(m+1)+7
end Shp
set_option maxHeartbeats 2000000
namespace L2
open PySem PySem.Spec PyProof.Rows
theorem aQ.weak {P:Program}{w:World}{K:PySem.W.Frag}{mg:Str->Option Value}{base:Heap}{CX:CXT}{k:Nat}{f:Addr}{fd:FuncData}{ps:List Str}{sp sp':Sp}(F:aQ P w K mg base CX k f fd ps sp)(h:∀vs H Q E,sp' vs H Q E->sp vs H Q E):aQ P w K mg base CX k f fd ps sp':=
 ⟨fun vs H Q E q=>F.len vs H Q E (h _ _ _ _ q),fun A outer s H args us vs Q E hr he hb hv hs=>F.run A outer s H args us vs Q E hr he hb hv (h _ _ _ _ hs)⟩
abbrev cT (m i j:Int):Prop:=0<=i/\i < m/\0<=j/\j < m
inductive Zv (K:PySem.W.Frag) (H:Hp):V->Option Mq.Q2->Prop where
 |fr {u:Addr} {p:Mq.Q2} (h:Fq K H u p) (l:Mq.Low p):Zv K H (.ref u) (some p)
 |ty {v:V} {t:Value} (h:TyQ K H v t) (n:PySem.W.kitOne K t (.type "tuple")=some false):Zv K H v none
 |len {u:Addr} {x y z:V} (h:SqT K H u [x,y,z]):Zv K H (.ref u) none
 |n0 {u:Addr} {x y:V} {t:Value} (h:SqT K H u [x,y]) (ty:mH K H x t) (n:uG t):Zv K H (.ref u) none
 |n1 {u:Addr} {i:Int} {y:V} {t:Value} (h:SqT K H u [.int i,y]) (ty:mH K H y t) (n:uG t):Zv K H (.ref u) none
 |fb {u:Addr} {p:Mq.Q2} (h:Fq K H u p) (c:p.2 < 1\/(1<=p.2/\Mq.gc p.1 p.2≠1)):Zv K H (.ref u) none
abbrev Bz (o:Option Mq.Q2):Prop:=∀p,o=some p->Mq.Bd 1000 p
def Kc (K:PySem.W.Frag):Sp:=fun vs H Q _=>∃(v:V) (o:Option Mq.Q2),vs=[v]/\Zv K H v o/\Q (.bl o.isSome) H
inductive gM (CK:Kd->Addr) (K:PySem.W.Frag) (H:Hp):List V->List RD->Prop where
 |nil:gM CK K H [] []
 |cons {x z:Addr} {k:Kd} {i j:Int} {p:Mq.Q2} {xs:List V} {ds:List RD} (h:Rw CK H x k (.int i) (.int j) (.ref z)) (f:Fq K H z p) (q:gM CK K H xs ds):gM CK K H (.ref x :: xs) ((k,i,j,p) :: ds)
section
variable {CK:Kd->Addr} {K:PySem.W.Frag} {H H':Hp}
theorem gM.same (e:bG H H'):∀{xs:List V} {ds:List RD},gM CK K H xs ds->gM CK K H' xs ds
 |_,_,.nil=>.nil
 |_,_,.cons h f q=>.cons (h.same e) (e.fq f) (gM.same e q)
theorem gM.length:∀{xs:List V} {ds:List RD},gM CK K H xs ds->xs.length=ds.length
 |_,_,.nil=>rfl
 |_,_,.cons _ _ q=>by simp[gM.length q]
theorem gM.app:∀{xs ys:List V} {ds es:List RD},gM CK K H xs ds->gM CK K H ys es->gM CK K H (xs++ys) (ds++es)
 |_,_,_,_,.nil,r=>r
 |_,_,_,_,.cons h f q,r=>.cons h f (gM.app q r)
theorem gM.at:∀{xs:List V} {ds:List RD} {q:Nat} {d:RD},gM CK K H xs ds->ds[q]?=some d->∃x z,xs[q]?=some (.ref x)/\Rw CK H x d.1 (.int d.2.1) (.int d.2.2.1) (.ref z)/\Fq K H z d.2.2.2
 |_,_,_,_,.nil,h=>by simp at h
 |_,_,0,_,.cons h f _,e=>by simp at e;subst e;exact⟨_,_,rfl,h,f⟩
 |_,_,i+1,_,.cons _ _ q,e=>by simpa using gM.at q (by simpa using e)
theorem gM.upd {l:Addr}{ys:List V}{o:HO}(hl:H l=some (.lst ys)):∀{xs:List V} {ds:List RD},gM CK K H xs ds->gM CK K (L2.upd H l o) xs ds
 |_,_,.nil=>.nil
 |_,_,.cons (h:=h) f q=>by
  obtain⟨dx,e⟩:=h;exact .cons ⟨dx,by rw[bC (iN e hl (fun z=>by cases z))];exact e⟩ (f.upd hl) (gM.upd hl q)
end
def pB (CN:Addr)(K:PySem.W.Frag)(CK:Kd->Addr):Sp:=fun vs H Q _=>∃(n l:Addr) (m:Int) (ds:List RD),vs=[.ref n]/\eJ CN K H n l m ds/\ds.length<=100/\∀a xs H',bG H H'->H a=none->H' a=some (.lst xs)->gM CK K H' xs ds->Q (.ref a) H'
end L2
set_option maxHeartbeats 1000000
namespace L2
open PySem PySem.Spec PyProof.Rows
abbrev RE:=RD × Mq.Q2
def cZ (k:Kd)(l:List RD):List RD:=l.filter fun d=>decide (d.1=k)
theorem Gu (k:Kd)(l:List RD)(e:RD):cZ k (l++[e])=if e.1=k then cZ k l++[e] else cZ k l:=by
 unfold cZ;rw[List.filter_append]
 by_cases h:e.1=k
 ·rw[if_pos h];simp[h]
 ·rw[if_neg h];simp[h]
def yU (K:PySem.W.Frag):Sp:=fun vs H Q _=>∃(a b:Addr) (p q:Mq.Q2) (n m:Nat),vs=[.ref a,.ref b]/\Fq K H a p/\Fq K H b q/\1<=p.2/\1<=q.2/\0 < q.1/\Mq.Bd n p/\Mq.Bd m q/\n+m+1<=9000/\rC H Q (Mq.mI p q)
section
variable {m n:Nat} {hp:List Mq.Q2} {d:RD} {e:RE}
theorem oM {ps:List Mq.Q2}{j:Nat}(h:j < ps.length):ps[j]?=some (ps.getD j (0,1)):=by rw[List.getD_eq_getElem?_getD,List.getElem?_eq_getElem h];rfl
end
def rzl (ps:List Mq.Q2)(j:Nat)(a:Mq.Q2):List Mq.Q2:=ps.set j (Mq.plus (ps.getD j (0,1)) a)
def iT (M:List (List Mq.Q2))(i j:Nat):Mq.Q2:=(M.getD i []).getD j (0,1)
def rz (M:List (List Mq.Q2))(i j:Nat)(a:Mq.Q2):List (List Mq.Q2):=M.set i (rzl (M.getD i []) j a)
structure MxB (M:List (List Mq.Q2)) (h w n:Nat):Prop where
 h:M.length=h
 w:∀ps∈M,ps.length=w
 l:∀ps∈M,∀p∈ps,Mq.Low p/\Mq.Bd n p
theorem MxB.mono {M:List (List Mq.Q2)}{h w n n':Nat}(b:MxB M h w n)(le:n<=n'):MxB M h w n':=⟨b.h,b.w,fun ps hp p hp'=>⟨(b.l ps hp p hp').1,(b.l ps hp p hp').2.mono le⟩⟩
theorem MxB.row {M:List (List Mq.Q2)}{h w n i:Nat}(b:MxB M h w n)(hi:i < h):M[i]?=some (M.getD i [])/\M.getD i []∈M/\(M.getD i []).length=w:=by
 have hi':i < M.length:=by rw[b.h];exact hi
 have e:M.getD i []=M[i]:=by rw[List.getD_eq_getElem?_getD,List.getElem?_eq_getElem hi'];rfl
 rw[e];exact⟨List.getElem?_eq_getElem hi',List.getElem_mem hi',b.w _ (List.getElem_mem hi')⟩
theorem MxB.at {M:List (List Mq.Q2)}{h w n i j:Nat}(b:MxB M h w n)(hi:i < h)(hj:j < w):(M.getD i [])[j]?=some (iT M i j)/\Mq.Low (iT M i j)/\Mq.Bd n (iT M i j):=by
 obtain⟨e,m,l⟩:=b.row hi;have hj':j < (M.getD i []).length:=by rw[l];exact hj
 have:=oM hj';exact⟨this,b.l _ m _ (List.mem_of_getElem? this)⟩
theorem MxB.rz {M:List (List Mq.Q2)}{h w n k i j:Nat}{a:Mq.Q2}(b:MxB M h w n)(hi:i < h)(hj:j < w)(la:Mq.Low a)(ba:Mq.Bd k a):MxB (L2.rz M i j a) h w (n+k+1):=by
 obtain⟨e,m,l⟩:=b.row hi;obtain⟨e2,l2,b2⟩:=b.at hi hj;refine⟨by unfold L2.rz;rw[List.length_set];exact b.h,fun ps hp=>?_,fun ps hp p hp'=>?_⟩
 ·rcases List.mem_or_eq_of_mem_set hp with z | z
  ·exact b.w ps z
  ·rw[z];unfold rzl;rw[List.length_set];exact l
 ·rcases List.mem_or_eq_of_mem_set hp with z | z
  ·have:=b.l ps z p hp';exact⟨this.1,this.2.mono (by omega)⟩
  ·rw[z] at hp';unfold rzl at hp';rcases List.mem_or_eq_of_mem_set hp' with y | y
   ·have:=b.l _ m p y;exact⟨this.1,this.2.mono (by omega)⟩
   ·rw[y];exact⟨Mq.rT l2.pos la.pos,Mq.Gd b2 ba l2.pos la.pos⟩
theorem yP {M:List (List Mq.Q2)}{h w n i j:Nat}{a:Mq.Q2}(b:MxB M h w n)(hi:i < h)(hj:j < w)(la:Mq.Low a)(x y:Nat):Mq.val (iT (L2.rz M i j a) x y)=Mq.val (iT M x y)+if i=x/\j=y then Mq.val a else 0:=by
 obtain⟨e,m,l⟩:=b.row hi;obtain⟨e2,l2,b2⟩:=b.at hi hj;have hl:i < M.length:=by rw[b.h];exact hi
 unfold iT L2.rz
 by_cases c:i=x
 ·subst c;have e3:(M.set i (rzl (M.getD i []) j a)).getD i []=rzl (M.getD i []) j a:=by rw[List.getD_eq_getElem?_getD,List.getElem?_set,if_pos rfl,if_pos hl];rfl
  rw[e3];unfold rzl
  by_cases d:j=y
  ·subst d;have e4:((M.getD i []).set j (Mq.plus ((M.getD i []).getD j (0,1)) a)).getD j (0,1)=Mq.plus ((M.getD i []).getD j (0,1)) a:=by rw[List.getD_eq_getElem?_getD,List.getElem?_set,if_pos rfl,if_pos (by rw[l];exact hj)];rfl
   rw[e4,if_pos ⟨rfl,rfl⟩];exact Mq.tF l2.pos la.pos
  ·have e4:((M.getD i []).set j (Mq.plus ((M.getD i []).getD j (0,1)) a)).getD y (0,1)=(M.getD i []).getD y (0,1):=by rw[List.getD_eq_getElem?_getD,List.getElem?_set,if_neg d,<- List.getD_eq_getElem?_getD]
   rw[e4,if_neg (fun z=>d z.2),Rat.add_zero]
 ·have e3:(M.set i (rzl (M.getD i []) j a)).getD x []=M.getD x []:=by rw[List.getD_eq_getElem?_getD,List.getElem?_set,if_neg c,<- List.getD_eq_getElem?_getD]
  rw[e3,if_neg (fun z=>c z.1),Rat.add_zero]
structure LnB (R:List Mq.Q2) (w n:Nat):Prop where
 w:R.length=w
 l:∀p∈R,Mq.Low p/\Mq.Bd n p
theorem LnB.mono {R:List Mq.Q2}{w n n':Nat}(b:LnB R w n)(le:n<=n'):LnB R w n':=⟨b.w,fun p hp=>⟨(b.l p hp).1,(b.l p hp).2.mono le⟩⟩
theorem LnB.at {R:List Mq.Q2}{w n j:Nat}(b:LnB R w n)(hj:j < w):R[j]?=some (R.getD j (0,1))/\Mq.Low (R.getD j (0,1))/\Mq.Bd n (R.getD j (0,1)):=by
 have hj':j < R.length:=by rw[b.w];exact hj
 have:=oM hj';exact⟨this,b.l _ (List.mem_of_getElem? this)⟩
theorem LnB.set {R:List Mq.Q2}{w n j:Nat}{q:Mq.Q2}(b:LnB R w n)(lq:Mq.Low q)(bq:Mq.Bd n q):LnB (R.set j q) w n:=⟨by rw[List.length_set];exact b.w,fun p hp=>by
 rcases List.mem_or_eq_of_mem_set hp with z | z
 ·exact b.l p z
 ·rw[z];exact⟨lq,bq⟩⟩
theorem LnB.rz {R:List Mq.Q2}{w n k j:Nat}{a:Mq.Q2}(b:LnB R w n)(hj:j < w)(la:Mq.Low a)(ba:Mq.Bd k a):LnB (rzl R j a) w (n+k+1):=by
 obtain⟨_,l2,b2⟩:=b.at hj;exact(b.mono (by omega)).set (Mq.rT l2.pos la.pos) (Mq.Gd b2 ba l2.pos la.pos)
theorem wU {R:List Mq.Q2}{j y:Nat}{q:Mq.Q2}(hj:j < R.length):(R.set j q).getD y (0,1)=if j=y then q else R.getD y (0,1):=by
 rw[List.getD_eq_getElem?_getD,List.getElem?_set]
 by_cases e:j=y
 ·rw[if_pos e,if_pos e,if_pos (by omega)];rfl
 ·rw[if_neg e,if_neg e,<- List.getD_eq_getElem?_getD]
theorem Dk {R:List Mq.Q2}{w n j:Nat}{a:Mq.Q2}(b:LnB R w n)(hj:j < w)(la:Mq.Low a)(y:Nat):Mq.val ((rzl R j a).getD y (0,1))=Mq.val (R.getD y (0,1))+if j=y then Mq.val a else 0:=by
 obtain⟨_,l2,b2⟩:=b.at hj;unfold rzl;rw[wU (by rw[b.w];exact hj)]
 by_cases d:j=y
 ·subst d;rw[if_pos rfl,if_pos rfl];exact Mq.tF l2.pos la.pos
 ·rw[if_neg d,if_neg d,Rat.add_zero]
def SX (as:List Addr)(H H':Hp):Prop:=∀b o,H b=some o->b∉as->H' b=some o
theorem bG.sx {as:List Addr}{H H':Hp}(s:bG H H'):SX as H H':=fun b o e _=>s b o e
theorem SX.trans {as:List Addr}{H H1 H2:Hp}(a:SX as H H1)(b:SX as H1 H2):SX as H H2:=fun c o h n=>b c o (a c o h n) n
theorem SX.write {as:List Addr}{H H1:Hp}{l:Addr}{o:HO}(a:SX as H H1)(hl:l∈as):SX as H (upd H1 l o):=fun c u h n=>by rw[bC (fun z=>n (by rw[z];exact hl))];exact a c u h n
theorem SX.mono {as bs:List Addr}{H H':Hp}(a:SX as H H')(h:∀x∈as,x∈bs):SX bs H H':=fun c o e n=>a c o e fun z=>n (h c z)
theorem SX.same {as:List Addr}{H0 H H':Hp}(s:bG H0 H)(a:SX as H H')(h:∀x∈as,H0 x=none):bG H0 H':=fun c o e=>a c o (s c o e) fun z=>by rw[h c z] at e;cases e
def Ri (as:List Addr)(H:Hp):Prop:=∀a∈as,∃xs,H a=some (.lst xs)
theorem SX.seqT {K:PySem.W.Frag}{as:List Addr}{H H':Hp}(hl:Ri as H)(e:SX as H H'){a:Addr}{xs:List V}(h:SqT K H a xs):SqT K H' a xs:=by
 have nx:∀{o:HO},H a=some o->(∀ys,o≠.lst ys)->a∉as:=fun ho n z=>by
  obtain⟨ys,hy⟩:=hl a z;rw[hy] at ho;exact n ys (Option.some.inj ho).symm
 rcases h with (h | ⟨u,h⟩) | h
 ·exact .inl (.inl (e _ _ h (nx h fun ys z=>by cases z)))
 ·exact .inl (.inr ⟨u,e _ _ h (nx h fun ys z=>by cases z)⟩)
 ·exact .inr h
theorem SX.rw {CK:Kd->Addr}{as:List Addr}{H H':Hp}(hl:Ri as H)(e:SX as H H'){x:Addr}{k:Kd}{s g z:V}(h:Rw CK H x k s g z):Rw CK H' x k s g z:=by
 obtain⟨dx,q⟩:=h;refine⟨dx,e _ _ q fun y=>?_⟩;obtain⟨ys,hy⟩:=hl x y;rw[hy] at q;cases q
theorem SX.fqs {K:PySem.W.Frag}{as:List Addr}{H H':Hp}(hl:Ri as H)(e:SX as H H'):∀{xs:List V} {ps:List Mq.Q2},Fqs K H xs ps->Fqs K H' xs ps
 |_,_,.nil=>.nil
 |_,_,.cons f q=>.cons (e.seqT hl f) (SX.fqs hl e q)
structure Mx (K:PySem.W.Frag) (H:Hp) (D:Addr) (as:List Addr) (M:List (List Mq.Q2)):Prop where
 d:H D=some (.lst (as.map V.ref))
 n:as.Nodup
 nd:D∉as
 la:as.length=M.length
 r:∀(i:Nat) (a:Addr) (ps:List Mq.Q2),as[i]?=some a->M[i]?=some ps->∃xs,H a=some (.lst xs)/\Fqs K H xs ps
theorem Mx.lsts {K:PySem.W.Frag}{H:Hp}{D:Addr}{as:List Addr}{M:List (List Mq.Q2)}(m:Mx K H D as M):Ri as H:=fun a ha=>by
 obtain⟨i,hi⟩:=List.getElem?_of_mem ha;have il:=(List.getElem?_eq_some_iff.mp hi).1;have il':i < M.length:=by rw[<- m.la];exact il
 obtain⟨xs,h,_⟩:=m.r i a M[i] hi (List.getElem?_eq_getElem il');exact⟨xs,h⟩
theorem Mx.same {K:PySem.W.Frag}{H H':Hp}{D:Addr}{as:List Addr}{M:List (List Mq.Q2)}(s:bG H H')(m:Mx K H D as M):Mx K H' D as M:=⟨s _ _ m.d,m.n,m.nd,m.la,fun i a ps h1 h2=>by
 obtain⟨xs,h,f⟩:=m.r i a ps h1 h2;exact⟨xs,s _ _ h,f.same s⟩⟩
theorem Mx.other {K:PySem.W.Frag}{H:Hp}{D l:Addr}{as:List Addr}{M:List (List Mq.Q2)}{ys:List V}{o:HO}(m:Mx K H D as M)(hl:H l=some (.lst ys))(n1:l≠D)(n2:l∉as):Mx K (upd H l o) D as M:=⟨by rw[bC (Ne.symm n1)];exact m.d,m.n,m.nd,m.la,fun i a ps h1 h2=>by
 obtain⟨xs,h,f⟩:=m.r i a ps h1 h2;exact⟨xs,by rw[bC (fun z=>n2 (by rw[<- z];exact List.mem_of_getElem? h1))];exact h,f.upd hl⟩⟩
theorem Mx.set {K:PySem.W.Frag}{H H1:Hp}{D a v:Addr}{as:List Addr}{M:List (List Mq.Q2)}{i j:Nat}{ps:List Mq.Q2}{xs:List V}{q:Mq.Q2}(m:Mx K H D as M)(ha:as[i]?=some a)(hp:M[i]?=some ps)(hx:H a=some (.lst xs))(hF:Fqs K H xs ps)(s:bG H H1)(fv:Fq K H1 v q):Mx K (upd H1 a (.lst (xs.set j (.ref v)))) D as (M.set i (ps.set j q))/\SX as H (upd H1 a (.lst (xs.set j (.ref v)))):=by
 have ma:=List.mem_of_getElem? ha;have hx1:=s _ _ hx;have il:=(List.getElem?_eq_some_iff.mp ha).1;refine⟨⟨?_,m.n,m.nd,by rw[List.length_set];exact m.la,fun k b qs h1 h2=>?_⟩,s.sx.write ma⟩
 ·rw[bC (fun z=>m.nd (by rw[z];exact ma))];exact s _ _ m.d
 ·rw[List.getElem?_set] at h2
  by_cases c:i=k
  ·subst c;rw[ha] at h1;have h1:a=b:=Option.some.inj h1;subst h1;rw[if_pos rfl] at h2;split at h2
   ·have h2:ps.set j q=qs:=Option.some.inj h2;rw[<- h2];exact⟨_,aB,(Fqs.set fv j (hF.same s)).upd hx1⟩
   ·cases h2
  ·rw[if_neg c] at h2;obtain⟨ys,hy,fy⟩:=m.r k b qs h1 h2;have nb:b≠a:=fun z=>by
    subst z;have kl:=(List.getElem?_eq_some_iff.mp h1).1;have e1:as[i]'il=b:=(List.getElem?_eq_some_iff.mp ha).2;have e2:as[k]'kl=b:=(List.getElem?_eq_some_iff.mp h1).2;exact c ((List.getElem_inj m.n).mp (e1.trans e2.symm))
   exact⟨ys,by rw[bC nb];exact s _ _ hy,(fy.same s).upd hx1⟩
def bX (k:Kd):Nat:=if k=.ho then 1 else 0
def en (M:List (List Mq.Q2))(d:RD)(c:Nat)(a:Mq.Q2):List (List Mq.Q2):=rz (rz M d.2.1.toNat c a) d.2.2.1.toNat c (Mq.minus (0,1) a)
def dl (s g x:Nat):Rat:=(if s=x then 1 else 0) - (if g=x then 1 else 0)
def cM (d:RD)(h x y:Nat):Rat:=match d.1 with
 | .pc=>dl d.2.1.toNat d.2.2.1.toNat x*dl d.2.1.toNat d.2.2.1.toNat y*(1 / Mq.val d.2.2.2)
 | .pu=>0
 | .ho=>dl d.2.1.toNat d.2.2.1.toNat x*(if h=y then 1 else 0)+(if h=x then 1 else 0)*dl d.2.1.toNat d.2.2.1.toNat y
def cR (d:RD)(h x:Nat):Rat:=match d.1 with
 | .pc=>0
 | .pu=>- dl d.2.1.toNat d.2.2.1.toNat x*Mq.val d.2.2.2
 | .ho=>if h=x then Mq.val d.2.2.2 else 0
def eqM:Nat->List RD->Nat->Nat->Rat
 |_,[],_,_=>0
 |h,d :: ds,x,y=>cM d h x y+eqM (h+bX d.1) ds x y
def eqR:Nat->List RD->Nat->Rat
 |_,[],_=>0
 |h,d :: ds,x=>cR d h x+eqR (h+bX d.1) ds x
def bS (ds:List RD):Nat:=(cZ .ho ds).length
theorem gW (ds:List RD)(d:RD):bS (ds++[d])=bS ds+bX d.1:=by
 unfold bS bX;rw[Gu];split
 ·rw[List.length_append];rfl
 ·rfl
theorem fZ (d:RD)(ds:List RD):bS (d :: ds)=bX d.1+bS ds:=by
 unfold bS bX cZ
 by_cases h:d.1=.ho
 ·rw[List.filter_cons_of_pos (by exact decide_eq_true h),if_pos h,List.length_cons];omega
 ·rw[List.filter_cons_of_neg (by simp[h]),if_neg h];omega
theorem zV (d:RD)(x y:Nat):∀(ds:List RD) (h:Nat),eqM h (ds++[d]) x y=eqM h ds x y+cM d (h+bS ds) x y
 | [],h=>by show cM d h x y+0=0+cM d (h+0) x y;rw[Nat.add_zero];grind
 |e :: ds,h=>by
  show cM e h x y+eqM (h+bX e.1) (ds++[d]) x y=cM e h x y+eqM (h+bX e.1) ds x y+_;rw[zV d x y ds,fZ,Nat.add_assoc];grind
theorem zC (d:RD)(x:Nat):∀(ds:List RD) (h:Nat),eqR h (ds++[d]) x=eqR h ds x+cR d (h+bS ds) x
 | [],h=>by show cR d h x+0=0+cR d (h+0) x;rw[Nat.add_zero];grind
 |e :: ds,h=>by
  show cR e h x+eqR (h+bX e.1) (ds++[d]) x=cR e h x+eqR (h+bX e.1) ds x+_;rw[zC d x ds,fZ,Nat.add_assoc];grind
theorem gG:Mq.Low (1,1):=⟨by decide,by decide⟩
theorem kG {a:Mq.Q2}{k:Nat}(la:Mq.Low a)(ba:Mq.Bd k a):Mq.Low (Mq.minus (0,1) a)/\Mq.Bd (k+2) (Mq.minus (0,1) a)/\Mq.val (Mq.minus (0,1) a)=- Mq.val a:=by
 have h01:1<=((0,1):Mq.Q2).2:=by decide
 have b01:Mq.Bd 1 (0,1):=⟨show (0:Nat) < 2 ^ 1 by decide,show (1:Nat) < 2 ^ 1 by decide⟩
 refine⟨Mq.mD h01 la.pos,(Mq.Nr b01 ba h01 la.pos).mono (by omega),?_⟩;rw[Mq.mC h01 la.pos,Mq.kM];grind
theorem Ai {M:List (List Mq.Q2)}{h w n k c:Nat}{d:RD}{a:Mq.Q2}(b:MxB M h w n)(pt:cT (h:Int) d.2.1 d.2.2.1)(hc:c < w)(la:Mq.Low a)(ba:Mq.Bd k a):MxB (en M d c a) h w (n+2*k+4)/\∀x y,Mq.val (iT (en M d c a) x y)=Mq.val (iT M x y)+dl d.2.1.toNat d.2.2.1.toNat x*(if c=y then 1 else 0)*Mq.val a:=by
 obtain⟨i0,i1,j0,j1⟩:=pt;obtain⟨ln,bn,vn⟩:=kG la ba;have b1:=b.rz (i:=d.2.1.toNat) (by omega) hc la ba;have b2:=b1.rz (i:=d.2.2.1.toNat) (by omega) hc ln bn;refine⟨b2.mono (by omega),fun x y=>?_⟩;unfold en;rw[yP b1 (by omega) hc ln,yP b (by omega) hc la,vn];unfold dl
 by_cases c1:d.2.1.toNat=x<;>by_cases c2:d.2.2.1.toNat=x<;>by_cases c3:c=y<;>simp only[c1,c2,c3,true_and,and_true,false_and,and_false,and_self,if_true,if_false]<;>grind
def hM (M:List (List Mq.Q2))(d:RD)(c:Nat):List (List Mq.Q2):=rz (rz (en M d c (1,1)) c d.2.1.toNat (1,1)) c d.2.2.1.toNat (Mq.minus (0,1) (1,1))
def pM (M:List (List Mq.Q2))(d:RD):List (List Mq.Q2):=en (en M d d.2.1.toNat (Mq.mI (1,1) d.2.2.2)) d d.2.2.1.toNat (Mq.minus (0,1) (Mq.mI (1,1) d.2.2.2))
def pR (rs:List Mq.Q2)(d:RD):List Mq.Q2:=rzl (rzl rs d.2.1.toNat (Mq.minus (0,1) d.2.2.2)) d.2.2.1.toNat d.2.2.2
theorem gP:Mq.Bd 1 (1,1):=⟨show (1:Nat) < 2 ^ 1 by decide,show (1:Nat) < 2 ^ 1 by decide⟩
theorem h11:1<=((1,1):Mq.Q2).2:=by decide
theorem zU {p:Mq.Q2}{k:Nat}(l:Mq.Low p)(h0:0 < p.1)(b:Mq.Bd k p):Mq.Low (Mq.mI (1,1) p)/\Mq.Bd (k+1) (Mq.mI (1,1) p)/\Mq.val (Mq.mI (1,1) p)=1 / Mq.val p:=by
 refine⟨Mq.zS h11 (by omega),(Mq.Es gP b h11 (by omega)).mono (by omega),?_⟩;rw[Mq.An h11 l.pos (by omega),Mq.rX]
theorem Wa {M:List (List Mq.Q2)}{w n k m h:Nat}{d:RD}(b:MxB M w w n)(pt:cT (m:Int) d.2.1 d.2.2.1)(hm:m<=w)(hk:d.1=.pc)(l:Mq.Low d.2.2.2)(h0:0 < d.2.2.2.1)(bk:Mq.Bd k d.2.2.2):MxB (pM M d) w w (n+4*k+20)/\∀x y,Mq.val (iT (pM M d) x y)=Mq.val (iT M x y)+cM d h x y:=by
 obtain⟨i0,i1,j0,j1⟩:=pt;obtain⟨ls,bs,vs⟩:=zU l h0 bk;obtain⟨ln,bn,vn⟩:=kG ls bs;have pt':cT (w:Int) d.2.1 d.2.2.1:=⟨i0,by omega,j0,by omega⟩
 obtain⟨b1,v1⟩:=Ai b pt' (c:=d.2.1.toNat) (by omega) ls bs;obtain⟨b2,v2⟩:=Ai b1 pt' (c:=d.2.2.1.toNat) (by omega) ln bn;refine⟨b2.mono (by omega),fun x y=>?_⟩;unfold pM;rw[v2,v1,vn,vs];unfold cM;rw[hk];show _=_+dl d.2.1.toNat d.2.2.1.toNat x*dl d.2.1.toNat d.2.2.1.toNat y*(1 / Mq.val d.2.2.2)
 generalize 1 / Mq.val d.2.2.2=v;generalize dl d.2.1.toNat d.2.2.1.toNat x=u;unfold dl
 by_cases c1:d.2.1.toNat=y<;>by_cases c2:d.2.2.1.toNat=y<;>simp only[c1,c2,if_true,if_false]<;>grind
theorem Vx {M:List (List Mq.Q2)}{w n m c:Nat}{d:RD}(b:MxB M w w n)(pt:cT (m:Int) d.2.1 d.2.2.1)(hm:m<=w)(hc:c < w)(hk:d.1=.ho):MxB (hM M d c) w w (n+20)/\∀x y,Mq.val (iT (hM M d c) x y)=Mq.val (iT M x y)+cM d c x y:=by
 obtain⟨i0,i1,j0,j1⟩:=pt;have pt':cT (w:Int) d.2.1 d.2.2.1:=⟨i0,by omega,j0,by omega⟩
 obtain⟨ln,bn,vn⟩:=kG gG gP;obtain⟨b1,v1⟩:=Ai b pt' hc gG gP;have b2:=b1.rz (i:=c) (j:=d.2.1.toNat) hc (by omega) gG gP;have b3:=b2.rz (i:=c) (j:=d.2.2.1.toNat) hc (by omega) ln bn;refine⟨b3.mono (by omega),fun x y=>?_⟩;unfold hM;rw[yP b2 hc (by omega) ln,yP b1 hc (by omega) gG,v1,vn,Mq.rX];unfold cM;rw[hk];show _=_+(dl d.2.1.toNat d.2.2.1.toNat x*(if c=y then 1 else 0)+(if c=x then 1 else 0)*dl d.2.1.toNat d.2.2.1.toNat y)
 generalize dl d.2.1.toNat d.2.2.1.toNat x=u;unfold dl
 by_cases c1:d.2.1.toNat=y<;>by_cases c2:d.2.2.1.toNat=y<;>by_cases c3:c=x<;>by_cases c4:c=y<;>simp only[c1,c2,c3,c4,true_and,and_true,false_and,and_false,and_self,if_true,if_false]<;>grind
theorem Sm {rs:List Mq.Q2}{w n k m h:Nat}{d:RD}(b:LnB rs w n)(pt:cT (m:Int) d.2.1 d.2.2.1)(hm:m<=w)(hk:d.1=.pu)(l:Mq.Low d.2.2.2)(bk:Mq.Bd k d.2.2.2):LnB (pR rs d) w (n+4*k+20)/\∀x,Mq.val ((pR rs d).getD x (0,1))=Mq.val (rs.getD x (0,1))+cR d h x:=by
 obtain⟨i0,i1,j0,j1⟩:=pt;obtain⟨ln,bn,vn⟩:=kG l bk;have b1:=b.rz (j:=d.2.1.toNat) (by omega) ln bn;have b2:=b1.rz (j:=d.2.2.1.toNat) (by omega) l bk;refine⟨b2.mono (by omega),fun x=>?_⟩;unfold pR;rw[Dk b1 (by omega) l,Dk b (by omega) ln,vn];unfold cR;rw[hk];show _=_ + - dl d.2.1.toNat d.2.2.1.toNat x*Mq.val d.2.2.2;unfold dl
 by_cases c1:d.2.1.toNat=x<;>by_cases c2:d.2.2.1.toNat=x<;>simp only[c1,c2,if_true,if_false]<;>grind
theorem wJ {m:Nat}:∀(ds:List RD) (h x:Nat),(∀d∈ds,cT (m:Int) d.2.1 d.2.2.1)->m<=h->h+bS ds<=x->eqR h ds x=0
 | [],_,_,_,_,_=>rfl
 |d :: ds,h,x,pt,hm,hx=>by
  rw[fZ] at hx;have ih:=wJ ds (h+bX d.1) x (fun e he=>pt e (List.mem_cons_of_mem _ he)) (by omega) (by omega);obtain⟨i0,i1,j0,j1⟩:=pt d (by simp);show cR d h x+eqR (h+bX d.1) ds x=0;rw[ih];have z:dl d.2.1.toNat d.2.2.1.toNat x=0:=by unfold dl;rw[if_neg (by omega),if_neg (by omega)];grind
  unfold cR
  cases hk:d.1 with
  |pc=>show (0:Rat)+0=0;grind
  |pu=>show - dl d.2.1.toNat d.2.2.1.toNat x*Mq.val d.2.2.2+0=0;rw[z];grind
  |ho=>
   have:bX d.1=1:=by unfold bX;rw[if_pos hk]
   show (if h=x then Mq.val d.2.2.2 else 0)+0=0;rw[if_neg (by omega)];grind
theorem Wv {rs:List Mq.Q2}{w n k m c:Nat}{d:RD}(b:LnB rs w n)(hc:c < w)(hk:d.1=.ho)(l:Mq.Low d.2.2.2)(bk:Mq.Bd k d.2.2.2)(h0:Mq.val (rs.getD c (0,1))=0):LnB (rs.set c d.2.2.2) w (n+k)/\∀x,Mq.val ((rs.set c d.2.2.2).getD x (0,1))=Mq.val (rs.getD x (0,1))+cR d c x:=by
 refine⟨(b.mono (by omega)).set l (bk.mono (by omega)),fun x=>?_⟩;rw[wU (by rw[b.w];exact hc)];unfold cR;rw[hk];show _=_+if c=x then Mq.val d.2.2.2 else 0
 by_cases e:c=x
 ·subst e;rw[if_pos rfl,if_pos rfl,h0];grind
 ·rw[if_neg e,if_neg e];grind
def rL (K:PySem.W.Frag):Sp:=fun vs H Q _=>∃(l z:Addr) (j:Nat) (xs:List V) (ps:List Mq.Q2) (a:Mq.Q2) (n m:Nat),vs=[.ref l,.int (j:Int),.ref z]/\H l=some (.lst xs)/\Fqs K H xs ps/\j < ps.length/\1<=(ps.getD j (0,1)).2/\Mq.Bd n (ps.getD j (0,1))/\Fq K H z a/\1<=a.2/\Mq.Bd m a/\n+m+1<=9000/\∀v H1,bG H H1->Fq K H1 v (Mq.plus (ps.getD j (0,1)) a)->Q .non (upd H1 l (.lst (xs.set j (.ref v))))
def xO (K:PySem.W.Frag)(CK:Kd->Addr):Sp:=fun vs H Q _=>∃(D x z:Addr) (zz:V) (as:List Addr) (M:List (List Mq.Q2)) (d:RD) (w n k c:Nat) (a:Mq.Q2),vs=[.ref D,.ref x,.int (c:Int),.ref z]/\Mx K H D as M/\MxB M w w n/\Rw CK H x d.1 (.int d.2.1) (.int d.2.2.1) zz/\cT (w:Int) d.2.1 d.2.2.1/\c < w/\Fq K H z a/\Mq.Low a/\Mq.Bd k a/\n+2*k+4<=9000/\∀H',SX as H H'->Mx K H' D as (en M d c a)->Q .non H'
def Ab (K:PySem.W.Frag)(CK:Kd->Addr):Sp:=fun vs H Q _=>∃(D x zz:Addr) (as:List Addr) (M:List (List Mq.Q2)) (d:RD) (w n k:Nat),vs=[.ref D,.ref x]/\Mx K H D as M/\MxB M w w n/\Rw CK H x d.1 (.int d.2.1) (.int d.2.2.1) (.ref zz)/\Fq K H zz d.2.2.2/\cT (w:Int) d.2.1 d.2.2.1/\Mq.Low d.2.2.2/\0 < d.2.2.2.1/\Mq.Bd k d.2.2.2/\n+4*k+20<=9000/\∀H',SX as H H'->Mx K H' D as (pM M d)->Q .non H'
def rY (K:PySem.W.Frag)(CK:Kd->Addr):Sp:=fun vs H Q _=>∃(R x zz:Addr) (ys:List V) (rs:List Mq.Q2) (d:RD) (w n k:Nat),vs=[.ref R,.ref x]/\H R=some (.lst ys)/\Fqs K H ys rs/\LnB rs w n/\Rw CK H x d.1 (.int d.2.1) (.int d.2.2.1) (.ref zz)/\Fq K H zz d.2.2.2/\cT (w:Int) d.2.1 d.2.2.1/\Mq.Low d.2.2.2/\Mq.Bd k d.2.2.2/\n+4*k+20<=9000/\∀ys' H',SX [R] H H'->H' R=some (.lst ys')->Fqs K H' ys' (pR rs d)->Q .non H'
def zP (K:PySem.W.Frag)(CK:Kd->Addr):Sp:=fun vs H Q _=>∃(D R x zz:Addr) (as:List Addr) (M:List (List Mq.Q2)) (ys:List V) (rs:List Mq.Q2) (d:RD) (w n c:Nat),vs=[.ref D,.ref R,.ref x,.int (c:Int)]/\Mx K H D as M/\MxB M w w n/\H R=some (.lst ys)/\Fqs K H ys rs/\rs.length=w/\R≠D/\R∉as/\Rw CK H x d.1 (.int d.2.1) (.int d.2.2.1) (.ref zz)/\Fq K H zz d.2.2.2/\cT (w:Int) d.2.1 d.2.2.1/\c < w/\n+20<=9000/\∀ys' H',SX (R :: as) H H'->Mx K H' D as (hM M d c)->H' R=some (.lst ys')->Fqs K H' ys' (rs.set c d.2.2.2)->Q .non H'
structure Fms (K:PySem.W.Frag) (H0 H:Hp) (us:List V) (X:List (List Mq.Q2)):Prop where
 l:us.length=X.length
 r:∀(i:Nat) (x:V) (ps:List Mq.Q2),us[i]?=some x->X[i]?=some ps->∃(a:Addr) (xs:List V),x=.ref a/\H0 a=none/\H a=some (.lst xs)/\Fqs K H xs ps
structure yQ (m:Nat) (ds:List RD) (N:Nat) (X:List (List Mq.Q2)) (Y:List Mq.Q2):Prop where
 x:MxB X (m - 1+bS ds) (m - 1+bS ds) N
 y:LnB Y (m - 1+bS ds) N
 vx:∀i j,Mq.val (iT X i j)=eqM m ds (i+1) (j+1)
 vy:∀i,Mq.val (Y.getD i (0,1))=eqR m ds (i+1)
end L2
set_option maxHeartbeats 4000000
namespace K72
open PySem L2
def top (i:Nat):Stmt:=PySem.Challenge.pw_ohmyard_k72_shapes.main.body.getD i (.Pass ⟨0,0,0,0⟩)
section
variable {P:Program} {w:World} {K:PySem.W.Frag} {mg:Str->Option Value} {base:Heap} {f g1 g2 g3 g4 g5 g6 g7 g8:Addr} {fd gd1 gd2 gd3 gd4 gd5 gd6 gd7 gd8:FuncData} {CX:CXT}
abbrev qO:Stmt:=top 15
theorem Ot:aT ["thing"] ["thing"] (aE qO):=⟨rfl,rfl,rfl,by decide +kernel,rfl,by decide +kernel,by decide +kernel⟩
theorem Lz {dV:Value}(F:bZ K "is_whole" "is_whole" qO dV f fd)(b:Bl mg):aQ P w K mg base CX 1 f fd ["thing"] (oA K):=by
 refine F.ok Ot (fun vs H Q E h=>?_) (fun cdv A outer s H vs Q E hr h=>?_)
 ·obtain⟨x,rfl,_⟩:=h;rfl
 obtain⟨x,rfl,h⟩:=h;refine⟨_,aG (bA (pO (gQ (i:=0) rfl (Or.inl rfl) b.isi b.int rfl rfl PyProof.Rows.boot_int) (uH (Sy (gQ (i:=0) rfl (Or.inl rfl) b.isi b.bool rfl rfl PyProof.Rows.boot_bool))))),?_⟩;rcases h with ⟨i,rfl,q⟩ | ⟨t,ty,nw,q⟩
 ·exact⟨_,_,_,rfl,.of (.int i),rfl,_,rfl,fY ⟨_,_,false,rfl,.of (.int i),(by with_unfolding_all rfl),_,rfl,q⟩⟩
 ·rcases nw with rfl | rfl | rfl | rfl | rfl
  ·exact⟨_,_,true,rfl,.of ty,(by with_unfolding_all rfl),_,rfl,fY ⟨_,_,_,rfl,.of ty,rfl,_,rfl,q⟩⟩
  all_goals exact⟨_,_,false,rfl,.of ty,(by with_unfolding_all rfl),_,rfl,eV q⟩
abbrev sGc:Stmt:=top 17
theorem Ox:aT ["one","other","rest"] ["one","other"] (aE sGc):=⟨rfl,rfl,rfl,by decide +kernel,rfl,by decide +kernel,by decide +kernel⟩
theorem Wf {dV:Value}(F:bZ K "greatest_common" "greatest_common" sGc dV f fd)(b:Bl mg):aQ P w K mg base CX 1 f fd ["one","other"] Os:=by
 refine F.ok Ox (fun vs H Q E h=>?_) (fun cdv A outer s H vs Q E hr h=>?_)
 ·obtain⟨x,y,rfl,_⟩:=h;rfl
 obtain⟨x,y,rfl,q⟩:=h;refine⟨_,aC (rS PassesOwn.never (bK kY (pv 1) aF (bM _)) (aC (aW (i:=2) Ox.nd rfl (Or.inl rfl) (aY kA (pv 0) (pv 1)))
  (aC (aW (i:=0) Ox.nd rfl (Or.inl rfl) (pv 1)) (aG (aW (i:=1) Ox.nd rfl (Or.inl rfl) (pv 2))))))
  (aG (bA (bO tV rfl b.abs PyProof.Rows.boot_abs (aA (pv 0) aD)))),?_⟩
 refine tY (fun σ H'=>H'=H/\∃u v z,σ=[some (.int u),some (.int v),z]/\Mq.gc u v=Mq.gc x y) (fun σ _=>match σ with | [_,some (.int v),_]=>v.natAbs | _=>0) ⟨rfl,x,y,none,rfl,rfl⟩ ?_ ?_
 ·rintro σ H' ⟨rfl,u,v,z,rfl,e⟩;refine⟨_,rfl,rfl,_,rfl,?_⟩;refine rD (fun c=>?_) (fun c=>?_)
  ·have hv:v≠0:=by intro q;subst q;simp at c
   refine⟨_,rfl,_,rfl,_,_,rfl,rfl,hv,_,rfl,_,rfl,⟨rfl,v,Int.fmod u v,_,rfl,(Mq.Em u v).trans e⟩,Mq.vH hv⟩
  ·have hv:v=0:=by
    simp at c;exact c
   subst hv;refine⟨_,rfl,_,rfl,?_⟩;rw[<- Mq.Fe,e];exact q
 ·rintro σ H Q Q' m ⟨v,h1,h2,k,h3,h4⟩;exact⟨v,h1,h2,k,h3,m _ _ h4⟩
abbrev pU:Stmt:=top 23
theorem Oc:aT ["one","other"] ["one","other"] (aE pU):=⟨rfl,rfl,rfl,by decide +kernel,rfl,by decide +kernel,by decide +kernel⟩
theorem Nm {dV:Value}(F:bZ K "under" "under" pU dV f fd):aQ P w K mg base CX 1 f fd ["one","other"] (Fy K):=by
 refine F.ok Oc (fun vs H Q E h=>?_) (fun cdv A outer s H vs Q E hr h=>?_)
 ·obtain⟨a,b,p,q,n,m,rfl,_⟩:=h;rfl
 obtain⟨a,b,p,q,n,m,rfl,ha,hb,bp,bq,hn,z⟩:=h;refine⟨_,aG (bA (iC wG (aY cN (aP aX (pv 0) aF (fun _ _=>rfl)) (aP aX (pv 1) aF (fun _ _=>rfl))) (aY cN (aP aX (pv 1) aF (fun _ _=>rfl)) (aP aX (pv 0) aF (fun _ _=>rfl))) (bM _))),?_⟩;exact dY rfl ha (cL rfl hb (cO bp.a bq.b (by omega) (by omega) (dY rfl hb (cL rfl ha (cO bq.a bp.b (by omega) (by omega) ⟨_,_,rfl,rfl,z⟩)))))
abbrev kD:Stmt:=top 18
theorem Db:aT ["top","bottom","shared"] ["top","bottom"] (aE kD):=⟨rfl,rfl,rfl,by decide +kernel,rfl,by decide +kernel,by decide +kernel⟩
theorem Rl {dV:Value}(F:bZ K "fraction" "fraction" kD dV f fd)(G1:aQ P w K mg base CX0 1 g1 gd1 ["thing"] (oA K))(b1:aS K gd1 ["thing"] [])(k1:PySem.W.keepIn K (.ref g1)=true)(m1:mg "is_whole"=some (.ref g1))(G2:aQ P w K mg base CX0 1 g2 gd2 ["one","other"] Os)(b2:aS K gd2 ["one","other"] [])(k2:PySem.W.keepIn K (.ref g2)=true)(m2:mg "greatest_common"=some (.ref g2)) :
  aQ P w K mg base CX 2 f fd ["top","bottom"] gL:=by
 refine F.ok Db (fun vs H Q E h=>?_) (fun cdv A outer s H vs Q E hr h=>?_)
 ·obtain⟨t,b,n,rfl,_⟩:=h;rfl
 obtain⟨t,b,n,rfl,hb,hB,hn,q⟩:=h;refine⟨_,aC (cE (PW.pt (mP (gC (eO (aI G1 hr rfl m1 k1 b1 .nil aM (aA (pv 0) aD)))) (mP (gC (eO (aI G1 hr rfl m1 k1 b1 .nil aM (aA (pv 1) aD)))) (mU (bK eE (pv 1) aF (bM _)))))) Hb bN)
  (aC (aW (i:=2) Db.nd rfl (Or.inl rfl) (aI G2 hr rfl m2 k2 b2 .nil aM (aA (pv 0) (aA (pv 1) aD))))
  (aC (cE (bK wG (pv 1) aF (bM _)) (aG (aW (i:=2) Db.nd rfl (Or.inl rfl) (Li Cy (pv 2)))) bN)
  (aG (bA (cX (aA (aY iK (pv 0) (pv 2)) (aA (aY iK (pv 1) (pv 2)) aD))))))),?_⟩
 have hd:=Mq.pJ (t:=t) hb;have hdB:Mq.B n (Mq.dvr t b):=hB.le (Mq.Cj hb);have c0:decide (V.int b=V.int 0)=false:=decide_eq_false (fun z=>hb (by cases z;rfl));refine⟨_,rfl,_,rfl,.inl ⟨t,rfl,_,rfl,eV ⟨_,rfl,_,rfl,.inl ⟨b,rfl,_,rfl,eV ⟨_,rfl,rfl,_,rfl,?_⟩⟩⟩⟩⟩;rw[c0];refine eV ⟨_,rfl,_,rfl,t,b,rfl,?_⟩;refine⟨_,rfl,_,_,rfl,rfl,_,rfl,?_⟩;refine rD (fun c=>?_) (fun c=>?_)
 ·have hlt:b < 0:=of_decide_eq_true c;have e:Mq.dvr t b=-Mq.gc t b:=by unfold Mq.dvr;rw[if_pos hlt]
  rw[e] at hd hdB;have q':rC H Q (t.fdiv (-Mq.gc t b),b.fdiv (-Mq.gc t b)):=by
   have z:=q;unfold Mq.red at z;rw[e] at z;exact z
  refine⟨_,rfl,_,rfl,?_⟩;refine⟨_,rfl,_,rfl,?_⟩;refine fR hd hdB hn ⟨_,rfl,_,rfl,fR hd hdB hn ⟨by show 2<=sizeLine;decide,fun p hp=>?_⟩⟩;exact q' p _ (aH hp _) aB
 ·have hlt:¬b < 0:=fun z=>c (decide_eq_true z);have e:Mq.dvr t b=Mq.gc t b:=by unfold Mq.dvr;rw[if_neg hlt]
  rw[e] at hd hdB;have q':rC H Q (t.fdiv (Mq.gc t b),b.fdiv (Mq.gc t b)):=by
   have z:=q;unfold Mq.red at z;rw[e] at z;exact z
  refine⟨_,rfl,_,rfl,?_⟩;refine fR hd hdB hn ⟨_,rfl,_,rfl,fR hd hdB hn ⟨by show 2<=sizeLine;decide,fun p hp=>?_⟩⟩;exact q' p _ (aH hp _) aB
abbrev pZ:Stmt:=top 20
theorem Ql:aT ["one","other"] ["one","other"] (aE pZ):=⟨rfl,rfl,rfl,by decide +kernel,rfl,by decide +kernel,by decide +kernel⟩
theorem Ko {dV:Value}(F:bZ K "minus" "minus" pZ dV f fd)(G1:aQ P w K mg base CX0 2 g1 gd1 ["top","bottom"] gL)(b1:aS K gd1 ["top","bottom"] [])(k1:PySem.W.keepIn K (.ref g1)=true)(m1:mg "fraction"=some (.ref g1)) :
  aQ P w K mg base CX 3 f fd ["one","other"] (kL K Mq.minus):=by
 refine F.ok Ql (fun vs H Q E h=>?_) (fun cdv A outer s H vs Q E hr h=>?_)
 ·obtain⟨a,b,p,q,n,m,rfl,_⟩:=h;rfl
 obtain⟨a,b,p,q,n,m,rfl,ha,hb,lp,lq,bp,bq,hn,z⟩:=h;refine⟨_,aG (bA (aI G1 hr rfl m1 k1 b1 .nil aM (aA
  (aY iZ (aY cN (aP aX (pv 0) aF (fun _ _=>rfl)) (aP aX (pv 1) aF (fun _ _=>rfl))) (aY cN (aP aX (pv 1) aF (fun _ _=>rfl)) (aP aX (pv 0) aF (fun _ _=>rfl))))
  (aA (aY cN (aP aX (pv 0) aF (fun _ _=>rfl)) (aP aX (pv 1) aF (fun _ _=>rfl))) aD)))),?_⟩
 refine dY rfl ha (cL rfl hb (cO bp.a bq.b (by omega) (by omega) (dY rfl hb (cL rfl ha (cO bq.a bp.b (by omega) (by omega) ⟨_,_,rfl,rfl,?_⟩)))));refine cL rfl ha (cL rfl hb (cO bp.b bq.b (by omega) (by omega) ⟨_,_,n+m,rfl,Mq.jB lp lq,bp.b.mul bq.b,by omega,z⟩))
abbrev vY:Stmt:=top 19
theorem Ur:aT ["one","other"] ["one","other"] (aE vY):=⟨rfl,rfl,rfl,by decide +kernel,rfl,by decide +kernel,by decide +kernel⟩
theorem Oj {dV:Value}(F:bZ K "plus" "plus" vY dV f fd)(G1:aQ P w K mg base CX0 2 g1 gd1 ["top","bottom"] gL)(b1:aS K gd1 ["top","bottom"] [])(k1:PySem.W.keepIn K (.ref g1)=true)(m1:mg "fraction"=some (.ref g1)) :
  aQ P w K mg base CX 3 f fd ["one","other"] (kL K Mq.plus):=by
 refine F.ok Ur (fun vs H Q E h=>?_) (fun cdv A outer s H vs Q E hr h=>?_)
 ·obtain⟨a,b,p,q,n,m,rfl,_⟩:=h;rfl
 obtain⟨a,b,p,q,n,m,rfl,ha,hb,lp,lq,bp,bq,hn,z⟩:=h;refine⟨_,aG (bA (aI G1 hr rfl m1 k1 b1 .nil aM (aA
  (aY dH (aY cN (aP aX (pv 0) aF (fun _ _=>rfl)) (aP aX (pv 1) aF (fun _ _=>rfl))) (aY cN (aP aX (pv 1) aF (fun _ _=>rfl)) (aP aX (pv 0) aF (fun _ _=>rfl))))
  (aA (aY cN (aP aX (pv 0) aF (fun _ _=>rfl)) (aP aX (pv 1) aF (fun _ _=>rfl))) aD)))),?_⟩
 refine dY rfl ha (cL rfl hb (cO bp.a bq.b (by omega) (by omega) (dY rfl hb (cL rfl ha (cO bq.a bp.b (by omega) (by omega) ⟨_,_,rfl,rfl,?_⟩)))));refine cL rfl ha (cL rfl hb (cO bp.b bq.b (by omega) (by omega) ⟨_,_,n+m,rfl,Mq.jB lp lq,bp.b.mul bq.b,by omega,z⟩))
variable {CR:Addr} {CK:Kd->Addr} {fW fJ fT fS:Kd->Addr} {fdW fdJ fdT fdS:Kd->FuncData}
abbrev qQ:Stmt:=eQ (top 35) 0
theorem Ph:aT ["self","start","goal","size"] ["self","start","goal","size"] (aE qQ):=⟨rfl,rfl,rfl,by decide +kernel,rfl,by decide +kernel,by decide +kernel⟩
theorem Nv {dV:Value}(F:bZ K "__init__" "Row.__init__" qQ dV f fd)(T:RT K mg CR CK):aQ P w K mg base CX 1 f fd ["self","start","goal","size"] (yF CK):=by
 refine F.ok Ph (fun vs H Q E h=>?_) (fun cdv A outer s H vs Q E hr h=>?_)
 ·obtain⟨x,dx,k,s,g,z,rfl,_⟩:=h;rfl
 obtain⟨x,dx,k,s,g,z,rfl,hx,q⟩:=h;refine⟨_,(aC (tT (pv 0) (pv 1) rfl) (aC (tT (pv 0) (pv 2) rfl) (aG (tT (pv 0) (pv 3) rfl)))),?_⟩;have l1:=gX ("start":Str) s [];have l2:=gX ("goal":Str) g (iI "start" s []);simp only[List.length_nil] at l1;refine⟨_,rfl,_,rfl,x,CK k,dx,[],rfl,hx,T.cl k,T.nS k,(by show 0 < 1000;decide),?_⟩;refine⟨_,rfl,_,rfl,x,CK k,dx,_,rfl,aB,T.cl k,T.nG k,by omega,?_⟩;refine⟨_,rfl,_,rfl,x,CK k,dx,_,rfl,aB,T.cl k,T.nZ k,by omega,?_⟩;rw[nI,nI];exact q
abbrev jM:Stmt:=eQ (top 36) 0
theorem Hl:aT ["self"] ["self"] (aE jM):=⟨rfl,rfl,rfl,by decide +kernel,rfl,by decide +kernel,by decide +kernel⟩
theorem Cu {dV:Value}(F:bZ K "word" "Piece.word" jM dV f fd):aQ P w K mg base CX 1 f fd ["self"] (jV .pc):=by
 refine F.ok Hl (fun vs H Q E h=>?_) (fun cdv A outer s H vs Q E hr h=>?_)
 ·obtain⟨x,rfl,_⟩:=h;rfl
 obtain⟨x,rfl,q⟩:=h;exact⟨_,(aG (bA cF)),q⟩
abbrev jJ:Stmt:=eQ (top 37) 0
theorem Gy:aT ["self"] ["self"] (aE jJ):=⟨rfl,rfl,rfl,by decide +kernel,rfl,by decide +kernel,by decide +kernel⟩
theorem Ch {dV:Value}(F:bZ K "word" "Push.word" jJ dV f fd):aQ P w K mg base CX 1 f fd ["self"] (jV .pu):=by
 refine F.ok Gy (fun vs H Q E h=>?_) (fun cdv A outer s H vs Q E hr h=>?_)
 ·obtain⟨x,rfl,_⟩:=h;rfl
 obtain⟨x,rfl,q⟩:=h;exact⟨_,(aG (bA cF)),q⟩
abbrev jK:Stmt:=eQ (top 38) 0
theorem Gz:aT ["self"] ["self"] (aE jK):=⟨rfl,rfl,rfl,by decide +kernel,rfl,by decide +kernel,by decide +kernel⟩
theorem Az {dV:Value}(F:bZ K "word" "Hold.word" jK dV f fd):aQ P w K mg base CX 1 f fd ["self"] (jV .ho):=by
 refine F.ok Gz (fun vs H Q E h=>?_) (fun cdv A outer s H vs Q E hr h=>?_)
 ·obtain⟨x,rfl,_⟩:=h;rfl
 obtain⟨x,rfl,q⟩:=h;exact⟨_,(aG (bA cF)),q⟩
abbrev qH:Stmt:=eQ (top 35) 1
theorem Qc:aT ["self"] ["self"] (aE qH):=⟨rfl,rfl,rfl,by decide +kernel,rfl,by decide +kernel,by decide +kernel⟩
theorem Mz {dV:Value}(F:bZ K "told" "Row.told" qH dV f fd)(T:RT K mg CR CK)(GW:∀k,aQ P w K mg base CX0 1 (fW k) (fdW k) ["self"] (jV k))(bW:∀k,aS K (fdW k) ["self"] [])(mW:∀k,gH K (CK k) "word" (fW k)):aQ P w K mg base CX 2 f fd ["self"] (yC CK):=by
 refine F.ok Qc (fun vs H Q E h=>?_) (fun cdv A outer s H vs Q E hr h=>?_)
 ·obtain⟨x,k,s,g,z,rfl,_⟩:=h;rfl
 obtain⟨x,k,s,g,z,rfl,⟨dx,hx⟩,q⟩:=h;refine⟨_,(aG (bA (cX (aA (fV (pv 0) T.cl mW GW hr bW .nil aM) (aA (cG (pv 0) rfl) (aA (cG (pv 0) rfl) (aA (cG (pv 0) rfl) aD))))))),?_⟩;refine⟨_,rfl,k,x,dx,_,rfl,hx,(eP _ _ _ (by decide +kernel) (by decide +kernel) (by decide +kernel)),_,rfl,?_⟩;refine⟨_,rfl,x,CK k,dx,_,_,rfl,hx,T.cl k,T.nS k,dD _ _ _,?_⟩;refine⟨_,rfl,x,CK k,dx,_,_,rfl,hx,T.cl k,T.nG k,dR _ _ _,?_⟩;refine⟨_,rfl,x,CK k,dx,_,_,rfl,hx,T.cl k,T.nZ k,iL _ _ _,?_⟩;exact⟨by show 4<=sizeLine;decide,q⟩
abbrev qD:Stmt:=top 39
theorem Fl:aT ["told","word"] ["told"] (aE qD):=⟨rfl,rfl,rfl,by decide +kernel,rfl,by decide +kernel,by decide +kernel⟩
theorem Lu {dV:Value}{gI:Addr}{gdI:FuncData}(F:bZ K "row_of" "row_of" qD dV f fd)(T:RT K mg CR CK)(b:Bl mg)(ms:mg "str"=none)(GI:aQ P w K mg base CX0 1 gI gdI ["self","start","goal","size"] (yF CK))(bI:aS K gdI ["self","start","goal","size"] [])(MK:∀k,Mk K (CK k) gI):aQ P w K mg base CX 3 f fd ["told"] (tD K CK):=by
 refine F.ok Fl (fun vs H Q E h=>?_) (fun cdv A outer s H vs Q E hr h=>?_)
 ·obtain⟨t,v,s,g,z,rfl,_⟩:=h;rfl
 obtain⟨t,v,s,g,z,rfl,hT,k,rfl,q⟩:=h;refine⟨_,(aC (aW (i:=1) Fl.nd rfl (Or.inl rfl) (aP aX (pv 0) aF (fun _ _=>rfl)))
  (aC (cE (PW.pt (uK (eO (gQ (i:=1) rfl (Or.inl rfl) b.isi ms rfl rfl PyProof.Rows.boot_str)) (oB (bK eE (pv 1) cF (bM _))))) (aG (bA (nT (MK .pc) GI hr rfl (T.mK .pc) bI .nil aM (aA (aP aX (pv 0) aF (fun _ _=>rfl)) (aA (aP aX (pv 0) aF (fun _ _=>rfl)) (aA (aP aX (pv 0) aF (fun _ _=>rfl)) aD)))))) bN)
  (aC (cE (PW.pt (uK (eO (gQ (i:=1) rfl (Or.inl rfl) b.isi ms rfl rfl PyProof.Rows.boot_str)) (oB (bK eE (pv 1) cF (bM _))))) (aG (bA (nT (MK .pu) GI hr rfl (T.mK .pu) bI .nil aM (aA (aP aX (pv 0) aF (fun _ _=>rfl)) (aA (aP aX (pv 0) aF (fun _ _=>rfl)) (aA (aP aX (pv 0) aF (fun _ _=>rfl)) aD)))))) bN)
  (aC (cE (PW.pt (uK (eO (gQ (i:=1) rfl (Or.inl rfl) b.isi ms rfl rfl PyProof.Rows.boot_str)) (oB (bK eE (pv 1) cF (bM _))))) (aG (bA (nT (MK .ho) GI hr rfl (T.mK .ho) bI .nil aM (aA (aP aX (pv 0) aF (fun _ _=>rfl)) (aA (aP aX (pv 0) aF (fun _ _=>rfl)) (aA (aP aX (pv 0) aF (fun _ _=>rfl)) aD)))))) bN)
  (aG fQ))))),?_⟩
 cases k
 ·refine Xl (fun _ _=>False) (fun X _=>?_) (fun _ _ h=>h.elim);refine⟨_,rfl,t,_,0,_,rfl,rfl,hT,rfl,?_⟩;exact⟨_,_,true,rfl,.of (.str _),rfl,_,rfl,fY ⟨_,rfl,rfl,_,rfl,ifT (dG .pc .pc) ⟨_,rfl,t,_,1,s,rfl,rfl,hT,rfl,_,rfl,t,_,2,g,rfl,rfl,hT,rfl,_,rfl,t,_,3,z,rfl,rfl,hT,rfl,fun x dx h1 h2 ne=>⟨x,dx,.pc,s,g,z,rfl,aB,rfl,by rw[nI];exact q x _ (Rw.new h1 h2 ne) h1 ⟨dx,aB⟩⟩⟩⟩⟩
 ·refine Yi (fun _ _=>False) (fun X _=>?_) (fun _ _ h=>h.elim);refine⟨_,rfl,t,_,0,_,rfl,rfl,hT,rfl,?_⟩;exact⟨_,_,true,rfl,.of (.str _),rfl,_,rfl,fY ⟨_,rfl,rfl,_,rfl,ifF (dG .pu .pc) (⟨_,_,true,rfl,.of (.str _),rfl,_,rfl,fY ⟨_,rfl,rfl,_,rfl,ifT (dG .pu .pu) ⟨_,rfl,t,_,1,s,rfl,rfl,hT,rfl,_,rfl,t,_,2,g,rfl,rfl,hT,rfl,_,rfl,t,_,3,z,rfl,rfl,hT,rfl,fun x dx h1 h2 ne=>⟨x,dx,.pu,s,g,z,rfl,aB,rfl,by rw[nI];exact q x _ (Rw.new h1 h2 ne) h1 ⟨dx,aB⟩⟩⟩⟩⟩)⟩⟩
 ·refine Yd (fun _ _=>False) (fun X _=>?_) (fun _ _ h=>h.elim);refine⟨_,rfl,t,_,0,_,rfl,rfl,hT,rfl,?_⟩;exact⟨_,_,true,rfl,.of (.str _),rfl,_,rfl,fY ⟨_,rfl,rfl,_,rfl,ifF (dG .ho .pc) (⟨_,_,true,rfl,.of (.str _),rfl,_,rfl,fY ⟨_,rfl,rfl,_,rfl,ifF (dG .ho .pu) (⟨_,_,true,rfl,.of (.str _),rfl,_,rfl,fY ⟨_,rfl,rfl,_,rfl,ifT (dG .ho .ho) ⟨_,rfl,t,_,1,s,rfl,rfl,hT,rfl,_,rfl,t,_,2,g,rfl,rfl,hT,rfl,_,rfl,t,_,3,z,rfl,rfl,hT,rfl,fun x dx h1 h2 ne=>⟨x,dx,.ho,s,g,z,rfl,aB,rfl,by rw[nI];exact q x _ (Rw.new h1 h2 ne) h1 ⟨dx,aB⟩⟩⟩⟩⟩)⟩⟩)⟩⟩
abbrev Ie:Stmt:=top 16
theorem Xv:aT ["thing"] ["thing"] (aE Ie):=⟨rfl,rfl,rfl,by decide +kernel,rfl,by decide +kernel,by decide +kernel⟩
theorem Tt {dV:Value}(F:bZ K "is_fraction" "is_fraction" Ie dV f fd)(b:Bl mg)(ml:mg "len"=none)(mt:mg "tuple"=none)(G1:aQ P w K mg base CX0 1 g1 gd1 ["thing"] (oA K))(b1:aS K gd1 ["thing"] [])(k1:PySem.W.keepIn K (.ref g1)=true)(m1:mg "is_whole"=some (.ref g1))(G2:aQ P w K mg base CX0 1 g2 gd2 ["one","other"] Os)(b2:aS K gd2 ["one","other"] [])(k2:PySem.W.keepIn K (.ref g2)=true)(m2:mg "greatest_common"=some (.ref g2)) :
  aQ P w K mg base CX 2 f fd ["thing"] (Kc K):=by
 refine F.ok Xv (fun vs H Q E h=>?_) (fun cdv A outer s H vs Q E hr h=>?_)
 ·obtain⟨v,o,rfl,hz,q⟩:=h;rfl
 obtain⟨v,o,rfl,hz,q⟩:=h;refine⟨_,(aC (cE (PW.pt (mP (gC (eO (gQ (i:=0) rfl (Or.inl rfl) b.isi mt rfl rfl PyProof.Rows.boot_tuple))) (mU (bK kY (bO bH rfl ml PySem.boot_len (aA (pv 0) aD)) aF (bM _))))) (aG (bA iQ)) bN)
  (aC (cE (PW.pt (mP (gC (eO (aI G1 hr rfl m1 k1 b1 .nil aM (aA (aP aX (pv 0) aF (fun _ _=>rfl)) aD)))) (mU (gC (eO (aI G1 hr rfl m1 k1 b1 .nil aM (aA (aP aX (pv 0) aF (fun _ _=>rfl)) aD))))))) (aG (bA iQ)) bN)
  (aG (bA (pO (iC Jp (aP aX (pv 0) aF (fun _ _=>rfl)) aF (bM _)) (uH (iC eE (aI G2 hr rfl m2 k2 b2 .nil aM (aA (aP aX (pv 0) aF (fun _ _=>rfl)) (aA (aP aX (pv 0) aF (fun _ _=>rfl)) aD))) aF (bM _)))))))),?_⟩
 cases hz with
 |fr fa hp=>
  refine⟨_,_,true,rfl,.tup fa,rfl,_,rfl,eV ⟨_,rfl,_,_,rfl,.inr fa,rfl,_,rfl,eV ?_⟩⟩;refine dY rfl fa ⟨_,rfl,.inl ⟨_,rfl,_,rfl,eV (cL rfl fa ⟨_,rfl,.inl ⟨_,rfl,_,rfl,eV ?_⟩⟩)⟩⟩;have h1:=hp.pos;refine cL rfl fa ⟨_,_,rfl,rfl,_,rfl,ifT (decide_eq_true (by omega)) (dY rfl fa (cL rfl fa ⟨_,_,rfl,rfl,?_⟩))⟩;rw[hp.one];exact q
 |ty h n=>exact⟨_,_,false,rfl,h,n,_,rfl,fY q⟩
 |len h=>exact⟨_,_,true,rfl,.tup h,rfl,_,rfl,eV ⟨_,rfl,_,_,rfl,.inr h,rfl,_,rfl,fY q⟩⟩
 |n0 h ty n=>
  refine⟨_,_,true,rfl,.tup h,rfl,_,rfl,eV ⟨_,rfl,_,_,rfl,.inr h,rfl,_,rfl,eV ?_⟩⟩;exact⟨_,rfl,_,_,0,_,rfl,rfl,h,rfl,_,rfl,.inr ⟨_,ty,n,_,rfl,fY q⟩⟩
 |n1 h ty n=>
  refine⟨_,_,true,rfl,.tup h,rfl,_,rfl,eV ⟨_,rfl,_,_,rfl,.inr h,rfl,_,rfl,eV ?_⟩⟩;exact⟨_,rfl,_,_,0,_,rfl,rfl,h,rfl,_,rfl,.inl ⟨_,rfl,_,rfl,eV ⟨_,rfl,_,_,1,_,rfl,rfl,h,rfl,_,rfl,.inr ⟨_,ty,n,_,rfl,fY q⟩⟩⟩⟩
 |fb fa c=>
  refine⟨_,_,true,rfl,.tup fa,rfl,_,rfl,eV ⟨_,rfl,_,_,rfl,.inr fa,rfl,_,rfl,eV ?_⟩⟩;refine dY rfl fa ⟨_,rfl,.inl ⟨_,rfl,_,rfl,eV (cL rfl fa ⟨_,rfl,.inl ⟨_,rfl,_,rfl,eV ?_⟩⟩)⟩⟩;rcases c with c | ⟨c,d⟩
  ·exact cL rfl fa ⟨_,_,rfl,rfl,_,rfl,ifF (decide_eq_false (by omega)) q⟩
  ·refine cL rfl fa ⟨_,_,rfl,rfl,_,rfl,ifT (decide_eq_true c) (dY rfl fa (cL rfl fa ⟨_,_,rfl,rfl,?_⟩))⟩;rw[decide_eq_false (fun e=>d (by injection e))];exact q
abbrev sPS:Stmt:=top 40
theorem Yf:aT ["thing"] ["thing"] (aE sPS):=⟨rfl,rfl,rfl,by decide +kernel,rfl,by decide +kernel,by decide +kernel⟩
theorem Xi {dV:Value}(F:bZ K "is_piece_size" "is_piece_size" sPS dV f fd){aN:Addr}(fN:∀H,Fq K H aN (0,1))(mNO:mg "NOUGHT"=some (.ref aN))(G1:aQ P w K mg base CX0 2 g1 gd1 ["thing"] (Kj K))(b1:aS K gd1 ["thing"] [])(k1:PySem.W.keepIn K (.ref g1)=true)(m1:mg "is_fraction"=some (.ref g1))(G2:aQ P w K mg base CX0 1 g2 gd2 ["one","other"] (Fy K))(b2:aS K gd2 ["one","other"] [])(k2:PySem.W.keepIn K (.ref g2)=true)(m2:mg "under"=some (.ref g2)) :
  aQ P w K mg base CX 3 f fd ["thing"] (Xp K):=by
 refine F.ok Yf (fun vs H Q E h=>?_) (fun cdv A outer s H vs Q E hr h=>?_)
 ·obtain⟨a,p,n,rfl,fa,hp,h0,hb,hn,q⟩:=h;rfl
 obtain⟨a,p,n,rfl,fa,hp,h0,hb,hn,q⟩:=h;have r1:=hr.mono (show 1<=2 by omega);refine⟨_,(aG (bA (pO (aI G1 hr rfl m1 k1 b1 .nil aM (aA (pv 0) aD)) (uH (aI G2 r1 rfl m2 k2 b2 .nil aM (aA (dB (v:=.ref aN) rfl mNO rfl) (aA (pv 0) aD))))))),?_⟩;refine⟨_,rfl,a,p,rfl,fa,hp,_,rfl,fY ⟨_,rfl,aN,a,_,p,1,n,rfl,fN _,fa,⟨show (0:Nat) < 2 ^ 1 by decide,show (1:Nat) < 2 ^ 1 by decide⟩,hb,by omega,?_⟩⟩;rw[decide_eq_true (show (0:Int)*p.2 < p.1*1 by omega)];exact q
abbrev sNB:Stmt:=top 45
theorem Yg:aT ["thing","bound"] ["thing","bound"] (aE sNB):=⟨rfl,rfl,rfl,by decide +kernel,rfl,by decide +kernel,by decide +kernel⟩
theorem Wo {dV:Value}(F:bZ K "is_number_below" "is_number_below" sNB dV f fd)(G1:aQ P w K mg base CX0 1 g1 gd1 ["thing"] (oA K))(b1:aS K gd1 ["thing"] [])(k1:PySem.W.keepIn K (.ref g1)=true)(m1:mg "is_whole"=some (.ref g1)) :
  aQ P w K mg base CX 2 f fd ["thing","bound"] Uo:=by
 refine F.ok Yg (fun vs H Q E h=>?_) (fun cdv A outer s H vs Q E hr h=>?_)
 ·obtain⟨i,b',rfl,h0,h1,q⟩:=h;rfl
 obtain⟨i,b',rfl,h0,h1,q⟩:=h;refine⟨_,(aG (bA (pO (aI G1 hr rfl m1 k1 b1 .nil aM (aA (pv 0) aD)) (pO (iC Jp (pv 0) aF (bM _)) (uH (iC wG (pv 0) (pv 1) (bM _))))))),?_⟩;refine⟨_,rfl,_,rfl,.inl ⟨i,rfl,_,rfl,fY ⟨_,rfl,_,_,rfl,rfl,_,rfl,ifT (decide_eq_true h0) ⟨_,rfl,_,rfl,_,_,rfl,rfl,?_⟩⟩⟩⟩;show Q (.bl (decide (i < b'))) H;rw[decide_eq_true h1];exact q
abbrev sRS:Stmt:=top 48
theorem Yb:aT ["word","size"] ["word","size"] (aE sRS):=⟨rfl,rfl,rfl,by decide +kernel,rfl,by decide +kernel,by decide +kernel⟩
theorem Xa {dV:Value}(F:bZ K "refuse_size" "refuse_size" sRS dV f fd)(G1:aQ P w K mg base CX0 2 g1 gd1 ["thing"] (Kj K))(b1:aS K gd1 ["thing"] [])(k1:PySem.W.keepIn K (.ref g1)=true)(m1:mg "is_fraction"=some (.ref g1))(G2:aQ P w K mg base CX0 3 g2 gd2 ["thing"] (Xp K))(b2:aS K gd2 ["thing"] [])(k2:PySem.W.keepIn K (.ref g2)=true)(m2:mg "is_piece_size"=some (.ref g2)) :
  aQ P w K mg base CX 4 f fd ["word","size"] (Uz K):=by
 refine F.ok Yb (fun vs H Q E h=>?_) (fun cdv A outer s H vs Q E hr h=>?_)
 ·obtain⟨k,z,p,rfl,fz,hp,h0,hb,q⟩:=h;rfl
 obtain⟨k,z,p,rfl,fz,hp,h0,hb,q⟩:=h;have r2:=hr.mono (show 2<=3 by omega);refine⟨_,(aC (cE (gC (eO (aI G1 r2 rfl m1 k1 b1 .nil aM (aA (pv 1) aD)))) (aG fQ) bN)
  (aG (cE (PW.pt (uK (bK eE (pv 0) cF (bM _)) (oB (gC (eO (aI G2 hr rfl m2 k2 b2 .nil aM (aA (pv 1) aD))))))) (aG fQ) bN))),?_⟩
 refine⟨_,rfl,z,p,rfl,fz,hp,_,rfl,eV ?_⟩
 cases k
 ·exact⟨_,rfl,rfl,_,rfl,ifT (dG .pc .pc) ⟨_,rfl,z,p,_,rfl,fz,hp,h0 rfl,hb,by omega,_,rfl,eV q⟩⟩
 ·exact⟨_,rfl,rfl,_,rfl,ifF (dG .pu .pc) (eV q)⟩
 ·exact⟨_,rfl,rfl,_,rfl,ifF (dG .ho .pc) (eV q)⟩
theorem uM:(["point","many"]:List Str).Nodup:=by decide +kernel
def Wg (K:PySem.W.Frag):Sp:=fun vs H Q _=>∃(l:Addr) (i j m:Int),vs=[.ref l,.int m]/\SqL K H l [.int i,.int j]/\0<=i/\i < m/\0<=j/\j < m/\∀H',bG H H'->Q .non H'
def Tx:Sp:=fun vs H Q _=>∃k c:Int,vs=[.int k,.int c]/\0<=k/\k < c/\Q .non H
abbrev sRP:Stmt:=top 46
theorem Zf:aT ["some","many"] ["some","many"] (aE sRP):=⟨rfl,rfl,rfl,by decide +kernel,rfl,by decide +kernel,by decide +kernel⟩
theorem Xm {dV:Value}(F:bZ K "refuse_points" "refuse_points" sRP dV f fd)(ma:mg "all"=none)(G1:aQ P w K mg base CX0 2 g1 gd1 ["thing","bound"] Uo)(b1:aS K gd1 ["thing","bound"] [])(k1:PySem.W.keepIn K (.ref g1)=true)(m1:mg "is_number_below"=some (.ref g1)) :
  aQ P w K mg base CX 3 f fd ["some","many"] (Wg K):=by
 refine F.ok Zf (fun vs H Q E h=>?_) (fun cdv A outer s H vs Q E hr h=>?_)
 ·obtain⟨l,i,j,m,rfl,hl,i0,i1,j0,j1,q⟩:=h;rfl
 obtain⟨l,i,j,m,rfl,hl,i0,i1,j0,j1,q⟩:=h;refine⟨_,(aG (cE (gC (eO (bO (oU rfl) rfl ma PyProof.Rows.boot_all (aA (fH (nl:=1) (fr:=[1]) (Nc:=["point","many"]) (cl:=[("many",s.heap.objs.size+1)]) rfl ⟨rfl,rfl,by decide +kernel,by decide +kernel,fun x c h=>h,dS rfl,rfl,fun i n h=>match i,h with | 0,h=>by cases h;exact⟨1,rfl,rfl,rfl,rfl,.inl rfl⟩ | k+1,h=>by rw[show 1+(k+1)=k+2 by omega] at h;cases h⟩
    (cS (pv 0)) (fun C s3 H3 fp pins=>(aZ (i:=0) uM rfl (Or.inl rfl))) (fun C s3 H3 fp pins=>dX)
    (fun C s3 H3 fp pins=>(aI G1 hr rfl m1 k1 b1 .nil aM (aA (pv 0) (aA (pv 1) aD))))) aD)))) (aG fQ) bN)),?_⟩
 refine⟨_,rfl,l,rfl,⟨_,hl⟩,fun D hD=>?_⟩;have sD:=aH hD (.lst []);refine dE (xs:=[.int i,.int j]) (fun k zs H'=>bG H H'/\H' D=some (.lst zs)/\zs=(List.replicate k true).map V.bl) ⟨sD,aB,rfl⟩ (fun k zs H' h=>h.2.1) (fun k zs H' _ h=>h.1.seq hl) ?_ ?_
 ·rintro k zs x H1 hx ⟨s1,e1,rfl⟩ C hC;have hk:k < 2:=(List.getElem?_eq_some_iff.mp hx).1;obtain⟨y,rfl,y0,y1⟩:∃y,x=.int y/\0<=y/\y < m:=by
   rcases List.mem_cons.mp (List.mem_of_getElem? hx) with z | z
   ·exact⟨i,z,i0,i1⟩
   ·exact⟨j,by simpa using z,j0,j1⟩
  refine⟨dC.1,dC.2,fY ?_⟩;refine⟨_,rfl,_,rfl,y,m,rfl,y0,y1,e1,bF (by rw[List.length_map,List.length_replicate];omega),hC _ _ ⟨s1.change hD,aB,?_⟩⟩;rw[List.replicate_succ',List.map_append];rfl
 ·rintro zs H1 ⟨s1,e1,rfl⟩;refine⟨D,_,rfl,SqL.of e1,_,rfl,ifF ?_ ?_⟩
  ·simp
  ·exact q _ s1
abbrev sRN:Stmt:=top 47
theorem Ya:aT ["k","count"] ["k","count"] (aE sRN):=⟨rfl,rfl,rfl,by decide +kernel,rfl,by decide +kernel,by decide +kernel⟩
theorem Xu {dV:Value}(F:bZ K "refuse_number" "refuse_number" sRN dV f fd)(G1:aQ P w K mg base CX0 2 g1 gd1 ["thing","bound"] Uo)(b1:aS K gd1 ["thing","bound"] [])(k1:PySem.W.keepIn K (.ref g1)=true)(m1:mg "is_number_below"=some (.ref g1)) :
  aQ P w K mg base CX 3 f fd ["k","count"] Tx:=by
 refine F.ok Ya (fun vs H Q E h=>?_) (fun cdv A outer s H vs Q E hr h=>?_)
 ·obtain⟨k,c,rfl,u0,u1,q⟩:=h;rfl
 obtain⟨k,c,rfl,u0,u1,q⟩:=h;refine⟨_,(aG (cE (gC (eO (aI G1 hr rfl m1 k1 b1 .nil aM (aA (pv 0) (aA (pv 1) aD))))) (aG fQ) bN)),?_⟩;exact⟨_,rfl,_,rfl,k,c,rfl,u0,u1,_,rfl,eV q⟩
abbrev pS:Stmt:=eQ (top 44) 0
theorem Qg:aT ["self","many"] ["self","many"] (aE pS):=⟨rfl,rfl,rfl,by decide +kernel,rfl,by decide +kernel,by decide +kernel⟩
theorem Kp {dV:Value}{CN:Addr}(F:bZ K "__init__" "Net.__init__" pS dV f fd)(NTx:NT K mg CN){tM:Tok}(mMP:mg "MOST_POINTS"=some (.int 20 tM))(G1:aQ P w K mg base CX0 1 g1 gd1 ["thing"] (oA K))(b1:aS K gd1 ["thing"] [])(k1:PySem.W.keepIn K (.ref g1)=true)(m1:mg "is_whole"=some (.ref g1)):aQ P w K mg base CX 2 f fd ["self","many"] (Ep CN):=by
 refine F.ok Qg (fun vs H Q E h=>?_) (fun cdv A outer s H vs Q E hr h=>?_)
 ·obtain⟨n,dx,m,rfl,hn,h1,h20,q⟩:=h;rfl
 obtain⟨n,dx,m,rfl,hn,h1,h20,q⟩:=h;refine⟨_,(aC (cE (PW.pt (mP (gC (eO (aI G1 hr rfl m1 k1 b1 .nil aM (aA (pv 1) aD)))) (mP (bK wG (pv 1) aF (bM _)) (mU (bK Ew (pv 1) (dB (v:=.int 20) rfl mMP ⟨_,rfl⟩) (bM _)))))) (aG fQ) bN)
  (aC (tT (pv 0) (pv 1) rfl)
  (aG (tT (pv 0) (cV aD) rfl)))),?_⟩
 refine⟨_,rfl,_,rfl,.inl ⟨m,rfl,_,rfl,eV ⟨_,rfl,_,_,rfl,rfl,_,rfl,ifF (decide_eq_false (by omega)) ⟨_,rfl,_,_,rfl,rfl,_,rfl,ifF (decide_eq_false (by omega)) ?_⟩⟩⟩⟩;refine⟨_,rfl,_,rfl,n,CN,dx,[],rfl,hn,NTx.cl,NTx.nP,(by show 0 < 1000;decide),?_⟩;refine⟨by show 0<=sizeLine;decide,fun l hl=>?_⟩;have nl:n≠l:=fun z=>by subst z;rw[aB] at hl;cases hl
 have hl0:H l=none:=by rw[bC (Ne.symm nl)] at hl;exact hl
 have l1:=gX ("point_count":Str) (.int m) [];simp only[List.length_nil] at l1;refine⟨_,rfl,n,CN,dx,iI "point_count" (.int m) [],rfl,by rw[bC nl];exact aB,NTx.cl,NTx.nK,by omega,?_⟩;refine q l _ hl0 (fun b o e hb=>?_) aB (by rw[bC (Ne.symm nl)];exact aB);rw[bC hb,bC (aU e hl0),bC hb];exact e
abbrev vW:Stmt:=eQ (top 44) 1
theorem Uu:aT ["self"] ["self"] (aE vW):=⟨rfl,rfl,rfl,by decide +kernel,rfl,by decide +kernel,by decide +kernel⟩
theorem Oo {dV:Value}{CN:Addr}(F:bZ K "many" "Net.many" vW dV f fd)(NTx:NT K mg CN):aQ P w K mg base CX 1 f fd ["self"] (sV CN K):=by
 refine F.ok Uu (fun vs H Q E h=>?_) (fun cdv A outer s H vs Q E hr h=>?_)
 ·obtain⟨n,l,m,ds,rfl,⟨⟨dx,hn⟩,ts,hl,hr'⟩,q⟩:=h;rfl
 obtain⟨n,l,m,ds,rfl,⟨⟨dx,hn⟩,ts,hl,hr'⟩,q⟩:=h;exact⟨_,(aG (bA (cG (pv 0) rfl))),_,rfl,n,CN,dx,_,_,rfl,hn,NTx.cl,NTx.nP,Ag _ _,q⟩
abbrev pH:Stmt:=eQ (top 44) 2
theorem Pf:aT ["self"] ["self"] (aE pH):=⟨rfl,rfl,rfl,by decide +kernel,rfl,by decide +kernel,by decide +kernel⟩
theorem Kb {dV:Value}{CN:Addr}(F:bZ K "count" "Net.count" pH dV f fd)(NTx:NT K mg CN)(ml:mg "len"=none):aQ P w K mg base CX 1 f fd ["self"] (Dz CN K):=by
 refine F.ok Pf (fun vs H Q E h=>?_) (fun cdv A outer s H vs Q E hr h=>?_)
 ·obtain⟨n,l,m,ds,rfl,⟨⟨dx,hn⟩,ts,hl,hr'⟩,q⟩:=h;rfl
 obtain⟨n,l,m,ds,rfl,⟨⟨dx,hn⟩,ts,hl,hr'⟩,q⟩:=h;refine⟨_,(aG (bA (bO bH rfl ml PySem.boot_len (aA (cG (pv 0) rfl) aD)))),_,rfl,n,CN,dx,_,_,rfl,hn,NTx.cl,NTx.nK,fB _ _,l,ts,rfl,.inl (SqL.of hl),?_⟩;rw[hr'.length];exact q
abbrev qE:Stmt:=eQ (top 44) 6
theorem Pi:aT ["self"] ["self"] (aE qE):=⟨rfl,rfl,rfl,by decide +kernel,rfl,by decide +kernel,by decide +kernel⟩
theorem Mv {dV:Value}{CN:Addr}(F:bZ K "told" "Net.told" qE dV f fd)(NTx:NT K mg CN)(mli:mg "list"=none):aQ P w K mg base CX 1 f fd ["self"] (Ed CN K):=by
 refine F.ok Pi (fun vs H Q E h=>?_) (fun cdv A outer s H vs Q E hr h=>?_)
 ·obtain⟨n,l,m,ds,rfl,⟨⟨dx,hn⟩,ts,hl,hr'⟩,q⟩:=h;rfl
 obtain⟨n,l,m,ds,rfl,⟨⟨dx,hn⟩,ts,hl,hr'⟩,q⟩:=h;refine⟨_,(aG (bA (lL jP rfl mli PyProof.Rows.boot_list (aA (cG (pv 0) rfl) aD)))),_,rfl,n,CN,dx,_,_,rfl,hn,NTx.cl,NTx.nK,fB _ _,l,ts,rfl,.inl (SqL.of hl),fun a ha=>?_⟩;have sa:=aH ha (.lst ts);exact q a ts _ sa ha aB (hr'.same sa)
abbrev Iz:Stmt:=eQ (top 44) 3
theorem Rq:aT ["self","row","told"] ["self","row"] (aE Iz):=⟨rfl,rfl,rfl,by decide +kernel,rfl,by decide +kernel,by decide +kernel⟩
theorem Ue {dV:Value}{CN:Addr}(F:bZ K "add" "Net.add" Iz dV f fd)(NTx:NT K mg CN){tR:Tok}(mMR:mg "MOST_ROWS"=some (.int 40 tR))(ml:mg "len"=none){gT:Addr}{gdT:FuncData}(T:RT K mg CR CK)(GT:aQ P w K mg base CX0 2 gT gdT ["self"] (yC CK))(bT:aS K gdT ["self"] [])(mT:∀k,gH K (CK k) "told" gT)(G1:aQ P w K mg base CX0 3 g1 gd1 ["some","many"] (Wg K))(b1:aS K gd1 ["some","many"] [])(k1:PySem.W.keepIn K (.ref g1)=true)(m1:mg "refuse_points"=some (.ref g1))(G2:aQ P w K mg base CX0 4 g2 gd2 ["word","size"] (Uz K))(b2:aS K gd2 ["word","size"] [])(k2:PySem.W.keepIn K (.ref g2)=true)(m2:mg "refuse_size"=some (.ref g2)):aQ P w K mg base CX 5 f fd ["self","row"] (Sj CN K CK):=by
 refine F.ok Rq (fun vs H Q E h=>?_) (fun cdv A outer s H vs Q E hr h=>?_)
 ·obtain⟨n,l,x,z,m,ds,k,i,j,p,rfl,⟨⟨dx,hn⟩,ts,hl,hR⟩,rw,fz,⟨i0,i1,j0,j1,lp,h0,bp⟩,h40,q⟩:=h;rfl
 obtain⟨n,l,x,z,m,ds,k,i,j,p,rfl,⟨⟨dx,hn⟩,ts,hl,hR⟩,rw,fz,⟨i0,i1,j0,j1,lp,h0,bp⟩,h40,q⟩:=h;have r2:=hr.mono (show 2<=4 by omega);have r3:=hr.mono (show 3<=4 by omega);refine⟨_,(aC (aW (i:=2) Rq.nd rfl (Or.inl rfl) (fV (f:=fun _=>gT) (fd:=fun _=>gdT) (sp:=fun _=>yC CK) (pv 1) T.cl mT (fun _=>GT) r2 (fun _=>bT) .nil aM))
  (aC (bV (aI G1 r3 rfl m1 k1 b1 .nil aM (aA (cV (aA (aP aX (pv 2) aF (fun _ _=>rfl)) (aA (aP aX (pv 2) aF (fun _ _=>rfl)) aD))) (aA (cG (pv 0) rfl) aD))))
  (aC (bV (aI G2 hr rfl m2 k2 b2 .nil aM (aA (aP aX (pv 2) aF (fun _ _=>rfl)) (aA (aP aX (pv 2) aF (fun _ _=>rfl)) aD))))
  (aC (cE (bK Jp (bO bH rfl ml PySem.boot_len (aA (cG (pv 0) rfl) aD)) (dB (v:=.int 40) rfl mMR ⟨_,rfl⟩) (bM _)) (aG fQ) bN)
  (aC (bV (nX PySem.F.plainAttrs_list PySem.F.slot_list_append PySem.F.type_list_append fX (cG (pv 0) rfl) (aA (pv 2) aD)))
  (aG (bA (aY iZ (bO bH rfl ml PySem.boot_len (aA (cG (pv 0) rfl) aD)) aF)))))))),?_⟩
 obtain⟨dr,hx⟩:=id rw;have len:=hR.length;refine⟨_,rfl,k,x,dr,_,rfl,hx,(eP _ _ _ (by decide +kernel) (by decide +kernel) (by decide +kernel)),x,k,_,_,_,rfl,rw,fun t ht=>?_⟩;have st:=aH ht (.tup [.str k.wd,.int i,.int j,.ref z]);have et:SqT K (upd H t (.tup [.str k.wd,.int i,.int j,.ref z])) t [.str k.wd,.int i,.int j,.ref z]:=SqT.of aB;generalize upd H t (.tup [.str k.wd,.int i,.int j,.ref z])=H1a at st et ⊢;have hn1:=st _ _ hn;have hl1:=st _ _ hl;refine⟨_,rfl,t,_,1,_,rfl,rfl,et,rfl,_,rfl,t,_,2,_,rfl,rfl,et,rfl,by show 2<=sizeLine;decide,fun lq hlq=>?_⟩;have sq:=aH hlq (.lst [.int i,.int j]);have eq:upd H1a lq (.lst [.int i,.int j]) lq=some (.lst [.int i,.int j]):=aB;generalize upd H1a lq (.lst [.int i,.int j])=H1b at sq eq ⊢;have hnb:=sq _ _ hn1;refine⟨_,rfl,n,CN,dx,_,_,rfl,hnb,NTx.cl,NTx.nP,Ag _ _,lq,i,j,m,rfl,SqL.of eq,i0,i1,j0,j1,fun H1 sc=>?_⟩;have sqc:=sq.trans sc;have st:=st.trans sqc;have et:=sqc.seqT et;have hn1:=sqc _ _ hn1;have hl1:=sqc _ _ hl1;refine⟨_,rfl,t,_,0,_,rfl,rfl,et,rfl,_,rfl,t,_,3,_,rfl,rfl,et,rfl,k,z,p,rfl,st.fq fz,lp,h0,bp,?_⟩;refine⟨_,rfl,n,CN,dx,_,_,rfl,hn1,NTx.cl,NTx.nK,fB _ _,l,ts,rfl,.inl (SqL.of hl1),_,_,rfl,rfl,_,rfl,ifF (decide_eq_false (by omega)) ?_⟩;refine⟨_,rfl,n,CN,dx,_,_,rfl,hn1,NTx.cl,NTx.nK,fB _ _,.inl ⟨rfl,_,SqL.of hl1⟩,_,rfl,l,ts,.ref t,rfl,rfl,hl1,bF (by omega),?_⟩;have nn:n≠l:=iN hn1 hl1 (fun z=>by cases z);have hn2:upd H1 l (.lst (ts++[.ref t])) n=some (.ins CN dx (oI m l)):=by rw[bC nn];exact hn1
 have hl2:upd H1 l (.lst (ts++[.ref t])) l=some (.lst (ts++[.ref t])):=aB;refine⟨_,rfl,n,CN,dx,_,_,rfl,hn2,NTx.cl,NTx.nK,fB _ _,l,_,rfl,.inl (SqL.of hl2),_,_,rfl,rfl,?_⟩;show Q (.int (((ts++[V.ref t]).length:Int) - 1)) _;rw[List.length_append,List.length_singleton,len,show (((ds.length+1:Nat):Int) - 1)=(ds.length:Int) by omega];refine q _ (st.x.write) ⟨⟨dx,hn2⟩,_,hl2,Rts.upd hl1 ((hR.same st).app (.cons et (st.fq fz) .nil))⟩
abbrev mE:Stmt:=eQ (top 44) 4
theorem Aw:aT ["self","k","size","old"] ["self","k","size"] (aE mE):=⟨rfl,rfl,rfl,by decide +kernel,rfl,by decide +kernel,by decide +kernel⟩
theorem Go {dV:Value}{CN:Addr}(F:bZ K "change" "Net.change" mE dV f fd)(NTx:NT K mg CN)(ml:mg "len"=none)(G1:aQ P w K mg base CX0 3 g1 gd1 ["k","count"] Tx)(b1:aS K gd1 ["k","count"] [])(k1:PySem.W.keepIn K (.ref g1)=true)(m1:mg "refuse_number"=some (.ref g1))(G2:aQ P w K mg base CX0 4 g2 gd2 ["word","size"] (Uz K))(b2:aS K gd2 ["word","size"] [])(k2:PySem.W.keepIn K (.ref g2)=true)(m2:mg "refuse_size"=some (.ref g2)):aQ P w K mg base CX 5 f fd ["self","k","size"] (tW CN K):=by
 refine F.ok Aw (fun vs H Q E h=>?_) (fun cdv A outer s H vs Q E hr h=>?_)
 ·obtain⟨n,l,z,m,q',ds,k,i,j,p0,p,rfl,⟨⟨dx,hn⟩,ts,hl,hR⟩,q0,hq,fz,lp,h0,bp,q⟩:=h;rfl
 obtain⟨n,l,z,m,q',ds,k,i,j,p0,p,rfl,⟨⟨dx,hn⟩,ts,hl,hR⟩,q0,hq,fz,lp,h0,bp,q⟩:=h;have r2:=hr.mono (show 3<=4 by omega);refine⟨_,(aC (bV (aI G1 r2 rfl m1 k1 b1 .nil aM (aA (pv 1) (aA (bO bH rfl ml PySem.boot_len (aA (cG (pv 0) rfl) aD)) aD))))
  (aC (aW (i:=3) Aw.nd rfl (Or.inl rfl) (aP bL (cG (pv 0) rfl) (pv 1) (fun _ _=>rfl)))
  (aC (bV (aI G2 hr rfl m2 k2 b2 .nil aM (aA (aP aX (pv 3) aF (fun _ _=>rfl)) (aA (pv 2) aD))))
  (aG (hV (cX (aA (aP aX (pv 3) aF (fun _ _=>rfl)) (aA (aP aX (pv 3) aF (fun _ _=>rfl)) (aA (aP aX (pv 3) aF (fun _ _=>rfl)) (aA (pv 2) aD))))) (iV (cG (pv 0) rfl) (pv 1) gA)))))),?_⟩
 have len:=hR.length;have lt:q'.toNat < ds.length:=(List.getElem?_eq_some_iff.mp hq).1;obtain⟨t,z0,et,ht,_⟩:=hR.at hq;have at_:atI ts q'=some (.ref t):=by
  have:=bQ et
  rwa [show ((q'.toNat:Nat):Int)=q' by omega] at this
 have ix_:ixN ts.length q'=some q'.toNat:=by
  have:=gR (n:=ts.length) (k:=q'.toNat) (by omega)
  rwa [show ((q'.toNat:Nat):Int)=q' by omega] at this
 refine⟨_,rfl,_,rfl,n,CN,dx,_,_,rfl,hn,NTx.cl,NTx.nK,fB _ _,l,ts,rfl,.inl (SqL.of hl),q',_,rfl,q0,by omega,?_⟩;refine⟨_,rfl,n,CN,dx,_,_,rfl,hn,NTx.cl,NTx.nK,fB _ _,_,rfl,l,ts,q',_,rfl,rfl,SqL.of hl,at_,?_⟩;refine⟨_,rfl,t,_,0,_,rfl,rfl,ht,rfl,_,rfl,k,z,p,rfl,fz,lp,h0,bp,?_⟩;refine⟨_,rfl,t,_,0,_,rfl,rfl,ht,rfl,_,rfl,t,_,1,_,rfl,rfl,ht,rfl,_,rfl,t,_,2,_,rfl,rfl,ht,rfl,_,rfl,by show 4<=sizeLine;decide,fun u hu=>?_⟩;have su:=aH hu (.tup [.str k.wd,.int i,.int j,.ref z]);have eu:SqT K (upd H u (.tup [.str k.wd,.int i,.int j,.ref z])) u [.str k.wd,.int i,.int j,.ref z]:=SqT.of aB;generalize upd H u (.tup [.str k.wd,.int i,.int j,.ref z])=H1 at su eu ⊢;have hn1:=su _ _ hn;have hl1:=su _ _ hl;refine⟨_,rfl,n,CN,dx,_,_,rfl,hn1,NTx.cl,NTx.nK,fB _ _,_,rfl,l,ts,q',q'.toNat,rfl,rfl,hl1,ix_,?_⟩;have nn:n≠l:=iN hn1 hl1 (fun z=>by cases z);refine q _ (su.x.write) ⟨⟨dx,by rw[bC nn];exact hn1⟩,_,aB,Rts.upd hl1 (Rts.set eu (su.fq fz) _ (hR.same su))⟩
theorem Pw:(["told"]:List Str).Nodup:=by decide +kernel
abbrev vX:Stmt:=eQ (top 44) 5
theorem Tw:aT ["self"] ["self"] (aE vX):=⟨rfl,rfl,rfl,by decide +kernel,rfl,by decide +kernel,by decide +kernel⟩
theorem Qr {dV:Value}{CN:Addr}(F:bZ K "rows" "Net.rows" vX dV f fd)(NTx:NT K mg CN)(G1:aQ P w K mg base CX0 3 g1 gd1 ["told"] (tD K CK))(b1:aS K gd1 ["told"] [])(k1:PySem.W.keepIn K (.ref g1)=true)(m1:mg "row_of"=some (.ref g1)):aQ P w K mg base CX 4 f fd ["self"] (pB CN K CK):=by
 refine F.ok Tw (fun vs H Q E h=>?_) (fun cdv A outer s H vs Q E hr h=>?_)
 ·obtain⟨n,l,m,ds,rfl,⟨⟨dx,hn⟩,ts,hl,hR⟩,h100,q⟩:=h;rfl
 obtain⟨n,l,m,ds,rfl,⟨⟨dx,hn⟩,ts,hl,hR⟩,h100,q⟩:=h;refine⟨_,(aG (bA (fH (nl:=1) (fr:=[]) (Nc:=["told"]) (cl:=[]) rfl ⟨rfl,rfl,by decide +kernel,by decide +kernel,fun x c h=>(by cases h),dS rfl,rfl,fun i n h=>(by simp at h)⟩
    (cS (cG (pv 0) rfl)) (fun C s3 H3 fp pins=>(aZ (i:=0) Pw rfl (Or.inl rfl))) (fun C s3 H3 fp pins=>dX)
    (fun C s3 H3 fp pins=>(aI G1 hr rfl m1 k1 b1 .nil aM (aA (pv 0) aD)))))),?_⟩
 have len:=hR.length;refine⟨_,rfl,n,CN,dx,_,_,rfl,hn,NTx.cl,NTx.nK,fB _ _,l,rfl,⟨_,SqL.of hl⟩,fun D hD=>?_⟩;have sD:=aH hD (.lst []);refine dE (xs:=ts) (fun i zs H'=>bG H H'/\H' D=some (.lst zs)/\gM CK K H' zs (ds.take i)) ⟨sD,aB,.nil⟩ (fun i zs H' h=>h.2.1) (fun i zs H' _ h=>h.1.seq (SqL.of hl)) ?_ ?_
 ·rintro i zs x H1 hx ⟨s1,e1,R1⟩ C hC;have hi:i < ds.length:=by
   have:=(List.getElem?_eq_some_iff.mp hx).1;omega
  obtain⟨⟨k,u,v,p⟩,hd⟩:∃d,ds[i]?=some d:=⟨_,List.getElem?_eq_getElem hi⟩
  obtain⟨t,z,et,ht,fz⟩:=hR.at hd;have ex:x=.ref t:=by rw[et] at hx;exact(Option.some.inj hx).symm
  subst ex;have lz:=R1.length;rw[List.length_take] at lz;refine⟨dC.1,dC.2,fY ?_⟩;refine⟨_,rfl,t,_,_,_,_,rfl,s1.seqT ht,k,rfl,fun y H2 s2 ny rw=>?_⟩;have e2:=s2 _ _ e1;refine⟨e2,bF (by omega),hC _ _ ⟨(s1.trans s2).change hD,aB,?_⟩⟩;rw[List.take_add_one,hd];exact gM.upd e2 ((R1.same s2).app (.cons rw ((s1.trans s2).fq fz) .nil))
 ·rintro zs H1 ⟨s1,e1,R1⟩;rw[len,List.take_length] at R1;exact q D zs H1 s1 hD e1 R1
theorem zO {g:Addr}{gd:FuncData}(F:aQ P w K mg base CX0 2 g gd ["thing"] (Kc K)):aQ P w K mg base CX0 2 g gd ["thing"] (Kj K):=
 F.weak fun vs H Q E h=>by
  obtain⟨a,p,rfl,f,l,q⟩:=h;exact⟨_,some p,rfl,.fr f l,q⟩
theorem Pu {X:Cx}{K:PySem.W.Frag}(h:X.K=K)(hu:X.A.units+64 < cLine):OpR X (compareOp .Eq) (zB K false):=by subst h;exact uL hu
abbrev Yc:Stmt:=top 21
abbrev wI:Stmt:=top 22
theorem Va:aT ["one","other"] ["one","other"] (aE wI):=⟨rfl,rfl,rfl,by decide +kernel,rfl,by decide +kernel,by decide +kernel⟩
theorem Rg {dV:Value}(F:bZ K "over" "over" wI dV f fd)(G1:aQ P w K mg base CX0 2 g1 gd1 ["top","bottom"] gL)(b1:aS K gd1 ["top","bottom"] [])(k1:PySem.W.keepIn K (.ref g1)=true)(m1:mg "fraction"=some (.ref g1)) :
  aQ P w K mg base CX 3 f fd ["one","other"] (yU K):=by
 refine F.ok Va (fun vs H Q E h=>?_) (fun cdv A outer s H vs Q E hr h=>?_)
 ·obtain⟨a,b,p,q,n,m,rfl,ha,hb,lp,lq,h0,bp,bq,hn,z⟩:=h;rfl
 obtain⟨a,b,p,q,n,m,rfl,ha,hb,lp,lq,h0,bp,bq,hn,z⟩:=h;refine⟨_,(aC (cE (bK eE (aP aX (pv 1) aF (fun _ _=>rfl)) aF (bM _)) (aG fQ) bN)
  (aG (bA (aI G1 hr rfl m1 k1 b1 .nil aM (aA (aY cN (aP aX (pv 0) aF (fun _ _=>rfl)) (aP aX (pv 1) aF (fun _ _=>rfl))) (aA (aY cN (aP aX (pv 0) aF (fun _ _=>rfl)) (aP aX (pv 1) aF (fun _ _=>rfl))) aD)))))),?_⟩
 refine dY rfl hb ⟨rfl,_,rfl,?_⟩;rw[decide_eq_false (fun e=>absurd (show q.1=0 by injection e) (by omega))];refine eV ?_;refine dY rfl ha (cL rfl hb (cO bp.a bq.b (by omega) (by omega) ?_));exact cL rfl ha (dY rfl hb (cO bp.b bq.a (by omega) (by omega) ⟨_,_,n+m,rfl,Mq.nU lp (by omega),bp.b.mul bq.a,by omega,z⟩))
end
section
variable {P:Program} {w:World} {K:PySem.W.Frag} {mg:Str->Option Value} {base:Heap} {f g1 g2 g3 g4 g5 g6 g7 g8:Addr} {fd gd1 gd2 gd3 gd4 gd5 gd6 gd7 gd8:FuncData} {CX:CXT}
variable {CR:Addr} {CK:Kd->Addr} {fW fJ fT fS:Kd->Addr} {fdW fdJ fdT fdS:Kd->FuncData}
abbrev qK:Stmt:=top 65
theorem Rk:aT ["line","column","amount"] ["line","column","amount"] (aE qK):=⟨rfl,rfl,rfl,by decide +kernel,rfl,by decide +kernel,by decide +kernel⟩
theorem Kl {dV:Value}(F:bZ K "raise_at" "raise_at" qK dV f fd)(G1:aQ P w K mg base CX0 3 g1 gd1 ["one","other"] (kL K Mq.plus))(b1:aS K gd1 ["one","other"] [])(k1:PySem.W.keepIn K (.ref g1)=true)(m1:mg "plus"=some (.ref g1)) :
  aQ P w K mg base CX 4 f fd ["line","column","amount"] (rL K):=by
 refine F.ok Rk (fun vs H Q E h=>?_) (fun cdv A outer s H vs Q E hr h=>?_)
 ·obtain⟨l,z,j,xs,ps,a,n,m,rfl,hl,hF,hj,p1,bp,fz,a1,ba,hn,q⟩:=h;rfl
 obtain⟨l,z,j,xs,ps,a,n,m,rfl,hl,hF,hj,p1,bp,fz,a1,ba,hn,q⟩:=h;refine⟨_,(aG (hV (aI G1 hr rfl m1 k1 b1 .nil aM (aA (aP bL (pv 0) (pv 1) (fun _ _=>rfl)) (aA (pv 2) aD))) (iV (pv 0) (pv 1) gA))),?_⟩;have lx:=hF.length;obtain⟨u,eu,fu⟩:=hF.at (oM hj);refine⟨_,rfl,_,rfl,l,xs,_,_,rfl,rfl,SqL.of hl,bQ eu,_,rfl,u,z,_,a,n,m,rfl,fu,fz,p1,a1,bp,ba,hn,fun v H1 s1 e1=>?_⟩;exact⟨_,rfl,_,rfl,l,xs,_,j,rfl,rfl,s1 _ _ hl,gR (by omega),q v H1 s1 (Fq.of e1)⟩
abbrev pT:Stmt:=top 64
theorem Ov:aT ["matrix","row","column","amount"] ["matrix","row","column","amount"] (aE pT):=⟨rfl,rfl,rfl,by decide +kernel,rfl,by decide +kernel,by decide +kernel⟩
theorem Kf {dV:Value}(F:bZ K "enter_stream" "enter_stream" pT dV f fd)(T:RT K mg CR CK){aN:Addr}(fN:∀H,Fq K H aN (0,1))(mNO:mg "NOUGHT"=some (.ref aN))(G1:aQ P w K mg base CX0 4 g1 gd1 ["line","column","amount"] (rL K))(b1:aS K gd1 ["line","column","amount"] [])(k1:PySem.W.keepIn K (.ref g1)=true)(m1:mg "raise_at"=some (.ref g1))(G2:aQ P w K mg base CX0 3 g2 gd2 ["one","other"] (kL K Mq.minus))(b2:aS K gd2 ["one","other"] [])(k2:PySem.W.keepIn K (.ref g2)=true)(m2:mg "minus"=some (.ref g2)) :
  aQ P w K mg base CX 5 f fd ["matrix","row","column","amount"] (xO K CK):=by
 refine F.ok Ov (fun vs H Q E h=>?_) (fun cdv A outer s H vs Q E hr h=>?_)
 ·obtain⟨D,x,z,zz,as,M,⟨k0,u,v,p⟩,w,n,k,c,a,rfl,mx,mb,rw,pt,hc,fz,la,ba,hn,q⟩:=h;rfl
 obtain⟨D,x,z,zz,as,M,⟨k0,u,v,p⟩,w,n,k,c,a,rfl,mx,mb,rw,pt,hc,fz,la,ba,hn,q⟩:=h;have r3:=hr.mono (show 3<=4 by omega);refine⟨_,(aC (bV (aI G1 hr rfl m1 k1 b1 .nil aM (aA (aP bL (pv 0) (cG (pv 1) rfl) (fun _ _=>rfl)) (aA (pv 2) (aA (pv 3) aD)))))
  (aG (bV (aI G1 hr rfl m1 k1 b1 .nil aM (aA (aP bL (pv 0) (cG (pv 1) rfl) (fun _ _=>rfl)) (aA (pv 2) (aA (aI G2 r3 rfl m2 k2 b2 .nil aM (aA (dB (v:=.ref aN) rfl mNO rfl) (aA (pv 3) aD))) aD))))))),?_⟩
 obtain⟨i0,i1,j0,j1⟩:cT (w:Int) u v:=pt;obtain⟨uN,rfl⟩:∃uN:Nat,u=(uN:Int):=⟨u.toNat,by omega⟩
 obtain⟨vN,rfl⟩:∃vN:Nat,v=(vN:Int):=⟨v.toNat,by omega⟩
 have hu':uN < w:=by omega
 have hv':vN < w:=by omega
 obtain⟨ln,bn,_⟩:=kG la ba;obtain⟨dx,hx⟩:=id rw;obtain⟨e1,m1,w1⟩:=mb.row hu';obtain⟨e2,l2,b2⟩:=mb.at hu' hc;have lam:=mx.la;obtain⟨a1,ha1⟩:∃a1,as[uN]?=some a1:=⟨_,List.getElem?_eq_getElem (by rw[lam,mb.h];exact hu')⟩
 obtain⟨xs,hxs,hF⟩:=mx.r uN a1 _ ha1 e1;have at1:atI (as.map V.ref) (uN:Int)=some (.ref a1):=bQ (by rw[List.getElem?_map,ha1];rfl);refine⟨_,rfl,_,rfl,x,CK _,_,_,_,rfl,hx,T.cl _,T.nS _,dD _ _ _,D,_,_,_,rfl,rfl,SqL.of mx.d,at1,_,rfl,_,rfl,a1,z,c,xs,_,a,n,k,rfl,hxs,hF,by rw[w1];exact hc,l2.pos,b2,fz,la.pos,ba,by omega,fun v1 H1 s1 f1=>?_⟩;obtain⟨mx2,sx2⟩:=mx.set (j:=c) ha1 e1 hxs hF s1 f1;have mb2:=mb.rz hu' hc la ba;generalize upd H1 a1 (.lst (xs.set c (.ref v1)))=H2 at mx2 sx2 ⊢;have mx2:Mx K H2 D as (rz M uN c a):=mx2;have ls:=mx.lsts;have fz2:Fq K H2 z a:=sx2.seqT ls fz;obtain⟨dx2,hx2⟩:=id (sx2.rw ls rw);obtain⟨e3,m3,w3⟩:=mb2.row hv';obtain⟨e4,l4,b4⟩:=mb2.at hv' hc;obtain⟨a2,ha2⟩:∃a2,as[vN]?=some a2:=⟨_,List.getElem?_eq_getElem (by rw[lam,mb.h];exact hv')⟩
 obtain⟨xs2,hxs2,hF2⟩:=mx2.r vN a2 _ ha2 e3;have at2:atI (as.map V.ref) (vN:Int)=some (.ref a2):=bQ (by rw[List.getElem?_map,ha2];rfl);have b01:Mq.Bd 1 (0,1):=⟨show (0:Nat) < 2 ^ 1 by decide,show (1:Nat) < 2 ^ 1 by decide⟩
 refine⟨_,rfl,_,rfl,x,CK _,_,_,_,rfl,hx2,T.cl _,T.nG _,dR _ _ _,D,_,_,_,rfl,rfl,SqL.of mx2.d,at2,_,rfl,_,rfl,aN,z,(0,1),a,1,k,rfl,fN _,fz2,by decide,la.pos,b01,ba,by omega,fun v3 H3 s3 e5=>?_⟩;refine⟨a2,v3,c,xs2,_,_,n+k+1,k+2,rfl,s3 _ _ hxs2,hF2.same s3,by rw[w3];exact hc,l4.pos,b4,Fq.of e5,ln.pos,bn,by omega,fun v4 H4 s4 f4=>?_⟩;obtain⟨mx3,sx3⟩:=(mx2.same s3).set (j:=c) ha2 e3 (s3 _ _ hxs2) (hF2.same s3) s4 f4;exact q _ (sx2.trans (s3.sx.trans sx3)) mx3
abbrev lQ:Stmt:=top 61
theorem zF:aT ["matrix","row","share"] ["matrix","row"] (aE lQ):=⟨rfl,rfl,rfl,by decide +kernel,rfl,by decide +kernel,by decide +kernel⟩
theorem Id {dV:Value}(F:bZ K "enter_piece" "enter_piece" lQ dV f fd)(T:RT K mg CR CK){aN aO:Addr}(fN:∀H,Fq K H aN (0,1))(mNO:mg "NOUGHT"=some (.ref aN))(fO:∀H,Fq K H aO (1,1))(mON:mg "ONE"=some (.ref aO))(G1:aQ P w K mg base CX0 3 g1 gd1 ["one","other"] (yU K))(b1:aS K gd1 ["one","other"] [])(k1:PySem.W.keepIn K (.ref g1)=true)(m1:mg "over"=some (.ref g1))(G2:aQ P w K mg base CX0 5 g2 gd2 ["matrix","row","column","amount"] (xO K CK))(b2:aS K gd2 ["matrix","row","column","amount"] [])(k2:PySem.W.keepIn K (.ref g2)=true)(m2:mg "enter_stream"=some (.ref g2))(G3:aQ P w K mg base CX0 3 g3 gd3 ["one","other"] (kL K Mq.minus))(b3:aS K gd3 ["one","other"] [])(k3:PySem.W.keepIn K (.ref g3)=true)(m3:mg "minus"=some (.ref g3)) :
  aQ P w K mg base CX 6 f fd ["matrix","row"] (Ab K CK):=by
 refine F.ok zF (fun vs H Q E h=>?_) (fun cdv A outer s H vs Q E hr h=>?_)
 ·obtain⟨D,x,zz,as,M,⟨k0,u,v,p⟩,w,n,k,rfl,mx,mb,rw,fp,pt,lp,p0,bp,hn,q⟩:=h;rfl
 obtain⟨D,x,zz,as,M,⟨k0,u,v,p⟩,w,n,k,rfl,mx,mb,rw,fp,pt,lp,p0,bp,hn,q⟩:=h;have r3:=hr.mono (show 3<=5 by omega);refine⟨_,(aC (aW (i:=2) zF.nd rfl (Or.inl rfl) (aI G1 r3 rfl m1 k1 b1 .nil aM (aA (dB (v:=.ref aO) rfl mON rfl) (aA (cG (pv 1) rfl) aD))))
  (aC (bV (aI G2 hr rfl m2 k2 b2 .nil aM (aA (pv 0) (aA (pv 1) (aA (cG (pv 1) rfl) (aA (pv 2) aD))))))
  (aG (bV (aI G2 hr rfl m2 k2 b2 .nil aM (aA (pv 0) (aA (pv 1) (aA (cG (pv 1) rfl) (aA (aI G3 r3 rfl m3 k3 b3 .nil aM (aA (dB (v:=.ref aN) rfl mNO rfl) (aA (pv 2) aD))) aD))))))))),?_⟩
 have lp:Mq.Low p:=lp;have p0:0 < p.1:=p0;have bp:Mq.Bd k p:=bp;have fp:Fq K H zz p:=fp;obtain⟨i0,i1,j0,j1⟩:cT (w:Int) u v:=pt;obtain⟨uN,rfl⟩:∃uN:Nat,u=(uN:Int):=⟨u.toNat,by omega⟩
 obtain⟨vN,rfl⟩:∃vN:Nat,v=(vN:Int):=⟨v.toNat,by omega⟩
 obtain⟨ls,bs,_⟩:=zU lp p0 bp;obtain⟨ln,bn,_⟩:=kG ls bs;have pt':cT (w:Int) (uN:Int) (vN:Int):=⟨i0,i1,j0,j1⟩
 obtain⟨dx,hx⟩:=id rw;refine⟨_,rfl,x,CK _,_,_,_,rfl,hx,T.cl _,T.nZ _,iL _ _ _,aO,zz,(1,1),p,1,k,rfl,fO _,fp,h11,lp.pos,p0,gP,bp,by omega,fun s' H1 s1 e1=>?_⟩;have fs:Fq K H1 s' (Mq.mI (1,1) p):=Fq.of e1;have rw1:=rw.same s1;obtain⟨dx1,hx1⟩:=id rw1;have mx1:=mx.same s1;refine⟨_,rfl,_,rfl,_,rfl,x,CK _,_,_,_,rfl,hx1,T.cl _,T.nS _,dD _ _ _,_,rfl,D,x,s',_,as,M,(k0,(uN:Int),(vN:Int),p),w,n,k+1,uN,_,rfl,mx1,mb,rw1,pt',by omega,fs,ls,bs,by omega,fun H2 sx2 mx2=>?_⟩;have lst:=mx1.lsts;have fs2:Fq K H2 s' (Mq.mI (1,1) p):=sx2.seqT lst fs;have rw2:=sx2.rw lst rw1;obtain⟨dx2,hx2⟩:=id rw2;obtain⟨mb2,_⟩:=Ai (d:=(k0,(uN:Int),(vN:Int),p)) mb pt' (c:=uN) (by omega) ls bs;have b01:Mq.Bd 1 (0,1):=⟨show (0:Nat) < 2 ^ 1 by decide,show (1:Nat) < 2 ^ 1 by decide⟩
 refine⟨_,rfl,_,rfl,_,rfl,x,CK _,_,_,_,rfl,hx2,T.cl _,T.nG _,dR _ _ _,_,rfl,aN,s',(0,1),_,1,k+1,rfl,fN _,fs2,by decide,ls.pos,b01,bs,by omega,fun v3 H3 s3 e3=>?_⟩;refine⟨D,x,v3,_,as,_,(k0,(uN:Int),(vN:Int),p),w,n+2*(k+1)+4,k+3,vN,_,rfl,mx2.same s3,mb2,rw2.same s3,pt',by omega,Fq.of e3,ln,bn,by omega,fun H4 sx4 mx4=>?_⟩;exact q H4 (s1.sx.trans (sx2.trans (s3.sx.trans sx4))) mx4
abbrev lP:Stmt:=top 62
theorem Jk:aT ["right","row"] ["right","row"] (aE lP):=⟨rfl,rfl,rfl,by decide +kernel,rfl,by decide +kernel,by decide +kernel⟩
theorem Hc {dV:Value}(F:bZ K "enter_push" "enter_push" lP dV f fd)(T:RT K mg CR CK){aN:Addr}(fN:∀H,Fq K H aN (0,1))(mNO:mg "NOUGHT"=some (.ref aN))(G1:aQ P w K mg base CX0 4 g1 gd1 ["line","column","amount"] (rL K))(b1:aS K gd1 ["line","column","amount"] [])(k1:PySem.W.keepIn K (.ref g1)=true)(m1:mg "raise_at"=some (.ref g1))(G2:aQ P w K mg base CX0 3 g2 gd2 ["one","other"] (kL K Mq.minus))(b2:aS K gd2 ["one","other"] [])(k2:PySem.W.keepIn K (.ref g2)=true)(m2:mg "minus"=some (.ref g2)) :
  aQ P w K mg base CX 5 f fd ["right","row"] (rY K CK):=by
 refine F.ok Jk (fun vs H Q E h=>?_) (fun cdv A outer s H vs Q E hr h=>?_)
 ·obtain⟨R,x,zz,ys,rs,⟨k0,u,v,p⟩,w,n,k,rfl,eR,hF,lb,rw,fp,pt,lp,bp,hn,q⟩:=h;rfl
 obtain⟨R,x,zz,ys,rs,⟨k0,u,v,p⟩,w,n,k,rfl,eR,hF,lb,rw,fp,pt,lp,bp,hn,q⟩:=h;have r3:=hr.mono (show 3<=4 by omega);refine⟨_,(aC (bV (aI G1 hr rfl m1 k1 b1 .nil aM (aA (pv 0) (aA (cG (pv 1) rfl) (aA (aI G2 r3 rfl m2 k2 b2 .nil aM (aA (dB (v:=.ref aN) rfl mNO rfl) (aA (cG (pv 1) rfl) aD))) aD)))))
  (aG (bV (aI G1 hr rfl m1 k1 b1 .nil aM (aA (pv 0) (aA (cG (pv 1) rfl) (aA (cG (pv 1) rfl) aD))))))),?_⟩
 have lp:Mq.Low p:=lp;have bp:Mq.Bd k p:=bp;have fp:Fq K H zz p:=fp;obtain⟨i0,i1,j0,j1⟩:cT (w:Int) u v:=pt;obtain⟨uN,rfl⟩:∃uN:Nat,u=(uN:Int):=⟨u.toNat,by omega⟩
 obtain⟨vN,rfl⟩:∃vN:Nat,v=(vN:Int):=⟨v.toNat,by omega⟩
 obtain⟨ln,bn,_⟩:=kG lp bp;obtain⟨dx,hx⟩:=id rw;obtain⟨_,l1,b1⟩:=lb.at (j:=uN) (by omega);have b01:Mq.Bd 1 (0,1):=⟨show (0:Nat) < 2 ^ 1 by decide,show (1:Nat) < 2 ^ 1 by decide⟩
 refine⟨_,rfl,_,rfl,x,CK _,_,_,_,rfl,hx,T.cl _,T.nS _,dD _ _ _,_,rfl,x,CK _,_,_,_,rfl,hx,T.cl _,T.nZ _,iL _ _ _,aN,zz,(0,1),p,1,k,rfl,fN _,fp,by decide,lp.pos,b01,bp,by omega,fun v1 H1 s1 e1=>?_⟩;refine⟨R,v1,uN,ys,rs,_,n,k+2,rfl,s1 _ _ eR,hF.same s1,by rw[lb.w];omega,l1.pos,b1,Fq.of e1,ln.pos,bn,by omega,fun v2 H2 s2 f2=>?_⟩;have s12:=s1.trans s2;have eR2:=s12 _ _ eR;have F3:=(Fqs.set f2 uN (hF.same s12)).upd (o:=.lst (ys.set uN (.ref v2))) eR2;have e3:upd H2 R (.lst (ys.set uN (.ref v2))) R=some (.lst (ys.set uN (.ref v2))):=aB;have sx3:SX [R] H (upd H2 R (.lst (ys.set uN (.ref v2)))):=s12.sx.write (by simp);have fp3:Fq K (upd H2 R (.lst (ys.set uN (.ref v2)))) zz p:=SqT.upd (s12.fq fp) eR2;have rw3:=(rw.same s12).upd (o:=.lst (ys.set uN (.ref v2))) eR2;generalize upd H2 R (.lst (ys.set uN (.ref v2)))=H3 at F3 e3 sx3 fp3 rw3 ⊢;have lb3:=lb.rz (j:=uN) (by omega) ln bn;have F3:Fqs K H3 (ys.set uN (.ref v2)) (rzl rs uN (Mq.minus (0,1) p)):=F3;obtain⟨_,l4,b4⟩:=lb3.at (j:=vN) (by omega);obtain⟨dx3,hx3⟩:=id rw3;refine⟨_,rfl,_,rfl,x,CK _,_,_,_,rfl,hx3,T.cl _,T.nG _,dR _ _ _,_,rfl,x,CK _,_,_,_,rfl,hx3,T.cl _,T.nZ _,iL _ _ _,R,zz,vN,_,_,p,n+(k+2)+1,k,rfl,e3,F3,by rw[lb3.w];omega,l4.pos,b4,fp3,lp.pos,bp,by omega,fun v5 H5 s5 f5=>?_⟩;refine q _ _ (sx3.trans (s5.sx.write (by simp))) aB ?_;exact(Fqs.set f5 vN (F3.same s5)).upd (s5 _ _ e3)
abbrev lH:Stmt:=top 63
theorem Km:aT ["matrix","right","row","column"] ["matrix","right","row","column"] (aE lH):=⟨rfl,rfl,rfl,by decide +kernel,rfl,by decide +kernel,by decide +kernel⟩
theorem Iw {dV:Value}(F:bZ K "enter_hold" "enter_hold" lH dV f fd)(T:RT K mg CR CK){aN aO:Addr}(fN:∀H,Fq K H aN (0,1))(mNO:mg "NOUGHT"=some (.ref aN))(fO:∀H,Fq K H aO (1,1))(mON:mg "ONE"=some (.ref aO))(G1:aQ P w K mg base CX0 5 g1 gd1 ["matrix","row","column","amount"] (xO K CK))(b1:aS K gd1 ["matrix","row","column","amount"] [])(k1:PySem.W.keepIn K (.ref g1)=true)(m1:mg "enter_stream"=some (.ref g1))(G2:aQ P w K mg base CX0 4 g2 gd2 ["line","column","amount"] (rL K))(b2:aS K gd2 ["line","column","amount"] [])(k2:PySem.W.keepIn K (.ref g2)=true)(m2:mg "raise_at"=some (.ref g2))(G3:aQ P w K mg base CX0 3 g3 gd3 ["one","other"] (kL K Mq.minus))(b3:aS K gd3 ["one","other"] [])(k3:PySem.W.keepIn K (.ref g3)=true)(m3:mg "minus"=some (.ref g3)) :
  aQ P w K mg base CX 6 f fd ["matrix","right","row","column"] (zP K CK):=by
 refine F.ok Km (fun vs H Q E h=>?_) (fun cdv A outer s H vs Q E hr h=>?_)
 ·obtain⟨D,R,x,zz,as,M,ys,rs,⟨k0,u,v,p⟩,w,n,c,rfl,mx,mb,eR,hFR,lr,nRD,nRa,rw,fp,pt,hc,hn,q⟩:=h;rfl
 obtain⟨D,R,x,zz,as,M,ys,rs,⟨k0,u,v,p⟩,w,n,c,rfl,mx,mb,eR,hFR,lr,nRD,nRa,rw,fp,pt,hc,hn,q⟩:=h;have r3:=hr.mono (show 3<=5 by omega);have r4:=hr.mono (show 4<=5 by omega);refine⟨_,(aC (bV (aI G1 hr rfl m1 k1 b1 .nil aM (aA (pv 0) (aA (pv 2) (aA (pv 3) (aA (dB (v:=.ref aO) rfl mON rfl) aD))))))
  (aC (bV (aI G2 r4 rfl m2 k2 b2 .nil aM (aA (aP bL (pv 0) (pv 3) (fun _ _=>rfl)) (aA (cG (pv 2) rfl) (aA (dB (v:=.ref aO) rfl mON rfl) aD)))))
  (aC (bV (aI G2 r4 rfl m2 k2 b2 .nil aM (aA (aP bL (pv 0) (pv 3) (fun _ _=>rfl)) (aA (cG (pv 2) rfl) (aA (aI G3 r3 rfl m3 k3 b3 .nil aM (aA (dB (v:=.ref aN) rfl mNO rfl) (aA (dB (v:=.ref aO) rfl mON rfl) aD))) aD)))))
  (aG (hV (cG (pv 2) rfl) (iV (pv 1) (pv 3) gA)))))),?_⟩
 have fp:Fq K H zz p:=fp;obtain⟨i0,i1,j0,j1⟩:cT (w:Int) u v:=pt;obtain⟨uN,rfl⟩:∃uN:Nat,u=(uN:Int):=⟨u.toNat,by omega⟩
 obtain⟨vN,rfl⟩:∃vN:Nat,v=(vN:Int):=⟨v.toNat,by omega⟩
 have pt':cT (w:Int) (uN:Int) (vN:Int):=⟨i0,i1,j0,j1⟩
 obtain⟨ln,bn,_⟩:=kG gG gP;have lam:=mx.la;refine⟨_,rfl,_,rfl,_,rfl,D,x,aO,_,as,M,(k0,(uN:Int),(vN:Int),p),w,n,1,c,(1,1),rfl,mx,mb,rw,pt',hc,fO _,gG,gP,by omega,fun H1 sx1 mx1=>?_⟩;have lst:=mx.lsts;have rw1:=sx1.rw lst rw;have fp1:Fq K H1 zz p:=sx1.seqT lst fp;have eR1:=sx1 _ _ eR nRa;have FR1:=SX.fqs lst sx1 hFR;obtain⟨mb1,_⟩:=Ai (d:=(k0,(uN:Int),(vN:Int),p)) mb pt' hc gG gP;generalize hM1:en M (k0,(uN:Int),(vN:Int),p) c (1,1)=M1 at mx1 mb1;obtain⟨ac,hac⟩:∃ac,as[c]?=some ac:=⟨_,List.getElem?_eq_getElem (by rw[lam,mb.h];exact hc)⟩
 have atc:atI (as.map V.ref) (c:Int)=some (.ref ac):=bQ (by rw[List.getElem?_map,hac];rfl);obtain⟨e1,m1,w1⟩:=mb1.row hc;obtain⟨_,l2,b2⟩:=mb1.at hc (j:=uN) (by omega);obtain⟨xs,hxs,hF⟩:=mx1.r c ac _ hac e1;obtain⟨dx1,hx1⟩:=id rw1;refine⟨_,rfl,_,rfl,D,_,_,_,rfl,rfl,SqL.of mx1.d,atc,_,rfl,x,CK _,_,_,_,rfl,hx1,T.cl _,T.nS _,dD _ _ _,ac,aO,uN,xs,_,(1,1),n+2*1+4,1,rfl,hxs,hF,by rw[w1];omega,l2.pos,b2,fO _,h11,gP,by omega,fun v1 H2 s2 f2=>?_⟩;obtain⟨mx3,sx3⟩:=mx1.set (j:=uN) hac e1 hxs hF s2 f2;have lst1:=mx1.lsts;generalize upd H2 ac (.lst (xs.set uN (.ref v1)))=H3 at mx3 sx3 ⊢;have mb3:=mb1.rz hc (j:=uN) (by omega) gG gP;have mx3:Mx K H3 D as (rz M1 c uN (1,1)):=mx3;have rw3:=sx3.rw lst1 rw1;have fp3:Fq K H3 zz p:=sx3.seqT lst1 fp1;have eR3:=sx3 _ _ eR1 nRa;have FR3:=SX.fqs lst1 sx3 FR1;generalize hM3:rz M1 c uN (1,1)=M3 at mx3 mb3;obtain⟨e3,m3,w3⟩:=mb3.row hc;obtain⟨_,l4,b4⟩:=mb3.at hc (j:=vN) (by omega);obtain⟨xs3,hxs3,hF3⟩:=mx3.r c ac _ hac e3;obtain⟨dx3,hx3⟩:=id rw3;refine⟨_,rfl,_,rfl,D,_,_,_,rfl,rfl,SqL.of mx3.d,atc,_,rfl,x,CK _,_,_,_,rfl,hx3,T.cl _,T.nG _,dR _ _ _,aN,aO,(0,1),(1,1),1,1,rfl,fN _,fO _,by decide,h11,⟨show (0:Nat) < 2 ^ 1 by decide,show (1:Nat) < 2 ^ 1 by decide⟩,gP,by omega,fun v4 H4 s4 e4=>?_⟩;refine⟨ac,v4,vN,xs3,_,_,n+2*1+4+1+1,1+2,rfl,s4 _ _ hxs3,hF3.same s4,by rw[w3];omega,l4.pos,b4,Fq.of e4,ln.pos,bn,by omega,fun v5 H5 s5 f5=>?_⟩;obtain⟨mx6,sx6⟩:=(mx3.same s4).set (j:=vN) hac e3 (s4 _ _ hxs3) (hF3.same s4) s5 f5;have sx36:=(bG.sx (as:=as) s4).trans sx6;have lst3:=mx3.lsts;generalize upd H5 ac (.lst (xs3.set vN (.ref v5)))=H6 at mx6 sx6 sx36 ⊢;have mx6:Mx K H6 D as (rz M3 c vN (Mq.minus (0,1) (1,1))):=mx6;have rw6:=sx36.rw lst3 rw3;have fp6:Fq K H6 zz p:=sx36.seqT lst3 fp3;have eR6:=sx36 _ _ eR3 nRa;have FR6:=SX.fqs lst3 sx36 FR3;obtain⟨dx6,hx6⟩:=id rw6;have ly:=FR6.length;refine⟨_,rfl,x,CK _,_,_,_,rfl,hx6,T.cl _,T.nZ _,iL _ _ _,_,rfl,_,rfl,R,ys,_,c,rfl,rfl,eR6,gR (by omega),?_⟩;have eM:hM M (k0,(uN:Int),(vN:Int),p) c=rz M3 c vN (Mq.minus (0,1) (1,1)):=by rw[<- hM3,<- hM1];rfl
 have mx7:=mx6.other (o:=.lst (ys.set c (.ref zz))) eR6 nRD nRa;rw[<- eM] at mx7;refine q _ _ ?_ mx7 aB ((Fqs.set fp6 c FR6).upd eR6);refine SX.write (SX.mono (sx1.trans (sx3.trans sx36)) fun x hx=>List.mem_cons_of_mem _ hx) (by simp)
end
end K72
set_option maxHeartbeats 2000000
namespace L2
open PySem PySem.Spec PyProof.Rows
def jT (kb:Nat->Nat):Nat->Nat
 |0=>0
 |i+1=>jT kb i+(4*kb i+20)
theorem vT (kb:Nat->Nat){i:Nat}:∀{j:Nat},i<=j->jT kb i<=jT kb j
 |0,h=>by rw[Nat.le_zero.mp h];exact Nat.le_refl _
 |j+1,h=>by
  rcases Nat.eq_or_lt_of_le h with z | z
  ·rw[z];exact Nat.le_refl _
  ·have:=vT kb (i:=i) (j:=j) (by omega);show _<=jT kb j+(4*kb j+20)
   omega
def Cr (CN:Addr)(K:PySem.W.Frag):Sp:=fun vs H Q _=>∃(n l:Addr) (m:Nat) (kb:Nat->Nat) (ds:List RD),vs=[.ref n]/\eJ CN K H n l (m:Int) ds/\(∀i d,ds[i]?=some d->Hg (m:Int) d/\Mq.Bd (kb i) d.2.2.2)/\1<=m/\m<=20/\ds.length<=40/\jT kb ds.length+30<=8900/\
 ∀t p r us ys X Y H',bG H H'->H' t=some (.tup [.ref p,.ref r])->H p=none->H r=none->H' p=some (.lst us)->H' r=some (.lst ys)->Fms K H H' us X->Fqs K H' ys Y->(∀x∈us,x≠.ref p/\x≠.ref r)->yQ m ds (jT kb ds.length+1) X Y->Q (.ref t) H'
end L2
set_option maxHeartbeats 4000000
namespace K72
open PySem L2
section
variable {P:Program} {w:World} {K:PySem.W.Frag} {mg:Str->Option Value} {base:Heap} {f g1 g2 g3 g4 g5 g6 g7 g8:Addr} {fd gd1 gd2 gd3 gd4 gd5 gd6 gd7 gd8:FuncData} {CX:CXT}
variable {CR:Addr} {CK:Kd->Addr} {fW fJ fT fS:Kd->Addr} {fdW fdJ fdT fdS:Kd->FuncData}
theorem jF {K:PySem.W.Frag}{H:Hp}{t:Addr}{p:Mq.Q2}(f:Fq K H t p):∀n,Fqs K H (List.replicate n (.ref t)) (List.replicate n p)
 |0=>.nil
 |n+1=>.cons f (jF f n)
theorem jG (x:V):∀n,(List.replicate n [x]).flatten=List.replicate n x
 |0=>rfl
 |n+1=>by rw[List.replicate_succ,List.flatten_cons,jG x n];rfl
theorem Hd (xs:List V)(k:Nat):iU xs (some (k:Int)) none=xs.drop k:=by
 unfold iU;have h1:HT.sIx xs.length xs.length none=xs.length:=rfl;have h2:HT.sIx xs.length 0 (some (k:Int))=min k xs.length:=by simp[HT.sIx];omega
 rw[h1,h2]
 by_cases h:k<=xs.length
 ·rw[Nat.min_eq_left h,List.take_of_length_le (by simp)]
 ·rw[Nat.min_eq_right (by omega),List.drop_of_length_le (Nat.le_refl _),List.drop_of_length_le (by omega)];simp
theorem Do (xs:List V):iU xs (some 1) none=xs.drop 1:=Hd xs 1
theorem Iq {X:Cx}{K:PySem.W.Frag}(h:X.K=K):SlR X (Xs K):=by subst h;exact gF
theorem tP (R:List Mq.Q2)(j:Nat):(R.drop 1).getD j (0,1)=R.getD (j+1) (0,1):=by
 rw[List.getD_eq_getElem?_getD,List.getElem?_drop,Nat.add_comm 1 j,List.getD_eq_getElem?_getD]
theorem Hy (M:List (List Mq.Q2))(i j:Nat):iT ((M.drop 1).map (List.drop 1)) i j=iT M (i+1) (j+1):=by
 have e:((M.drop 1).map (List.drop 1)).getD i []=(M.getD (i+1) []).drop 1:=by
  rw[List.getD_eq_getElem?_getD,List.getElem?_map,List.getElem?_drop,Nat.add_comm 1 i,List.getD_eq_getElem?_getD]
  cases M[i+1]?<;>rfl
 unfold iT;rw[e,tP]
theorem Nl {M:List (List Mq.Q2)}{w n:Nat}(b:MxB M w w n):MxB ((M.drop 1).map (List.drop 1)) (w - 1) (w - 1) n:=by
 refine⟨by rw[List.length_map,List.length_drop,b.h],fun ps hp=>?_,fun ps hp p hp'=>?_⟩
 ·obtain⟨qs,hq,rfl⟩:=List.mem_map.mp hp;rw[List.length_drop,b.w _ (List.mem_of_mem_drop hq)]
 ·obtain⟨qs,hq,rfl⟩:=List.mem_map.mp hp;exact b.l _ (List.mem_of_mem_drop hq) _ (List.mem_of_mem_drop hp')
theorem My {R:List Mq.Q2}{w n:Nat}(b:LnB R w n):LnB (R.drop 1) (w - 1) n:=⟨by rw[List.length_drop,b.w],fun p hp=>b.l p (List.mem_of_mem_drop hp)⟩
theorem Ol (w:Nat):MxB (List.replicate w (List.replicate w (0,1))) w w 1:=by
 refine⟨List.length_replicate,fun ps hp=>?_,fun ps hp p hp'=>?_⟩
 ·rw[List.eq_of_mem_replicate hp,List.length_replicate]
 ·rw[List.eq_of_mem_replicate hp] at hp';rw[List.eq_of_mem_replicate hp'];exact⟨⟨by decide,by decide⟩,⟨show (0:Nat) < 2 ^ 1 by decide,show (1:Nat) < 2 ^ 1 by decide⟩⟩
theorem pE (w j:Nat):(List.replicate w ((0,1):Mq.Q2)).getD j (0,1)=(0,1):=by
 rw[List.getD_eq_getElem?_getD]
 cases e:(List.replicate w ((0,1):Mq.Q2))[j]? with
 |none=>rfl
 |some p=>exact List.eq_of_mem_replicate (List.mem_of_getElem? e)
theorem Kx (w i j:Nat):iT (List.replicate w (List.replicate w (0,1))) i j=(0,1):=by
 have e:(List.replicate w (List.replicate w ((0,1):Mq.Q2))).getD i []=[]\/(List.replicate w (List.replicate w ((0,1):Mq.Q2))).getD i []=List.replicate w (0,1):=by
  rw[List.getD_eq_getElem?_getD]
  cases e:(List.replicate w (List.replicate w ((0,1):Mq.Q2)))[i]? with
  |none=>exact .inl rfl
  |some ps=>exact .inr (List.eq_of_mem_replicate (List.mem_of_getElem? e))
 unfold iT;rcases e with e | e
 ·rw[e];rfl
 ·rw[e];exact pE w j
theorem yI (w:Nat):LnB (List.replicate w (0,1)) w 1:=⟨List.length_replicate,fun p hp=>by
 rw[List.eq_of_mem_replicate hp];exact⟨⟨by decide,by decide⟩,⟨show (0:Nat) < 2 ^ 1 by decide,show (1:Nat) < 2 ^ 1 by decide⟩⟩⟩
theorem Ba {ds:List RD}(i:Nat):bS (ds.take i)<=bS ds:=by
 have h:bS ds=bS (ds.take i)+bS (ds.drop i):=by
  unfold bS cZ;rw[<- List.length_append,<- List.filter_append,List.take_append_drop]
 omega
theorem Mf:(["row"]:List Str).Nodup:=by decide +kernel
theorem uR:(["line","width"]:List Str).Nodup:=by decide +kernel
theorem Qy:(["line"]:List Str).Nodup:=by decide +kernel
theorem Fqs.drop1 {K:PySem.W.Frag}{H:Hp}:∀{xs:List V} {ps:List Mq.Q2},Fqs K H xs ps->Fqs K H (xs.drop 1) (ps.drop 1)
 |_,_,.nil=>.nil
 |_,_,.cons _ q=>q
abbrev Ia:Stmt:=top 60
theorem oT:aT ["net","rows","many","width","matrix","right","held","row"] ["net"] (aE Ia):=⟨rfl,rfl,rfl,by decide +kernel,rfl,by decide +kernel,by decide +kernel⟩
theorem Su {dV:Value}(F:bZ K "equations" "equations" Ia dV f fd){CN:Addr}(NTx:NT K mg CN)(T:RT K mg CR CK)(ml:mg "len"=none)(mr:mg "range"=none){aN:Addr}(fN:∀H,Fq K H aN (0,1))(mNO:mg "NOUGHT"=some (.ref aN))(GW:∀k,aQ P w K mg base CX0 1 (fW k) (fdW k) ["self"] (jV k))(bW:∀k,aS K (fdW k) ["self"] [])(mW:∀k,gH K (CK k) "word" (fW k)){gRo:Addr}{gdRo:FuncData}(GRo:aQ P w K mg base CX0 4 gRo gdRo ["self"] (pB CN K CK))(bRo:aS K gdRo ["self"] [])(mRo:gH K CN "rows" gRo){gMa:Addr}{gdMa:FuncData}(GMa:aQ P w K mg base CX0 1 gMa gdMa ["self"] (sV CN K))(bMa:aS K gdMa ["self"] [])(mMa:gH K CN "many" gMa)(G1:aQ P w K mg base CX0 6 g1 gd1 ["matrix","row"] (Ab K CK))(b1:aS K gd1 ["matrix","row"] [])(k1:PySem.W.keepIn K (.ref g1)=true)(m1:mg "enter_piece"=some (.ref g1))(G2:aQ P w K mg base CX0 5 g2 gd2 ["right","row"] (rY K CK))(b2:aS K gd2 ["right","row"] [])(k2:PySem.W.keepIn K (.ref g2)=true)(m2:mg "enter_push"=some (.ref g2))(G3:aQ P w K mg base CX0 6 g3 gd3 ["matrix","right","row","column"] (zP K CK))(b3:aS K gd3 ["matrix","right","row","column"] [])(k3:PySem.W.keepIn K (.ref g3)=true)(m3:mg "enter_hold"=some (.ref g3)) :
  aQ P w K mg base CX 7 f fd ["net"] (Cr CN K):=by
 refine F.ok oT (fun vs H Q E h=>?_) (fun cdv A outer s H vs Q E hr h=>?_)
 ·obtain⟨n,l,m,kb,ds,rfl,nt,hK,hm1,hm20,h40,hbig,q⟩:=h;rfl
 obtain⟨n,l,m,kb,ds,rfl,nt,hK,hm1,hm20,h40,hbig,q⟩:=h;have r1:=hr.mono (show 1<=6 by omega);have r4:=hr.mono (show 4<=6 by omega);have r5:=hr.mono (show 5<=6 by omega);refine⟨_,(aC (aW (i:=1) oT.nd rfl (Or.inl rfl) (fM (pv 0) NTx.cl mRo GRo r4 bRo .nil aM))
  (aC (aW (i:=2) oT.nd rfl (Or.inl rfl) (fM (pv 0) NTx.cl mMa GMa r1 bMa .nil aM))
  (aC (aW (i:=3) oT.nd rfl (Or.inr rfl) (aY dH (pv 2) (bO bH rfl ml PySem.boot_len (aA (fH (nl:=1) (fr:=[]) (Nc:=["row"]) (cl:=[]) rfl ⟨rfl,rfl,by decide +kernel,by decide +kernel,fun x c h=>(by cases h),dS rfl,rfl,fun i n h=>(by simp at h)⟩
    (cS (pv 1)) (fun C s3 H3 fp pins=>(aZ (i:=0) Mf rfl (Or.inl rfl))) (fun C s3 H3 fp pins=>(nQ (bK eE (fV (pv 0) T.cl mW GW r1 bW .nil aM) cF (bM _))))
    (fun C s3 H3 fp pins=>(pv 0))) aD))))
  (aC (kB (i:=4) (nl:=1) (fr:=[3]) (Nc:=["line","width"]) (cl:=[("width",s.heap.objs.size+1)]) oT.nd rfl rfl rfl ⟨rfl,rfl,by decide +kernel,by decide +kernel,fun x c h=>h,dS rfl,rfl,fun i n h=>match i,h with | 0,h=>by cases h;exact⟨3,rfl,rfl,rfl,rfl,.inl rfl⟩ | k+1,h=>by rw[show 1+(k+1)=k+2 by omega] at h;cases h⟩
    (fU rfl mr (aA (pv 3) aD)) (fun C s3 H3 fp pins=>(aZ (i:=0) uR rfl (Or.inl rfl))) (fun C s3 H3 fp pins=>dX)
    (fun C s3 H3 fp pins=>(aY pC (cV (aA (dB (v:=.ref aN) rfl mNO rfl) aD)) (pv 1))) rfl)
  (aC (aW (i:=5) oT.nd rfl (Or.inl rfl) (aY pC (cV (aA (dB (v:=.ref aN) rfl mNO rfl) aD)) (pv 3)))
  (aC (aW (i:=6) oT.nd rfl (Or.inl rfl) (pv 2))
  (aC (eU PassesOwn.never rfl (cS (pv 1)) (aZ (i:=7) oT.nd rfl (Or.inl rfl))
   (aG (cE (bK eE (fV (pv 7) T.cl mW GW r1 bW .nil aM) cF (bM _)) (aG (bV (aI G1 hr rfl m1 k1 b1 .nil aM (aA (pv 4) (aA (pv 7) aD))))) (aG (cE (bK eE (fV (pv 7) T.cl mW GW r1 bW .nil aM) cF (bM _)) (aG (bV (aI G2 r5 rfl m2 k2 b2 .nil aM (aA (pv 5) (aA (pv 7) aD))))) (aC (bV (aI G3 hr rfl m3 k3 b3 .nil aM (aA (pv 4) (aA (pv 5) (aA (pv 7) (aA (pv 6) aD))))))
  (aG (Kz (i:=6) oT.nd rfl (Or.inl rfl) aF Lx))))))))
  (aG (bA (cX (aA (fH (nl:=1) (fr:=[]) (Nc:=["line"]) (cl:=[]) rfl ⟨rfl,rfl,by decide +kernel,by decide +kernel,fun x c h=>(by cases h),dS rfl,rfl,fun i n h=>(by simp at h)⟩
    (cS (fC gF (pv 4) (fK aF) gV)) (fun C s3 H3 fp pins=>(aZ (i:=0) Qy rfl (Or.inl rfl))) (fun C s3 H3 fp pins=>dX)
    (fun C s3 H3 fp pins=>(fC (Iq (K:=K) rfl) (pv 0) (fK aF) gV))) (aA (fC gF (pv 5) (fK aF) gV) aD)))))))))))),?_⟩
 obtain⟨dx,hn⟩:=nt.ob;refine⟨_,rfl,n,dx,_,rfl,hn,dM _ _ (by decide +kernel) (by decide +kernel),n,l,_,ds,rfl,nt,by omega,fun a xs H1 s1 na ea Rb=>?_⟩;have lxs:=Rb.length;obtain⟨dx1,hn1⟩:=(nt.same s1).ob;refine⟨_,rfl,n,dx1,_,rfl,hn1,dM _ _ (by decide +kernel) (by decide +kernel),n,l,_,ds,rfl,nt.same s1,?_⟩;refine⟨_,rfl,_,rfl,a,rfl,⟨_,SqL.of ea⟩,fun C0 hC0=>?_⟩;have sC0:=aH hC0 (.lst []);refine dE (xs:=xs) (fun i zs H'=>bG H1 H'/\H' C0=some (.lst zs)/\zs.length=bS (ds.take i)) ⟨sC0,aB,rfl⟩ (fun i zs H' h=>h.2.1) (fun i zs H' _ h=>h.1.seq (SqL.of ea)) ?_ ?_
 ·rintro i zs x H2 hx ⟨s2,e2,lz⟩ C hC;have hi:i < ds.length:=by
   have:=(List.getElem?_eq_some_iff.mp hx).1;omega
  obtain⟨⟨k0,u,v,p⟩,hd⟩:∃d,ds[i]?=some d:=⟨_,List.getElem?_eq_getElem hi⟩
  obtain⟨y,z,ey,rw,fz⟩:=Rb.at hd;have ex:x=.ref y:=by rw[ey] at hx;exact(Option.some.inj hx).symm
  subst ex;obtain⟨dr,hy⟩:=id (rw.same s2);have et:ds.take (i+1)=ds.take i++[(k0,u,v,p)]:=by rw[List.take_add_one,hd];rfl
  have lh:=Ba (ds:=ds) i;have lh2:bS ds<=ds.length:=List.length_filter_le _ _;refine⟨dC.1,dC.2,?_⟩;refine⟨_,rfl,k0,y,dr,_,rfl,hy,(eP _ _ _ (by decide +kernel) (by decide +kernel) (by decide +kernel)),_,rfl,rfl,_,rfl,?_⟩
  by_cases hk:k0=.ho
  ·refine ifT (by show decide (V.str k0.wd=V.str Kd.ho.wd)=true;rw[dG];exact decide_eq_true hk) ⟨_,rfl,e2,bF (by omega),hC _ _ ⟨s2.change hC0,aB,?_⟩⟩;rw[et,gW,List.length_append,lz];show _+1=_+bX k0;unfold bX;rw[if_pos hk]
  ·refine ifF (by show decide (V.str k0.wd=V.str Kd.ho.wd)=false;rw[dG];exact decide_eq_false hk) (hC _ _ ⟨s2,e2,?_⟩);rw[et,gW,lz];show _=_+bX k0;unfold bX;rw[if_neg hk];rfl
 rintro zs0 H2 ⟨s2,e2,lz0⟩;rw[lxs,List.take_length] at lz0;refine⟨C0,zs0,rfl,.inl (SqL.of e2),_,_,rfl,rfl,?_⟩;obtain⟨W,hW⟩:∃W:Nat,W=m+bS ds:=⟨_,rfl⟩
 have lh2:bS ds<=ds.length:=List.length_filter_le _ _;have eW:(m:Int)+(zs0.length:Int)=(W:Int):=by rw[lz0,hW];omega
 show iW _ _ _ [some (.ref n),some (.ref a),some (.int (m:Int)),some (.int ((m:Int)+(zs0.length:Int))),none,none,none,none] H2;rw[eW];have hW60:W<=60:=by omega
 have hmW:m<=W:=by omega
 have s12:=s2;clear e2 sC0;refine⟨_,rfl,(W:Int),rfl,by omega,by omega,fun D hD=>?_⟩;rw[Int.toNat_natCast];have sD:=aH hD (.lst []);refine jQ (n:=W) (fun i zs H'=>bG H2 H'/\H' D=some (.lst zs)/\∃as:List Addr,zs=as.map V.ref/\as.length=i/\as.Nodup/\D∉as/\(∀b∈as,H2 b=none)/\∀b∈as,H' b=some (.lst (List.replicate W (.ref aN)))) ⟨sD,aB,[],rfl,rfl,List.nodup_nil,(by simp),(fun b hb=>by cases hb),(fun b hb=>by cases hb)⟩ (fun i zs H' h=>h.2.1) ?_ ?_
 ·rintro i zs H3 hi ⟨s3,e3,as,rfl,la,nd,nD,fr,al⟩ C hC;refine⟨dC.1,dC.2,fY ?_⟩;refine⟨by show 1<=sizeLine;decide,fun l1 hl1=>?_⟩;have s4:=aH hl1 (.lst [.ref aN]);have e4:upd H3 l1 (.lst [.ref aN]) l1=some (.lst [.ref aN]):=aB;generalize upd H3 l1 (.lst [.ref aN])=H4 at s4 e4 ⊢;refine⟨_,rfl,l1,(W:Int),[.ref aN],rfl,rfl,e4,by omega,by omega,?_,fun b hb=>?_⟩
  ·rw[Int.toNat_natCast,sizeLine_eq];simp only[List.length_cons,List.length_nil];omega
  rw[Int.toNat_natCast,jG];have s5:=aH hb (.lst (List.replicate W (.ref aN)));have e5:upd H4 b (.lst (List.replicate W (.ref aN))) b=some (.lst (List.replicate W (.ref aN))):=aB;generalize upd H4 b (.lst (List.replicate W (.ref aN)))=H5 at s5 e5 ⊢;have s35:=s4.trans s5;have e35:=s35 _ _ e3;have nbD:b≠D:=Ne.symm (aU (s4 _ _ e3) hb);have nba:b∉as:=fun z=>by rw[s4 _ _ (al b z)] at hb;cases hb
  refine⟨e35,bF (by rw[List.length_map];omega),hC _ _ ⟨(s3.trans s35).change hD,aB,as++[b],by rw[List.map_append];rfl,by rw[List.length_append,la];rfl,?_,?_,fun c hc=>?_,fun c hc=>?_⟩⟩
  ·rw[List.nodup_append];refine⟨nd,by simp,fun x hx y hy z=>?_⟩;have:y=b:=by simpa using hy
   exact nba (by rw[<- this,<- z];exact hx)
  ·intro z;rcases List.mem_append.mp z with z | z
   ·exact nD z
   ·have:D=b:=by simpa using z
    exact nbD this.symm
  ·rcases List.mem_append.mp hc with z | z
   ·exact fr c z
   ·have:c=b:=by simpa using z
    rw[this];exact(s3.trans s4).free hb
  ·rcases List.mem_append.mp hc with z | z
   ·rw[bC (fun y=>nD (by rw[<- y];exact z))];exact s35 _ _ (al c z)
   ·have:c=b:=by simpa using z
    rw[this,bC nbD];exact e5
 rintro zs3 H3 ⟨s3,e3,as,rfl,la,nd,nD,fr,al⟩;have mx3:Mx K H3 D as (List.replicate W (List.replicate W (0,1))):=⟨e3,nd,nD,by rw[la,List.length_replicate],fun i b ps h1 h2=>by
  rw[List.eq_of_mem_replicate (List.mem_of_getElem? h2)];exact⟨_,al b (List.mem_of_getElem? h1),jF (fN _) W⟩⟩
 have nDH:H2 D=none:=hD;refine⟨by show 1<=sizeLine;decide,fun l1 hl1=>?_⟩;have s4:=aH hl1 (.lst [.ref aN]);have e4:upd H3 l1 (.lst [.ref aN]) l1=some (.lst [.ref aN]):=aB;generalize upd H3 l1 (.lst [.ref aN])=H4 at s4 e4 ⊢;refine⟨_,rfl,l1,(W:Int),[.ref aN],rfl,rfl,e4,by omega,by omega,?_,fun R hR=>?_⟩
 ·rw[Int.toNat_natCast,sizeLine_eq];simp only[List.length_cons,List.length_nil];omega
 rw[Int.toNat_natCast,jG];have s5:=aH hR (.lst (List.replicate W (.ref aN)));have e5:upd H4 R (.lst (List.replicate W (.ref aN))) R=some (.lst (List.replicate W (.ref aN))):=aB;generalize upd H4 R (.lst (List.replicate W (.ref aN)))=H5 at s5 e5 ⊢;have s25:=s3.trans (s4.trans s5);have nRH:H2 R=none:=(s3.trans s4).free hR;have nRD:R≠D:=Ne.symm (aU ((s4) _ _ mx3.d) hR);have nRa:R∉as:=fun z=>by rw[s4 _ _ (al R z)] at hR;cases hR
 have mx5:=(mx3.same s4).same s5;have allN:∀b∈R :: as,H2 b=none:=fun b hb=>by
  rcases List.mem_cons.mp hb with z | z
  ·rw[z];exact nRH
  ·exact fr b z
 have F5:Fqs K H5 (List.replicate W (.ref aN)) (List.replicate W (0,1)):=jF (fN _) W;refine⟨_,rfl,?_⟩;have eaH:=s12 _ _ ea;have Rb2:=Rb.same s12;refine⟨_,rfl,a,rfl,⟨_,SqL.of (s25 _ _ eaH)⟩,?_⟩;refine gB (xs:=xs) (fun i σ H'=>bG H2 H'/\∃(M:List (List Mq.Q2)) (ys:List V) (rs:List Mq.Q2) (z7:Option V),σ=[some (.ref n),some (.ref a),some (.int (m:Int)),some (.int (W:Int)),some (.ref D),some (.ref R),some (.int ((m+bS (ds.take i):Nat):Int)),z7]/\Mx K H' D as M/\MxB M W W (jT kb i+1)/\H' R=some (.lst ys)/\Fqs K H' ys rs/\LnB rs W (jT kb i+1)/\(∀x y,Mq.val (iT M x y)=eqM m (ds.take i) x y)/\∀x,Mq.val (rs.getD x (0,1))=eqR m (ds.take i) x) ⟨s25,_,_,_,none,rfl,mx5,Ol W,e5,F5,yI W,fun x y=>by rw[Kx,Mq.kM];rfl,fun x=>by rw[pE,Mq.kM];rfl⟩ (fun i σ H' _ h=>h.1.seq (SqL.of eaH)) ?_ ?_
 ·rintro i x σ H6 hx ⟨s6,M,ys,rs,z7,rfl,mx,mb,eR,FR,lb,vM,vR⟩;have hi:i < ds.length:=by
   have:=(List.getElem?_eq_some_iff.mp hx).1;omega
  obtain⟨⟨k0,u,v,p⟩,hd⟩:∃d,ds[i]?=some d:=⟨_,List.getElem?_eq_getElem hi⟩
  obtain⟨y,z,ey,rw0,fz0⟩:=Rb2.at hd;have ex:x=.ref y:=by rw[ey] at hx;exact(Option.some.inj hx).symm
  subst ex;obtain⟨rd,bp⟩:=hK i _ hd;have lp:Mq.Low p:=rd.2.2.2.2.1;have bp:Mq.Bd (kb i) p:=bp;have ptm:cT (m:Int) u v:=⟨rd.1,rd.2.1,rd.2.2.1,rd.2.2.2.1⟩
  have ptW:cT (W:Int) u v:=⟨rd.1,by have:=rd.2.1;show u < (W:Int);have h2:u < (m:Int):=this;omega,rd.2.2.1,by have h2:v < (m:Int):=rd.2.2.2.1;show v < (W:Int);omega⟩
  have rw6:=rw0.same s6;have fz6:Fq K H6 z p:=s6.fq fz0;obtain⟨dr,hy⟩:=id rw6;have et:ds.take (i+1)=ds.take i++[(k0,u,v,p)]:=by rw[List.take_add_one,hd];rfl
  have hh:=Ba (ds:=ds) (i+1);rw[et,gW] at hh;have hh:bS (ds.take i)+bX k0<=bS ds:=hh;have eN:jT kb (i+1)+1=(jT kb i+1)+(4*kb i+20):=by show jT kb i+(4*kb i+20)+1=_;omega
  have leN:jT kb i+(4*kb i+20)<=jT kb ds.length:=vT kb (i:=i+1) hi;have eM:∀x y,eqM m (ds.take (i+1)) x y=eqM m (ds.take i) x y+cM (k0,u,v,p) (m+bS (ds.take i)) x y:=fun x y=>by rw[et,zV]
  have eRr:∀x,eqR m (ds.take (i+1)) x=eqR m (ds.take i) x+cR (k0,u,v,p) (m+bS (ds.take i)) x:=fun x=>by rw[et,zC]
  have eH:bS (ds.take (i+1))=bS (ds.take i)+bX k0:=by rw[et,gW]
  rw[eN,eH];have lst:=mx.lsts
  cases k0 with
  |pc=>
   have p0:0 < p.1:=rd.2.2.2.2.2.1 rfl;refine⟨_,rfl,Kd.pc,y,dr,_,rfl,hy,(eP _ _ _ (by decide +kernel) (by decide +kernel) (by decide +kernel)),_,rfl,rfl,_,rfl,ifT (by show decide (V.str Kd.pc.wd=V.str Kd.pc.wd)=true;rw[dG];rfl) ?_⟩;refine⟨_,rfl,_,rfl,D,y,z,as,M,(.pc,u,v,p),W,jT kb i+1,kb i,rfl,mx,mb,rw6,fz6,ptW,lp,p0,bp,by omega,fun H7 sx7 mx7=>?_⟩;obtain⟨mb7,v7⟩:=Wa (d:=(.pc,u,v,p)) (h:=m+bS (ds.take i)) mb ptm hmW rfl lp p0 bp;have eR7:=sx7 _ _ eR nRa;refine⟨SX.same s6 sx7 fr,_,ys,rs,_,rfl,mx7,mb7.mono (by omega),eR7,SX.fqs lst sx7 FR,lb.mono (by omega),fun x y=>by rw[v7,vM,eM],fun x=>?_⟩;rw[vR,eRr];show _=_+(0:Rat)
   rw[Rat.add_zero]
  |pu=>
   refine⟨_,rfl,Kd.pu,y,dr,_,rfl,hy,(eP _ _ _ (by decide +kernel) (by decide +kernel) (by decide +kernel)),_,rfl,rfl,_,rfl,ifF (by show decide (V.str Kd.pu.wd=V.str Kd.pc.wd)=false;rw[dG];rfl) ?_⟩;refine⟨_,rfl,Kd.pu,y,dr,_,rfl,hy,(eP _ _ _ (by decide +kernel) (by decide +kernel) (by decide +kernel)),_,rfl,rfl,_,rfl,ifT (by show decide (V.str Kd.pu.wd=V.str Kd.pu.wd)=true;rw[dG];rfl) ?_⟩;refine⟨_,rfl,_,rfl,R,y,z,ys,rs,(.pu,u,v,p),W,jT kb i+1,kb i,rfl,eR,FR,lb,rw6,fz6,ptW,lp,bp,by omega,fun ys' H7 sx7 eR7 F7=>?_⟩;obtain⟨lb7,v7⟩:=Sm (d:=(.pu,u,v,p)) (h:=m+bS (ds.take i)) lb ptm hmW rfl lp bp;have mx7:Mx K H7 D as M:=⟨sx7 _ _ mx.d (by simp;exact Ne.symm nRD),mx.n,mx.nd,mx.la,fun i' b ps h1 h2=>by
    obtain⟨ws,h,f⟩:=mx.r i' b ps h1 h2;refine⟨ws,sx7 _ _ h (by simp;exact fun z=>nRa (by rw[<- z];exact List.mem_of_getElem? h1)),SX.fqs (as:=[R]) (fun c hc=>?_) sx7 f⟩;have:c=R:=by simpa using hc
    exact⟨ys,by rw[this];exact eR⟩⟩
   refine⟨SX.same s6 sx7 (fun c hc=>by have:c=R:=(by simpa using hc);rw[this];exact nRH),M,ys',_,_,rfl,mx7,mb.mono (by omega),eR7,F7,lb7.mono (by omega),fun x y=>?_,fun x=>by rw[v7,vR,eRr]⟩;rw[vM,eM];show _=_+(0:Rat)
   rw[Rat.add_zero]
  |ho=>
   have hc1:bX Kd.ho=1:=rfl;rw[hc1] at hh;have hcW:m+bS (ds.take i) < W:=by omega
   refine⟨_,rfl,Kd.ho,y,dr,_,rfl,hy,(eP _ _ _ (by decide +kernel) (by decide +kernel) (by decide +kernel)),_,rfl,rfl,_,rfl,ifF (by show decide (V.str Kd.ho.wd=V.str Kd.pc.wd)=false;rw[dG];rfl) ?_⟩;refine⟨_,rfl,Kd.ho,y,dr,_,rfl,hy,(eP _ _ _ (by decide +kernel) (by decide +kernel) (by decide +kernel)),_,rfl,rfl,_,rfl,ifF (by show decide (V.str Kd.ho.wd=V.str Kd.pu.wd)=false;rw[dG];rfl) ?_⟩;refine⟨_,rfl,_,rfl,_,rfl,_,rfl,D,R,y,z,as,M,ys,rs,(.ho,u,v,p),W,jT kb i+1,m+bS (ds.take i),rfl,mx,mb,eR,FR,lb.w,nRD,nRa,rw6,fz6,ptW,hcW,by omega,fun ys' H7 sx7 mx7 eR7 F7=>?_⟩;obtain⟨mb7,v7⟩:=Vx (d:=(.ho,u,v,p)) mb ptm hmW hcW rfl;have z0:Mq.val (rs.getD (m+bS (ds.take i)) (0,1))=0:=by
    rw[vR];exact wJ (m:=m) _ _ _ (fun d hd'=>by
     obtain⟨i1,hi1⟩:=List.getElem?_of_mem (List.mem_of_mem_take hd');have:=(hK i1 d hi1).1;exact⟨this.1,this.2.1,this.2.2.1,this.2.2.2.1⟩) (Nat.le_refl _) (Nat.le_refl _)
   obtain⟨lb7,w7⟩:=Wv (m:=m) (d:=(.ho,u,v,p)) lb hcW rfl lp bp z0;refine⟨_,rfl,_,_,rfl,rfl,?_⟩;refine⟨SX.same s6 sx7 allN,_,ys',_,some (.ref y),?_,mx7,mb7.mono (by omega),eR7,F7,lb7.mono (by omega),fun x y=>by rw[v7,vM,eM],fun x=>by rw[w7,vR,eRr]⟩;have e1:((m+bS (ds.take i):Nat):Int)+1=((m+(bS (ds.take i)+bX Kd.ho):Nat):Int):=by rw[hc1];omega
   rw[<- e1];rfl
 rintro σ H6 ⟨s6,M,ys,rs,z7,rfl,mx,mb,eR,FR,lb,vM,vR⟩;rw[lxs] at mb lb vM vR;rw[List.take_length] at vM vR;refine⟨_,rfl,1,rfl,D,_,rfl,SqL.of mx.d,fun C hC=>?_⟩;rw[Do];have s7:=aH hC (.lst ((as.map V.ref).drop 1));have e7:upd H6 C (.lst ((as.map V.ref).drop 1)) C=some (.lst ((as.map V.ref).drop 1)):=aB;generalize upd H6 C (.lst ((as.map V.ref).drop 1))=H7 at s7 e7 ⊢;have mx7:=mx.same s7;refine⟨C,rfl,⟨_,SqL.of e7⟩,fun P hP=>?_⟩;have sP:=aH hP (.lst []);refine dE (xs:=(as.map V.ref).drop 1) (fun i zs H'=>bG H7 H'/\H' P=some (.lst zs)/\Fms K H7 H' zs (((M.drop 1).map (List.drop 1)).take i)/\∀x∈zs,x≠.ref P) ⟨sP,aB,⟨rfl,fun i x ps h=>by simp at h⟩,fun x hx=>by cases hx⟩ (fun i zs H' h=>h.2.1) (fun i zs H' _ h=>h.1.seq (SqL.of e7)) ?_ ?_
 ·rintro i zs x H8 hx ⟨s8,e8,fm,nP⟩ C' hC';rw[List.getElem?_drop,List.getElem?_map] at hx;obtain⟨b,hb,rfl⟩:=Option.map_eq_some_iff.mp hx;have bl':=(List.getElem?_eq_some_iff.mp hb).1;have hM1:1+i < M.length:=by rw[<- mx.la];exact bl'
  obtain⟨ws,hws,fws⟩:=(mx7.same s8).r (1+i) b M[1+i] hb (List.getElem?_eq_getElem hM1);have lz:=fm.l;rw[List.length_take,List.length_map,List.length_drop] at lz;have hM60:M.length<=60:=by rw[mb.h];exact hW60
  refine⟨dC.1,dC.2,fY ?_⟩;refine⟨_,rfl,1,rfl,b,_,rfl,SqL.of hws,fun c hc=>?_⟩;rw[Do];have s9:=aH hc (.lst (ws.drop 1));have e9:upd H8 c (.lst (ws.drop 1)) c=some (.lst (ws.drop 1)):=aB;generalize upd H8 c (.lst (ws.drop 1))=H9 at s9 e9 ⊢;have e89:=s9 _ _ e8;have ncP:c≠P:=Ne.symm (aU e8 hc);refine⟨e89,bF (by omega),hC' _ _ ⟨(s8.trans s9).change hP,aB,⟨?_,fun j y ps h1 h2=>?_⟩,fun y hy=>?_⟩⟩
  ·rw[List.length_append,List.length_take,List.length_map,List.length_drop];simp only[List.length_cons,List.length_nil];omega
  ·have ee:((M.drop 1).map (List.drop 1))[i]?=some (M[1+i].drop 1):=by rw[List.getElem?_map,List.getElem?_drop,List.getElem?_eq_getElem hM1];rfl
   rw[List.take_add_one,ee] at h2
   by_cases hj:j < zs.length
   ·rw[List.getElem?_append_left hj] at h1;rw[List.getElem?_append_left (by rw[<- fm.l];exact hj)] at h2;obtain⟨a',xs',q1,q2,q3,q4⟩:=fm.r j y ps h1 h2;have na:a'≠P:=fun z=>nP y (List.mem_of_getElem? h1) (by rw[q1,z]);exact⟨a',xs',q1,q2,by rw[bC na];exact s9 _ _ q3,(q4.same s9).upd e89⟩
   ·rw[List.getElem?_append_right (by omega)] at h1;rw[List.getElem?_append_right (by rw[<- fm.l];omega),<- fm.l] at h2;have j0:j - zs.length=0:=by
     have:=(List.getElem?_eq_some_iff.mp h1).1;simp at this;omega
    rw[j0] at h1 h2;have h1:V.ref c=y:=by simpa using h1
    have h2:M[1+i].drop 1=ps:=by simpa using h2
    subst h1;rw[<- h2];exact⟨c,_,rfl,s8.free hc,by rw[bC ncP];exact e9,((Fqs.drop1 (fws.same s9))).upd e89⟩
  ·rcases List.mem_append.mp hy with z | z
   ·exact nP y z
   ·have:y=.ref c:=by simpa using z
    rw[this];exact fun z=>ncP (by injection z)
 rintro us H8 ⟨s8,e8,fm,nP⟩;rw[show ((as.map V.ref).drop 1).length=((M.drop 1).map (List.drop 1)).length by rw[List.length_drop,List.length_map,List.length_map,List.length_drop,mx.la],List.take_length] at fm;have s78:=s7.trans s8;have eR8:=s78 _ _ eR;refine⟨_,rfl,1,rfl,R,_,rfl,SqL.of eR8,fun r hr'=>?_⟩;rw[Do];have s9:=aH hr' (.lst (ys.drop 1));have e9:upd H8 r (.lst (ys.drop 1)) r=some (.lst (ys.drop 1)):=aB;generalize upd H8 r (.lst (ys.drop 1))=H9 at s9 e9 ⊢;refine⟨by show 2<=sizeLine;decide,fun t ht=>?_⟩;have sT:=aH ht (.tup [.ref P,.ref r]);have s9T:=s9.trans sT;have s0:bG H (upd H9 t (.tup [.ref P,.ref r])):=s1.trans (s12.trans (s6.trans (s78.trans s9T)));have s07:bG H H7:=s1.trans (s12.trans (s6.trans s7));have fl:∀c,H7 c=none->H c=none:=fun c h=>s07.free h;refine q t P r us (ys.drop 1) ((M.drop 1).map (List.drop 1)) (rs.drop 1) _ s0 aB (fl P hP) ((s07.trans s8).free hr') (s9T _ _ e8) (sT _ _ e9) ⟨fm.l,fun i x ps h1 h2=>?_⟩ (Fqs.drop1 (FR.same (s78.trans s9T))) (fun x hx=>⟨nP x hx,?_⟩) ⟨?_,?_,?_,?_⟩
 ·obtain⟨a',xs',q1,q2,q3,q4⟩:=fm.r i x ps h1 h2;exact⟨a',xs',q1,fl a' q2,s9T _ _ q3,q4.same s9T⟩
 ·intro z;obtain⟨i,hi⟩:=List.getElem?_of_mem hx;have il:i < ((M.drop 1).map (List.drop 1)).length:=by rw[<- fm.l];exact(List.getElem?_eq_some_iff.mp hi).1
  obtain⟨a',xs',q1,q2,q3,q4⟩:=fm.r i x _ hi (List.getElem?_eq_getElem il);rw[q1] at z;have:a'=r:=by injection z
  rw[<- this,q3] at hr'
  cases hr'
 ·have:=Nl mb
  rwa [show W - 1=m - 1+bS ds by omega] at this
 ·have:=My lb
  rwa [show W - 1=m - 1+bS ds by omega] at this
 ·intro i j;rw[Hy];exact vM _ _
 ·intro i;rw[tP];exact vR _
end
end K72
set_option maxHeartbeats 2000000
namespace L2
open PySem PySem.Spec PyProof.Rows
def Op (ta:TA):TE:=fun σ H Q=>ta σ H fun vs H1=>∃n:Nat,vs=[.int (n:Int)]/\n<=1000/\∀l,H1 l=none->Q (.ref l) (upd H1 l (.lst ((List.range n).map fun (i:Nat)=>V.int (i:Int))))
theorem tS:∀{n:Nat} {acc:List Value},acc.length=n->(∀(j:Nat) (v:Value),acc[j]?=some v->∃t,v=Value.int (j:Int) t)->bY ((List.range n).map fun (i:Nat)=>V.int (i:Int)) acc
 |0,[],_,_=>.nil
 |n+1,acc,hl,h=>by
  have e:acc=acc.take n++[acc[n]'(by omega)]:=by
   have h1:acc.take (n+1)=acc:=List.take_of_length_le (by omega);have h2:acc.take (n+1)=acc.take n++[acc[n]'(by omega)]:=by rw[List.take_add_one,List.getElem?_eq_getElem (by omega)];rfl
   rw[h1] at h2;exact h2
  rw[List.range_succ,List.map_append,e];refine bY.append (tS (by rw[List.length_take];omega) fun j v hj=>?_) (.cons ?_ .nil)
  ·have hjn:j < n:=by
    have:=(List.getElem?_eq_some_iff.mp hj).1;rw[List.length_take] at this;omega
   rw[List.getElem?_take,if_pos hjn] at hj;exact h j v hj
  ·obtain⟨t,ht⟩:=h n _ (List.getElem?_eq_getElem (by omega));rw[ht];exact⟨t,rfl⟩
section
variable {X:Cx} {a:Expr} {p p2 pos pos2:Pos} {ta:TA}
theorem oS (hc:X.calm=true)(hgl:Gl X "list")(hml:X.mg "list"=none)(hg:Gl X "range")(hm:X.mg "range"=none)(ha:PA X [a] ta)(hs:starEach [a] X.env=[(false,eval a X.env)]:=by rfl)(he:starEach [.Call (.Name "range" p2) [a] [] pos2] X.env=(false,eval (.Call (.Name "range" p2) [a] [] pos2) X.env) :: starEach [] X.env:=by rfl)(hpl:(backTo pos (starEach [] X.env)).any (·.1)=false:=by rfl) :
  PE X (.Call (.Name "list" p) [.Call (.Name "range" p2) [a] [] pos2] [] pos) (Op ta):=by
 intro pins s σ H Q I h;refine wpAny_Call_Name_kw (jY I hgl hml PyProof.Rows.boot_list ?_);refine PyProof.Rows.callWith_type1 ?_ he hpl;rw[he];show wpAny _ _ (spliced ((false,eval (.Call (.Name "range" p2) [a] [] pos2) X.env) :: backTo pos (starEach [] X.env))) _ _ s;refine Calls.spliced_cons ?_;refine wpAny_Call_Name_kw (jY I hg hm boot_range (PyProof.Rows.callWith_type1 (thn (ha pos2 pins s σ H _ I h) fun us s1 ⟨vs,H1,I1,r1,q1⟩=>?_) hs rfl));obtain⟨n,e,hn,q⟩:=q1;subst e
 cases r1 with
 |cons r rr=>
  cases rr
  obtain⟨t,rfl⟩:=r;refine call_range_1 ?_;refine Calls.spliced_nil ?_;have I2:∀(ob:Obj) (tk:Nat),Inv X pins σ H1 { s1 with heap:=s1.heap.push ob,toks:=tk }:=fun ob tk=>I1.kept (t':=tk) (fun b ob e=>Heap.get?_push_of_some _ e);have hn24:(n:Nat)<=2 ^ 24:=by omega
  refine call_list_range (n:=n) (I1.ok.hd hc) (IsRange.new ..) (small_one (by omega) (by omega) (by omega) (by omega)) (by rw[rangeSize_one];split<;>omega) hn24 (fun h' tk acc' c' kp e items=>?_);have rl:bY ((List.range n).map fun (i:Nat)=>V.int (i:Int)) acc'.toList:=tS (by rw[Array.length_toList];exact items.1) (fun j v hj=>by
   obtain⟨t,ht⟩:=items.2 j v (by rw[<- Array.getElem?_toList];exact hj);exact⟨t,by rw[ht];congr 1;omega⟩)
  have hz:((List.range n).map fun (i:Nat)=>V.int (i:Int)).length<=sizeLine:=by rw[List.length_map,List.length_range,sizeLine_eq];omega
  exact⟨.ref _,_,(I2 _ _).laid (t':=tk) kp (Nat.le_refl _) (show dQ X.prog X.w _ h' _ (.lst ((List.range n).map fun (i:Nat)=>V.int (i:Int))) from ⟨hz,acc'.toList,c',rl,e⟩),rfl,q _ ((I2 _ _).hok.fresh (Nat.le_refl _))⟩
end
end L2
set_option maxHeartbeats 1000000
namespace L2
open PySem PySem.Spec PyProof.Rows
def jn (ms:List Int)(s g:Nat):List Int:=ms.map fun x=>if x=ms.getD g 0 then ms.getD s 0 else x
def Ac (m:Nat):List Int:=(List.range m).map fun (i:Nat)=>(i:Int)
def gY (ms:List Int)(d:RD):List Int:=if d.1=.pu then ms else jn ms d.2.1.toNat d.2.2.1.toNat
def mks (m:Nat)(ds:List RD):List Int:=ds.foldl gY (Ac m)
def mk (m:Nat)(ds:List RD)(p:Nat):Int:=(mks m ds).getD p 0
theorem lG (m:Nat)(ds:List RD)(d:RD):mks m (ds++[d])=gY (mks m ds) d:=by unfold mks;rw[List.foldl_append];rfl
theorem Ib (ms:List Int)(d:RD):(gY ms d).length=ms.length:=by
 unfold gY;split
 ·rfl
 ·unfold jn;rw[List.length_map]
theorem wK:∀(ds:List RD) (ms:List Int),(ds.foldl gY ms).length=ms.length
 | [],_=>rfl
 |d :: ds,ms=>by show (ds.foldl gY (gY ms d)).length=_;rw[wK ds,Ib]
theorem jR (m:Nat)(ds:List RD):(mks m ds).length=m:=by unfold mks Ac;rw[wK,List.length_map,List.length_range]
theorem Lh {ms:List Int}{f:Int->Int}{p:Nat}(h:p < ms.length):(ms.map f).getD p 0=f (ms.getD p 0):=by
 rw[List.getD_eq_getElem?_getD,List.getElem?_map,List.getD_eq_getElem?_getD,List.getElem?_eq_getElem h];rfl
theorem Bj {m p:Nat}(h:p < m):mk m [] p=(p:Int):=by
 show (Ac m).getD p 0=_;unfold Ac;rw[List.getD_eq_getElem?_getD,List.getElem?_map,List.getElem?_range h];rfl
theorem oX {m:Nat}{ds:List RD}{d:RD}(hk:d.1=.pu)(p:Nat):mk m (ds++[d]) p=mk m ds p:=by
 unfold mk;rw[lG];unfold gY;rw[if_pos hk]
theorem nC {m:Nat}{ds:List RD}{d:RD}(hk:d.1≠.pu){p:Nat}(hp:p < m):mk m (ds++[d]) p=if mk m ds p=mk m ds d.2.2.1.toNat then mk m ds d.2.1.toNat else mk m ds p:=by
 unfold mk;rw[lG];unfold gY;rw[if_neg hk];unfold jn;rw[Lh (by rw[jR];exact hp)]
inductive Cn (ds:List RD):Nat->Nat->Prop where
 |refl (p:Nat):Cn ds p p
 |row {d:RD} (h:d∈ds) (hk:d.1≠.pu):Cn ds d.2.1.toNat d.2.2.1.toNat
 |symm {p q:Nat} (h:Cn ds p q):Cn ds q p
 |trans {p q r:Nat} (h:Cn ds p q) (g:Cn ds q r):Cn ds p r
theorem Cn.mono {ds es:List RD}(h:∀d∈ds,d∈es){p q:Nat}(c:Cn ds p q):Cn es p q:=by
 induction c with
 |refl p=>exact .refl p
 |row hd hk=>exact .row (h _ hd) hk
 |symm _ ih=>exact .symm ih
 |trans _ _ a b=>exact .trans a b
theorem zR {m:Nat}:∀(n:Nat) (ds:List RD),ds.length=n->(∀d∈ds,cT (m:Int) d.2.1 d.2.2.1)->∀p q,p < m->q < m->mk m ds p=mk m ds q->Cn ds p q
 |0,ds,hl,_,p,q,hp,hq,e=>by
  have:ds=[]:=List.length_eq_zero_iff.mp hl;subst this;rw[Bj hp,Bj hq] at e;have:p=q:=by omega
  subst this;exact .refl p
 |n+1,ds,hl,pt,p,q,hp,hq,e=>by
  obtain⟨es,d,rfl⟩:∃es d,ds=es++[d]:=⟨ds.dropLast,ds.getLast (by intro z;rw[z] at hl;cases hl),(List.dropLast_concat_getLast _).symm⟩
  have le:es.length=n:=by rw[List.length_append] at hl;simpa using hl
  have ih:=zR n es le (fun x hx=>pt x (List.mem_append_left _ hx));have up:∀{a b:Nat},Cn es a b->Cn (es++[d]) a b:=fun c=>c.mono fun x hx=>List.mem_append_left _ hx
  by_cases hk:d.1=.pu
  ·rw[oX hk,oX hk] at e;exact up (ih p q hp hq e)
  ·obtain⟨i0,i1,j0,j1⟩:=pt d (by simp);have hs:d.2.1.toNat < m:=by omega
   have hg:d.2.2.1.toNat < m:=by omega
   have rw':Cn (es++[d]) d.2.1.toNat d.2.2.1.toNat:=.row (by simp) hk;rw[nC hk hp,nC hk hq] at e
   by_cases a:mk m es p=mk m es d.2.2.1.toNat
   ·have cp:=up (ih _ _ hp hg a);rw[if_pos a] at e
    by_cases b:mk m es q=mk m es d.2.2.1.toNat
    ·exact cp.trans (up (ih _ _ hq hg b)).symm
    ·rw[if_neg b] at e;exact cp.trans (rw'.symm.trans (up (ih _ _ hs hq e)))
   ·rw[if_neg a] at e
    by_cases b:mk m es q=mk m es d.2.2.1.toNat
    ·rw[if_pos b] at e;exact(up (ih _ _ hp hs e)).trans (rw'.trans (up (ih _ _ hq hg b)).symm)
    ·rw[if_neg b] at e;exact up (ih _ _ hp hq e)
theorem oW {m:Nat}:∀(n:Nat) (ds:List RD),ds.length=n->(∀d∈ds,cT (m:Int) d.2.1 d.2.2.1)->∀d∈ds,d.1≠.pu->mk m ds d.2.1.toNat=mk m ds d.2.2.1.toNat
 |0,ds,hl,_,d,hd,_=>by
  have:ds=[]:=List.length_eq_zero_iff.mp hl;rw[this] at hd;cases hd
 |n+1,ds,hl,pt,x,hx,hkx=>by
  obtain⟨es,d,rfl⟩:∃es d,ds=es++[d]:=⟨ds.dropLast,ds.getLast (by intro z;rw[z] at hl;cases hl),(List.dropLast_concat_getLast _).symm⟩
  have le:es.length=n:=by rw[List.length_append] at hl;simpa using hl
  obtain⟨i0,i1,j0,j1⟩:=pt x hx;have hs:x.2.1.toNat < m:=by omega
  have hg:x.2.2.1.toNat < m:=by omega
  by_cases hk:d.1=.pu
  ·rw[oX hk,oX hk];rcases List.mem_append.mp hx with z | z
   ·exact oW n es le (fun y hy=>pt y (List.mem_append_left _ hy)) x z hkx
   ·have:x=d:=by simpa using z
    rw[this] at hkx;exact absurd hk hkx
  ·rw[nC hk hs,nC hk hg];rcases List.mem_append.mp hx with z | z
   ·have ih:=oW n es le (fun y hy=>pt y (List.mem_append_left _ hy)) x z hkx;rw[ih]
   ·have:x=d:=by simpa using z
    subst this;rw[if_pos rfl]
    by_cases c:mk m es x.2.1.toNat=mk m es x.2.2.1.toNat
    ·rw[if_pos c]
    ·rw[if_neg c]
theorem Cn.ind {ds:List RD}{R:Nat->Nat->Prop}(r:∀p,R p p)(s:∀p q,R p q->R q p)(t:∀p q x,R p q->R q x->R p x)(h:∀d∈ds,d.1≠.pu->R d.2.1.toNat d.2.2.1.toNat){p q:Nat}(c:Cn ds p q):R p q:=by
 induction c with
 |refl p=>exact r p
 |row hd hk=>exact h _ hd hk
 |symm _ ih=>exact s _ _ ih
 |trans _ _ a b=>exact t _ _ _ a b
theorem Kw {m:Nat}{ds:List RD}(pt:∀d∈ds,cT (m:Int) d.2.1 d.2.2.1){p q:Nat}(hp:p < m)(hq:q < m):mk m ds p=mk m ds q↔Cn ds p q:=
 ⟨zR _ ds rfl pt p q hp hq,fun c=>Cn.ind (R:=fun a b=>mk m ds a=mk m ds b) (fun _=>rfl) (fun _ _ e=>e.symm) (fun _ _ _ a b=>a.trans b) (fun d hd hk=>oW _ ds rfl pt d hd hk) c⟩
theorem Fx:∀{m:Nat} {S:List Nat},S.Nodup->(∀p∈S,p < m)->S.length<=m
 |0,[],_,_=>Nat.le_refl _
 |0,p :: S,_,h=>absurd (h p (List.mem_cons_self ..)) (Nat.not_lt_zero _)
 |m+1,S,nd,h=>by
  have e:=Fx (m:=m) (S:=S.erase m) (nd.erase m) (fun p hp=>by
   have h1:=h p (List.mem_of_mem_erase hp);have h2:p≠m:=fun z=>by rw[z] at hp;exact(List.Nodup.not_mem_erase nd) hp
   omega)
  have:=List.length_erase_le (a:=m) (l:=S);have h3:S.length<=(S.erase m).length+1:=by
   rw[List.length_erase];split<;>omega
  omega
theorem Ho {m:Nat}{ds:List RD}{f:Nat}{S:List Nat}(pt:∀d∈ds,cT (m:Int) d.2.1 d.2.2.1)(hf:f < m)(h1:f∈S)(h2:∀p∈S,p < m/\mk m ds p=mk m ds f)(h3:∀d∈ds,d.1≠.pu->(d.2.1.toNat∈S↔d.2.2.1.toNat∈S)){p:Nat}(hp:p < m):p∈S↔mk m ds p=mk m ds f:=by
 refine⟨fun h=>(h2 p h).2,fun h=>?_⟩;exact(Cn.ind (R:=fun a b=>a∈S↔b∈S) (fun _=>Iff.rfl) (fun _ _ e=>e.symm) (fun _ _ _ a b=>a.trans b) h3 ((Kw pt hf hp).mp h.symm)).mp h1
end L2
set_option maxHeartbeats 2000000
namespace L2
open PySem PySem.Spec PyProof.Rows
abbrev Stp:=Nat × Int
abbrev Br:=Nat × Nat × Nat
def stF (es:List Br)(p:Nat):List (Stp × Nat):=es.filterMap fun e=>if e.2.1=p then some ((e.1,1),e.2.2) else if e.2.2=p then some ((e.1,-1),e.2.1) else none
abbrev WS:=List (Nat × List Stp)
def cA (w:WS):List Nat:=w.map (·.1)
def pD:WS->Nat->Option (List Stp)
 | [],_=>none
 |e :: w,p=>if e.1=p then some e.2 else pD w p
theorem gK {p:Nat}{st:List Stp}:∀{w:WS},pD w p=some st->(p,st)∈w
 | [],h=>by cases h
 |e :: w,h=>by
  unfold pD at h
  by_cases c:e.1=p
  ·rw[if_pos c] at h
   cases h
   obtain⟨a,b⟩:=e;have c:a=p:=c;subst c;exact List.mem_cons_self ..
  ·rw[if_neg c] at h;exact List.mem_cons_of_mem _ (gK h)
theorem oE {p:Nat}:∀{w:WS},p∈cA w->∃st,pD w p=some st
 | [],h=>by cases h
 |e :: w,h=>by
  unfold pD
  by_cases c:e.1=p
  ·rw[if_pos c];exact⟨_,rfl⟩
  ·rw[if_neg c];rcases List.mem_cons.mp h with z | z
   ·exact absurd z.symm c
   ·exact oE z
theorem qG {p:Nat}:∀{w:WS},p∉cA w->pD w p=none
 | [],_=>rfl
 |e :: w,h=>by
  unfold pD;rw[if_neg (fun z=>h (by rw[<- z];exact List.mem_cons_self ..))];exact qG fun z=>h (List.mem_cons_of_mem _ z)
theorem Nd {w:WS}{p:Nat}:(pD w p).isSome=true↔p∈cA w:=by
 by_cases c:p∈cA w
 ·obtain⟨st,e⟩:=oE c;rw[e];exact⟨fun _=>c,fun _=>rfl⟩
 ·rw[qG c];exact⟨fun z=>(by cases z),fun z=>absurd z c⟩
def inF (p:Nat)(s:WS × List Nat)(t:Stp × Nat):WS × List Nat:=if t.2∈cA s.1 then s else (s.1++[(t.2,(pD s.1 p).getD []++[t.1])],s.2++[t.2])
def kC (es:List Br)(s:WS × List Nat):WS × List Nat:=if s.2=[] then s else (stF es (s.2.getLastD 0)).foldl (inF (s.2.getLastD 0)) (s.1,s.2.dropLast)
def cC (es:List Br)(b:Nat):Nat->WS × List Nat
 |0=>([(b,[])],[b])
 |n+1=>kC es (cC es b n)
def sU (es:List Br)(b e:Nat):Option (List Stp):=pD (cC es b 60).1 e
def oZ (es:List Br)(s:Stp)(p q:Nat):Prop:=∃u v,(s.1,u,v)∈es/\((s.2=1/\p=u/\q=v)\/(s.2=-1/\p=v/\q=u))
inductive Pt (es:List Br) (b:Nat):List Stp->Nat->List Nat->Prop where
 |nil:Pt es b [] b [b]
 |snoc {st:List Stp} {p q:Nat} {pts:List Nat} {s:Stp} (h:Pt es b st p pts) (g:oZ es s p q) (n:q∉pts):Pt es b (st++[s]) q (pts++[q])
theorem kO {es:List Br}{p:Nat}{t:Stp × Nat}(h:t∈stF es p):oZ es t.1 p t.2:=by
 unfold stF at h;obtain⟨e,he,ht⟩:=List.mem_filterMap.mp h
 by_cases c1:e.2.1=p
 ·rw[if_pos c1] at ht
  cases ht
  exact⟨e.2.1,e.2.2,he,.inl ⟨rfl,c1.symm,rfl⟩⟩
 ·rw[if_neg c1] at ht
  by_cases c2:e.2.2=p
  ·rw[if_pos c2] at ht
   cases ht
   exact⟨e.2.1,e.2.2,he,.inr ⟨rfl,c2.symm,rfl⟩⟩
  ·rw[if_neg c2] at ht;cases ht
theorem Jw {es:List Br}{p q:Nat}{s:Stp}(h:oZ es s p q):q=p\/∃t∈stF es p,t.2=q:=by
 obtain⟨u,v,he,h⟩:=h
 by_cases c:q=p
 ·exact .inl c
 refine .inr ?_;rcases h with ⟨_,rfl,rfl⟩ | ⟨_,rfl,rfl⟩
 ·refine⟨((s.1,1),q),List.mem_filterMap.mpr ⟨_,he,?_⟩,rfl⟩;rw[if_pos rfl]
 ·refine⟨((s.1,-1),q),List.mem_filterMap.mpr ⟨_,he,?_⟩,rfl⟩;rw[if_neg c,if_pos rfl]
structure WI (es:List Br) (b:Nat) (s:WS × List Nat):Prop where
 nd:(cA s.1).Nodup
 kb:b∈cA s.1
 pt:∀x st,(x,st)∈s.1->∃pts,Pt es b st x pts/\∀y∈pts,y∈cA s.1
 q:∀x∈s.2,x∈cA s.1
 cl:∀x∈cA s.1,x∉s.2->∀t y,oZ es t x y->y∈cA s.1
theorem Ke (es:List Br)(b:Nat):WI es b ([(b,[])],[b]):=by
 refine⟨by simp[cA],by simp[cA],fun x st h=>?_,fun x h=>?_,fun x h n=>?_⟩
 ·have:(x,st)=(b,[]):=by simpa using h
  cases this
  exact⟨[b],.nil,fun y hy=>by simpa[cA] using hy⟩
 ·simpa[cA] using h
 ·have:x=b:=by simpa[cA] using h
  exact absurd (by simp[this]) n
theorem yX (w:WS)(x:Nat)(st:List Stp):cA (w++[(x,st)])=cA w++[x]:=by unfold cA;rw[List.map_append];rfl
structure WJ (es:List Br) (b p:Nat) (T:List (Stp × Nat)) (s:WS × List Nat):Prop where
 nd:(cA s.1).Nodup
 kb:b∈cA s.1
 kp:p∈cA s.1
 pt:∀x st,(x,st)∈s.1->∃pts,Pt es b st x pts/\∀y∈pts,y∈cA s.1
 q:∀x∈s.2,x∈cA s.1
 cl:∀x∈cA s.1,x∉s.2->x≠p->∀t y,oZ es t x y->y∈cA s.1
 t:∀t∈T,t.2∈cA s.1
theorem Fu {es:List Br}{b p:Nat}{T:List (Stp × Nat)}{s:WS × List Nat}{t:Stp × Nat}(h:WJ es b p T s)(g:oZ es t.1 p t.2):WJ es b p (T++[t]) (inF p s t):=by
 unfold inF
 by_cases c:t.2∈cA s.1
 ·rw[if_pos c];refine { h with t:=fun u hu=>?_ };rcases List.mem_append.mp hu with z | z
  ·exact h.t u z
  ·have:u=t:=by simpa using z
   rw[this];exact c
 ·rw[if_neg c];obtain⟨sp,ep⟩:=oE h.kp;rw[ep];have up:∀{x:Nat},x∈cA s.1->x∈cA (s.1++[(t.2,sp++[t.1])]):=fun hx=>by rw[yX];exact List.mem_append_left _ hx
  have me:t.2∈cA (s.1++[(t.2,sp++[t.1])]):=by rw[yX];simp
  refine⟨?_,up h.kb,up h.kp,fun x st hx=>?_,fun x hx=>?_,fun x hx nx np=>?_,fun u hu=>?_⟩
  ·show (cA (s.1++[(t.2,sp++[t.1])])).Nodup;rw[yX,List.nodup_append];refine⟨h.nd,by simp,fun x hx y hy z=>?_⟩;have:y=t.2:=by simpa using hy
   exact c (by rw[<- this,<- z];exact hx)
  ·rcases List.mem_append.mp hx with z | z
   ·obtain⟨pts,h1,h2⟩:=h.pt x st z;exact⟨pts,h1,fun y hy=>up (h2 y hy)⟩
   ·have:(x,st)=(t.2,sp++[t.1]):=by simpa using z
    cases this
    obtain⟨pts,h1,h2⟩:=h.pt p sp (gK ep);refine⟨pts++[t.2],.snoc h1 g (fun z=>c (h2 _ z)),fun y hy=>?_⟩;rcases List.mem_append.mp hy with z | z
    ·exact up (h2 y z)
    ·have:y=t.2:=by simpa using z
     rw[this];exact me
  ·rcases List.mem_append.mp hx with z | z
   ·exact up (h.q x z)
   ·have:x=t.2:=by simpa using z
    rw[this];exact me
  ·have hx':x∈cA s.1:=by
    have hx2:x∈cA (s.1++[(t.2,sp++[t.1])]):=hx;rw[yX] at hx2;rcases List.mem_append.mp hx2 with z | z
    ·exact z
    ·exact absurd (List.mem_append_right _ z) nx
   intro t' y hg;exact up (h.cl x hx' (fun z=>nx (List.mem_append_left _ z)) np t' y hg)
  ·rcases List.mem_append.mp hu with z | z
   ·exact up (h.t u z)
   ·have:u=t:=by simpa using z
    rw[this];exact me
theorem yS {es:List Br}{b p:Nat}:∀(U T:List (Stp × Nat)) {s:WS × List Nat},WJ es b p T s->(∀t∈U,oZ es t.1 p t.2)->WJ es b p (T++U) (U.foldl (inF p) s)
 | [],T,s,h,_=>by rw[List.append_nil];exact h
 |u :: U,T,s,h,g=>by
  have:=yS U (T++[u]) (Fu h (g u (by simp))) fun t ht=>g t (List.mem_cons_of_mem _ ht);rw[List.append_assoc] at this;exact this
theorem Fv {q:List Nat}(h:q≠[]):q.getLastD 0∈q/\q=q.dropLast++[q.getLastD 0]:=by
 have e:q.getLastD 0=q.getLast h:=by rw[List.getLastD_eq_getLast?,List.getLast?_eq_some_getLast h];rfl
 rw[e];exact⟨List.getLast_mem h,(List.dropLast_concat_getLast h).symm⟩
theorem rZ {es:List Br}{b:Nat}{s:WS × List Nat}(h:WI es b s)(hq:s.2≠[]):WJ es b (s.2.getLastD 0) [] (s.1,s.2.dropLast):=by
 obtain⟨m,e⟩:=Fv hq;refine⟨h.nd,h.kb,h.q _ m,h.pt,fun x hx=>h.q x (List.dropLast_subset _ hx),fun x hx nx np=>h.cl x hx fun z=>?_,fun t ht=>by cases ht⟩;rw[e] at z;rcases List.mem_append.mp z with z | z
 ·exact nx z
 ·exact np (by simpa using z)
theorem Vk {es:List Br}{b p:Nat}{s:WS × List Nat}(h:WJ es b p (stF es p) s):WI es b s:=by
 refine⟨h.nd,h.kb,h.pt,h.q,fun x hx nx t y hg=>?_⟩
 by_cases c:x=p
 ·subst c;rcases Jw hg with z | ⟨u,hu,e⟩
  ·rw[z];exact hx
  ·rw[<- e];exact h.t u hu
 ·exact h.cl x hx nx c t y hg
theorem Qq {es:List Br}{b:Nat}{s:WS × List Nat}(h:WI es b s):WI es b (kC es s):=by
 unfold kC
 by_cases c:s.2=[]
 ·rw[if_pos c];exact h
 ·rw[if_neg c];have:=yS (stF es (s.2.getLastD 0)) [] (rZ h c) fun t ht=>kO ht;rw[List.nil_append] at this;exact Vk this
theorem jS (es:List Br)(b:Nat):∀n,WI es b (cC es b n)
 |0=>Ke es b
 |n+1=>Qq (jS es b n)
def muF (s:WS × List Nat):Nat:=2*(20 - s.1.length)+s.2.length
structure Ptm (m:Nat) (es:List Br):Prop where
 p:∀e∈es,e.2.1 < m/\e.2.2 < m
theorem Wq {m:Nat}{es:List Br}{b:Nat}(h:Ptm m es)(hb:b < m){st:List Stp}{x:Nat}{pts:List Nat}(p:Pt es b st x pts):x < m:=by
 cases p with
 |nil=>exact hb
 |snoc _ g _=>
  obtain⟨u,v,he,g⟩:=g;have:=h.p _ he;rcases g with ⟨_,_,rfl⟩ | ⟨_,_,rfl⟩
  ·exact this.2
  ·exact this.1
theorem xL {m:Nat}{es:List Br}{b:Nat}(h:Ptm m es)(hb:b < m){w:WS}(pt:∀x st,(x,st)∈w->∃pts,Pt es b st x pts/\∀y∈pts,y∈cA w):∀x∈cA w,x < m:=fun x hx=>by
 obtain⟨st,e⟩:=oE hx;obtain⟨pts,p,_⟩:=pt x st (gK e);exact Wq h hb p
theorem Lc {m:Nat}{es:List Br}{b:Nat}(h:Ptm m es)(hb:b < m){w:WS}(nd:(cA w).Nodup)(pt:∀x st,(x,st)∈w->∃pts,Pt es b st x pts/\∀y∈pts,y∈cA w):w.length<=m:=by
 have:=Fx nd (xL h hb pt);unfold cA at this
 rwa [List.length_map] at this
theorem Ww {es:List Br}{b p m:Nat}{T:List (Stp × Nat)}{s:WS × List Nat}{t:Stp × Nat}(hm:Ptm m es)(hb:b < m)(h20:m<=20)(h:WJ es b p T s)(g:oZ es t.1 p t.2):muF (inF p s t)<=muF s:=by
 have h':=Fu h g;have le:=Lc hm hb h'.nd h'.pt;unfold inF at le ⊢
 by_cases c:t.2∈cA s.1
 ·rw[if_pos c];exact Nat.le_refl _
 ·rw[if_neg c] at le ⊢;unfold muF;simp only[List.length_append,List.length_cons,List.length_nil] at le ⊢;omega
theorem xQ {es:List Br}{b p m:Nat}(hm:Ptm m es)(hb:b < m)(h20:m<=20):∀(U T:List (Stp × Nat)) {s:WS × List Nat},WJ es b p T s->(∀t∈U,oZ es t.1 p t.2)->muF (U.foldl (inF p) s)<=muF s
 | [],_,_,_,_=>Nat.le_refl _
 |u :: U,T,s,h,g=>Nat.le_trans (xQ hm hb h20 U (T++[u]) (Fu h (g u (by simp))) fun t ht=>g t (List.mem_cons_of_mem _ ht)) (Ww hm hb h20 h (g u (by simp)))
theorem zJ {s:WS × List Nat}(h:s.2≠[]):muF (s.1,s.2.dropLast)+1=muF s:=by
 have:0 < s.2.length:=List.length_pos_iff.mpr h;show 2*(20 - s.1.length)+s.2.dropLast.length+1=2*(20 - s.1.length)+s.2.length;rw[List.length_dropLast];omega
theorem Dg {es:List Br}{b m:Nat}{s:WS × List Nat}(hm:Ptm m es)(hb:b < m)(h20:m<=20)(h:WI es b s)(hq:s.2≠[]):muF (kC es s)+1<=muF s:=by
 unfold kC;rw[if_neg hq];have:=xQ hm hb h20 (stF es (s.2.getLastD 0)) [] (rZ h hq) fun t ht=>kO ht;have e:=zJ hq;omega
theorem vE {es:List Br}{b:Nat}{i:Nat}(h:(cC es b i).2=[]):∀n,cC es b (i+n)=cC es b i
 |0=>rfl
 |n+1=>by
  show kC es (cC es b (i+n))=_;rw[vE h n];unfold kC;rw[if_pos h]
theorem Pd {es:List Br}{b i:Nat}(h:(cC es b i).2=[])(hi:i<=60):(cC es b 60).1=(cC es b i).1:=by
 have:=vE h (60 - i);rw[show i+(60 - i)=60 by omega] at this;rw[this]
theorem pL {es:List Br}{b m:Nat}(hm:Ptm m es)(hb:b < m)(h20:m<=20):∀n,(cC es b n).2=[]\/n+muF (cC es b n)<=39
 |0=>.inr (by show 0+(2*(20 - 1)+1)<=39;omega)
 |n+1=>by
  by_cases c:(cC es b n).2=[]
  ·refine .inl ?_;show (kC es (cC es b n)).2=[]
   unfold kC;rw[if_pos c];exact c
  ·rcases pL hm hb h20 n with z | z
   ·exact absurd z c
   ·have:=Dg hm hb h20 (jS es b n) c;refine .inr ?_;show n+1+muF (kC es (cC es b n))<=39;omega
theorem Mh {es:List Br}{b m:Nat}(hm:Ptm m es)(hb:b < m)(h20:m<=20):(cC es b 60).2=[]:=by
 rcases pL hm hb h20 60 with z | z
 ·exact z
 ·omega
def qR (es:List Br):List RD:=es.map fun e=>(.pc,(e.2.1:Int),(e.2.2:Int),(0,1))
theorem uA {m:Nat}{es:List Br}(h:Ptm m es):∀d∈qR es,cT (m:Int) d.2.1 d.2.2.1:=fun d hd=>by
 obtain⟨e,he,rfl⟩:=List.mem_map.mp hd;have:=h.p e he;exact⟨by show (0:Int)<=(e.2.1:Int);omega,by show ((e.2.1:Nat):Int) < m;omega,by show (0:Int)<=(e.2.2:Int);omega,by show ((e.2.2:Nat):Int) < m;omega⟩
theorem Qv {m:Nat}{es:List Br}(h:Ptm m es){s:Stp}{p q:Nat}(g:oZ es s p q):mk m (qR es) q=mk m (qR es) p:=by
 obtain⟨u,v,he,g⟩:=g;have e:=oW _ (qR es) rfl (uA h) (.pc,(u:Int),(v:Int),(0,1)) (List.mem_map.mpr ⟨_,he,rfl⟩) (by intro z;cases z);rw[Int.toNat_natCast,Int.toNat_natCast] at e;rcases g with ⟨_,rfl,rfl⟩ | ⟨_,rfl,rfl⟩
 ·exact e.symm
 ·exact e
theorem Vz {m:Nat}{es:List Br}{b:Nat}(h:Ptm m es){st:List Stp}{x:Nat}{pts:List Nat}(p:Pt es b st x pts):mk m (qR es) x=mk m (qR es) b:=by
 induction p with
 |nil=>rfl
 |snoc _ g _ ih=>rw[Qv h g,ih]
theorem Ou {m:Nat}{es:List Br}{b e:Nat}(h:Ptm m es)(h20:m<=20)(hb:b < m)(he:e < m):(sU es b e).isSome=true↔mk m (qR es) e=mk m (qR es) b:=by
 have wi:=jS es b 60;have q0:=Mh h hb h20;unfold sU;rw[Nd];refine Ho (uA h) hb wi.kb (fun p hp=>⟨xL h hb wi.pt p hp,?_⟩) (fun d hd _=>?_) he
 ·obtain⟨st,e'⟩:=oE hp;obtain⟨pts,pp,_⟩:=wi.pt p st (gK e');exact Vz h pp
 ·obtain⟨a,ha,rfl⟩:=List.mem_map.mp hd;show ((a.2.1:Int).toNat∈_↔(a.2.2:Int).toNat∈_);rw[Int.toNat_natCast,Int.toNat_natCast];exact⟨fun z=>wi.cl _ z (by rw[q0];simp) (a.1,1) _ ⟨a.2.1,a.2.2,ha,.inl ⟨rfl,rfl,rfl⟩⟩,fun z=>wi.cl _ z (by rw[q0];simp) (a.1,-1) _ ⟨a.2.1,a.2.2,ha,.inr ⟨rfl,rfl,rfl⟩⟩⟩
structure sS (es:List Br) (b e:Nat) (st:List Stp) (pts:List Nat):Prop where
 l:pts.length=st.length+1
 hb:pts[0]?=some b
 he:pts[st.length]?=some e
 g:∀i s,st[i]?=some s->∃p q,pts[i]?=some p/\pts[i+1]?=some q/\oZ es s p q
 n:(st.map (·.1)).Nodup
theorem Qi {es:List Br}{b x:Nat}{st:List Stp}{pts:List Nat}(p:Pt es b st x pts):∀s∈st,∃y z,y∈pts/\z∈pts/\oZ es s y z:=by
 induction p with
 |nil=>intro s h;cases h
 | @snoc st p q pts s h g n ih=>
  intro t ht;rcases List.mem_append.mp ht with z | z
  ·obtain⟨y,z',h1,h2,h3⟩:=ih t z;exact⟨y,z',List.mem_append_left _ h1,List.mem_append_left _ h2,h3⟩
  ·have:t=s:=by simpa using z
   subst this;refine⟨p,q,List.mem_append_left _ ?_,by simp,g⟩
   cases h with
   |nil=>simp
   |snoc _ _ _=>simp
theorem Hu {es:List Br}{b x:Nat}{st:List Stp}{pts:List Nat}(ne:(es.map (·.1)).Nodup)(p:Pt es b st x pts):sS es b x st pts:=by
 induction p with
 |nil=>exact⟨rfl,rfl,rfl,fun i s h=>by simp at h,by simp⟩
 | @snoc st p q pts s h g n ih=>
  have l:=ih.l;refine⟨by rw[List.length_append,List.length_append,l];rfl,?_,?_,fun i t ht=>?_,?_⟩
  ·rw[List.getElem?_append_left (by omega)];exact ih.hb
  ·rw[List.length_append,List.getElem?_append_right (by simp;omega)];simp only[List.length_cons,List.length_nil];rw[show st.length+(0+1) - pts.length=0 by omega];rfl
  ·by_cases c:i < st.length
   ·rw[List.getElem?_append_left c] at ht;obtain⟨y,z,h1,h2,h3⟩:=ih.g i t ht;exact⟨y,z,by rw[List.getElem?_append_left (by omega)];exact h1,by rw[List.getElem?_append_left (by omega)];exact h2,h3⟩
   ·have hi:i=st.length:=by
     have:=(List.getElem?_eq_some_iff.mp ht).1;simp only[List.length_append,List.length_cons,List.length_nil] at this;omega
    subst hi;rw[List.getElem?_append_right (Nat.le_refl _),Nat.sub_self] at ht;have:s=t:=by simpa using ht
    subst this;refine⟨p,q,by rw[List.getElem?_append_left (by omega)];exact ih.he,?_,g⟩;rw[List.getElem?_append_right (by omega),show st.length+1 - pts.length=0 by omega];rfl
  ·rw[List.map_append,List.nodup_append];refine⟨ih.n,by simp,fun a ha c hc z=>?_⟩;have hc:c=s.1:=by simpa using hc
   obtain⟨t,ht,et⟩:=List.mem_map.mp ha;obtain⟨y,w,h1,h2,u',v',he',g'⟩:=Qi h t ht;obtain⟨u,v,he,g⟩:=g;have same:(t.1,u',v')=(s.1,u,v):=by
    have key:∀{l:List Br},(l.map (·.1)).Nodup->∀{a c:Br},a∈l->c∈l->a.1=c.1->a=c:=fun {l}=>by
     induction l with
     |nil=>intro _ a c h;cases h
     |cons x l ih=>
      intro nd a c ha hc e;rw[List.map_cons,List.nodup_cons] at nd;rcases List.mem_cons.mp ha with rfl | z1<;>rcases List.mem_cons.mp hc with rfl | z2
      ·rfl
      ·exact absurd (List.mem_map.mpr ⟨c,z2,e.symm⟩) nd.1
      ·exact absurd (List.mem_map.mpr ⟨a,z1,e⟩) nd.1
      ·exact ih nd.2 z1 z2 e
    exact key ne he' he (by show t.1=s.1;rw[et,z,hc])
   have e1:u'=u:=by injection same with _ e;injection e
   have e2:v'=v:=by injection same with _ e;injection e
   subst e1;subst e2;rcases g with ⟨_,rfl,rfl⟩ | ⟨_,rfl,rfl⟩<;>rcases g' with ⟨_,rfl,rfl⟩ | ⟨_,rfl,rfl⟩
   ·exact n h2
   ·exact n h1
   ·exact n h1
   ·exact n h2
theorem Io {es:List Br}{b e:Nat}{st:List Stp}(ne:(es.map (·.1)).Nodup)(h:sU es b e=some st):∃pts,sS es b e st pts:=by
 obtain⟨pts,p,_⟩:=(jS es b 60).pt e st (gK h);exact⟨pts,Hu ne p⟩
theorem vD {m:Nat}{es:List Br}{b e:Nat}{st:List Stp}(hm:Ptm m es)(hb:b < m)(h:sU es b e=some st):st.length < m:=by
 obtain⟨pts,p,k⟩:=(jS es b 60).pt e st (gK h);have l:pts.length=st.length+1:=by
  clear h
  induction p with
  |nil=>rfl
  |snoc h g n ih=>rw[List.length_append,List.length_append,ih fun y hy=>k y (List.mem_append_left _ hy)];rfl
 have nd:pts.Nodup:=by
  clear h k l
  induction p with
  |nil=>simp
  |snoc h g n ih=>
   rw[List.nodup_append];refine⟨ih,by simp,fun x hx y hy z=>n ?_⟩;rw[List.mem_singleton] at hy;rw[<- hy,<- z];exact hx
 have:=Fx nd fun y hy=>xL hm hb (jS es b 60).pt y (k y hy);omega
abbrev Sk:=Kd × Nat × Nat
def skl (ds:List RD):List Sk:=ds.map fun d=>(d.1,d.2.1.toNat,d.2.2.1.toNat)
abbrev RS:=List Br × List (Nat × List Stp)
def iJ (W:Kd->Bool)(s:RS)(k:Nat)(d:Sk):RS:=if W d.1 then (match sU s.1 d.2.2 d.2.1 with
 |none=>(s.1++[(k,d.2.1,d.2.2)],s.2)
 |some st=>(s.1,s.2++[(k,(k,1) :: st)])) else s
def fD (W:Kd->Bool)(sk:List Sk):Nat->RS
 |0=>([],[])
 |n+1=>match sk[n]? with
  |none=>fD W sk n
  |some d=>iJ W (fD W sk n) n d
theorem iH {W:Kd->Bool}{sk:List Sk}{n:Nat}{d:Sk}(h:sk[n]?=some d):fD W sk (n+1)=iJ W (fD W sk n) n d:=by
 show (match sk[n]? with | none=>fD W sk n | some d=>iJ W (fD W sk n) n d)=_;rw[h]
structure RI (W:Kd->Bool) (sk:List Sk) (m n:Nat) (s:RS):Prop where
 pt:Ptm m s.1
 nd:(s.1.map (·.1)).Nodup
 lt:∀e∈s.1,e.1 < n
 at_:∀e∈s.1,∃k,sk[e.1]?=some (k,e.2.1,e.2.2)
 rl:s.2.length<=n
 r:∀c∈s.2,c.1 < n/\∃k u v st pts,sk[c.1]?=some (k,u,v)/\c.2=(c.1,1) :: st/\(∀t∈st,t.1 < c.1/\t.1∈s.1.map (·.1))/\sS s.1 v u st pts/\st.length < m
theorem sS.mono {es es':List Br}{b e:Nat}{st:List Stp}{pts:List Nat}(h:sS es b e st pts)(hs:∀x∈es,x∈es'):sS es' b e st pts:=
 { h with g:=fun i s hi=>let ⟨p,q,h1,h2,u,v,h3,h4⟩:=h.g i s hi;⟨p,q,h1,h2,u,v,hs _ h3,h4⟩ }
theorem Mt {es:List Br}{b e:Nat}{st:List Stp}{pts:List Nat}(h:sS es b e st pts):∀t∈st,t.1∈es.map (·.1):=fun t ht=>by
 obtain⟨i,hi⟩:=List.getElem?_of_mem ht;obtain⟨p,q,_,_,u,v,h3,_⟩:=h.g i t hi;exact List.mem_map.mpr ⟨_,h3,rfl⟩
theorem rW {W:Kd->Bool}{sk:List Sk}{m:Nat}(hm:∀d∈sk,d.2.1 < m/\d.2.2 < m):∀n,n<=sk.length->RI W sk m n (fD W sk n)
 |0,_=>⟨⟨fun e h=>(by cases h)⟩,(by show ([]:List Nat).Nodup;simp),fun e h=>(by cases h),fun e h=>(by cases h),Nat.le_refl _,fun c h=>(by cases h)⟩
 |n+1,hn=>by
  have ih:=rW (W:=W) hm n (by omega);have hd:sk[n]?=some sk[n]:=List.getElem?_eq_getElem (by omega);rw[iH hd];have pm:=hm _ (List.mem_of_getElem? hd);generalize sk[n]=d at hd pm;generalize fD W sk n=s at ih;unfold iJ
  by_cases hw:W d.1=true
  ·rw[if_pos hw]
   cases hy:sU s.1 d.2.2 d.2.1 with
   |none=>
    show RI W sk m (n+1) (s.1++[(n,d.2.1,d.2.2)],s.2);refine⟨⟨fun e he=>?_⟩,?_,fun e he=>?_,fun e he=>?_,by have:=ih.rl;show s.2.length<=n+1;omega,fun c hc=>?_⟩
    ·rcases List.mem_append.mp he with z | z
     ·exact ih.pt.p e z
     ·have:e=(n,d.2.1,d.2.2):=by simpa using z
      rw[this];exact pm
    ·show ((s.1++[(n,d.2.1,d.2.2)]).map (·.1)).Nodup;rw[List.map_append,List.nodup_append];refine⟨ih.nd,by simp,fun x hx y hy z=>?_⟩;have:y=n:=by simpa using hy
     obtain⟨e,he,ee⟩:=List.mem_map.mp hx;have:=ih.lt e he;omega
    ·rcases List.mem_append.mp he with z | z
     ·have:=ih.lt e z;omega
     ·have:e=(n,d.2.1,d.2.2):=by simpa using z
      rw[this];exact Nat.lt_succ_self n
    ·rcases List.mem_append.mp he with z | z
     ·exact ih.at_ e z
     ·have:e=(n,d.2.1,d.2.2):=by simpa using z
      rw[this];exact⟨d.1,hd⟩
    ·obtain⟨h1,k,u,v,st,pts,h2,h3,h4,h5,h6⟩:=ih.r c hc;refine⟨by omega,k,u,v,st,pts,h2,h3,fun t ht=>⟨(h4 t ht).1,?_⟩,h5.mono fun x hx=>List.mem_append_left _ hx,h6⟩;show t.1∈(s.1++[(n,d.2.1,d.2.2)]).map (·.1);rw[List.map_append];exact List.mem_append_left _ (h4 t ht).2
   |some st=>
    show RI W sk m (n+1) (s.1,s.2++[(n,(n,1) :: st)]);refine⟨ih.pt,ih.nd,fun e he=>Nat.lt_succ_of_lt (ih.lt e he),ih.at_,by have:=ih.rl;show (s.2++[(n,(n,1) :: st)]).length<=n+1;rw[List.length_append];simp only[List.length_cons,List.length_nil];omega,fun c hc=>?_⟩;rcases List.mem_append.mp hc with z | z
    ·obtain⟨h1,r⟩:=ih.r c z;exact⟨by omega,r⟩
    ·have:c=(n,(n,1) :: st):=by simpa using z
     subst this;obtain⟨pts,ch⟩:=Io ih.nd hy;refine⟨Nat.lt_succ_self n,d.1,d.2.1,d.2.2,st,pts,hd,rfl,fun t ht=>?_,ch,vD ih.pt pm.2 hy⟩;have ti:=Mt ch t ht;obtain⟨e,he,ee⟩:=List.mem_map.mp ti;have:=ih.lt e he;exact⟨by show t.1 < n;omega,ti⟩
  ·rw[if_neg hw];exact⟨ih.pt,ih.nd,fun e he=>Nat.lt_succ_of_lt (ih.lt e he),ih.at_,by have:=ih.rl;omega,fun c hc=>let ⟨h1,r⟩:=ih.r c hc;⟨by omega,r⟩⟩
theorem SqT.updD {K:PySem.W.Frag}{H:Hp}{a l:Addr}{xs:List V}{kvs:List (Key × V)}{o:HO}(h:SqT K H a xs)(hl:H l=some (.dK kvs)):SqT K (L2.upd H l o) a xs:=by
 rcases h with (h | ⟨u,h⟩) | h
 ·exact .inl (.inl (by rw[bC (iN h hl (fun z=>by cases z))];exact h))
 ·exact .inl (.inr ⟨u,by rw[bC (iN h hl (fun z=>by cases z))];exact h⟩)
 ·exact .inr h
inductive Sts (K:PySem.W.Frag) (H:Hp):List V->List Stp->Prop where
 |nil:Sts K H [] []
 |cons {t:Addr} {n:Nat} {w:Int} {xs:List V} {st:List Stp} (h:SqT K H t [.int (n:Int),.int w]) (q:Sts K H xs st):Sts K H (.ref t :: xs) ((n,w) :: st)
section
variable {K:PySem.W.Frag} {H H':Hp}
theorem Sts.same (e:bG H H'):∀{xs:List V} {st:List Stp},Sts K H xs st->Sts K H' xs st
 |_,_,.nil=>.nil
 |_,_,.cons h q=>.cons (e.seqT h) (Sts.same e q)
theorem Sts.length:∀{xs:List V} {st:List Stp},Sts K H xs st->xs.length=st.length
 |_,_,.nil=>rfl
 |_,_,.cons _ q=>by simp[Sts.length q]
theorem Sts.app:∀{xs ys:List V} {st su:List Stp},Sts K H xs st->Sts K H ys su->Sts K H (xs++ys) (st++su)
 |_,_,_,_,.nil,r=>r
 |_,_,_,_,.cons h q,r=>.cons h (Sts.app q r)
theorem Sts.upd {l:Addr}{ys:List V}{o:HO}(hl:H l=some (.lst ys)):∀{xs:List V} {st:List Stp},Sts K H xs st->Sts K (L2.upd H l o) xs st
 |_,_,.nil=>.nil
 |_,_,.cons h q=>.cons (SqT.upd h hl) (Sts.upd hl q)
theorem Sts.updD {l:Addr}{kvs:List (Key × V)}{o:HO}(hl:H l=some (.dK kvs)):∀{xs:List V} {st:List Stp},Sts K H xs st->Sts K (L2.upd H l o) xs st
 |_,_,.nil=>.nil
 |_,_,.cons h q=>.cons (SqT.updD h hl) (Sts.updD hl q)
end
inductive Sds (K:PySem.W.Frag) (H:Hp):List V->List (Stp × Nat)->Prop where
 |nil:Sds K H [] []
 |cons {t s:Addr} {n x:Nat} {w:Int} {xs:List V} {st:List (Stp × Nat)} (h:SqT K H t [.ref s,.int (x:Int)]) (g:SqT K H s [.int (n:Int),.int w]) (q:Sds K H xs st):Sds K H (.ref t :: xs) (((n,w),x) :: st)
section
variable {K:PySem.W.Frag} {H H':Hp}
theorem Sds.same (e:bG H H'):∀{xs:List V} {st:List (Stp × Nat)},Sds K H xs st->Sds K H' xs st
 |_,_,.nil=>.nil
 |_,_,.cons h g q=>.cons (e.seqT h) (e.seqT g) (Sds.same e q)
theorem Sds.length:∀{xs:List V} {st:List (Stp × Nat)},Sds K H xs st->xs.length=st.length
 |_,_,.nil=>rfl
 |_,_,.cons _ _ q=>by simp[Sds.length q]
theorem Sds.app:∀{xs ys:List V} {st su:List (Stp × Nat)},Sds K H xs st->Sds K H ys su->Sds K H (xs++ys) (st++su)
 |_,_,_,_,.nil,r=>r
 |_,_,_,_,.cons h g q,r=>.cons h g (Sds.app q r)
theorem Sds.get:∀{xs:List V} {st:List (Stp × Nat)} {i:Nat} {x:V},Sds K H xs st->xs[i]?=some x->∃t u s,x=.ref t/\st[i]?=some s/\SqT K H t [.ref u,.int (s.2:Int)]/\SqT K H u [.int (s.1.1:Int),.int s.1.2]
 |_,_,_,_,.nil,h=>by simp at h
 |_,_,0,_,.cons h g _,e=>by simp at e;subst e;exact⟨_,_,_,rfl,rfl,h,g⟩
 |_,_,i+1,_,.cons _ _ q,e=>by simpa using Sds.get q (by simpa using e)
theorem Sds.upd {l:Addr}{ys:List V}{o:HO}(hl:H l=some (.lst ys)):∀{xs:List V} {st:List (Stp × Nat)},Sds K H xs st->Sds K (L2.upd H l o) xs st
 |_,_,.nil=>.nil
 |_,_,.cons h g q=>.cons (SqT.upd h hl) (SqT.upd g hl) (Sds.upd hl q)
theorem Sds.updD {l:Addr}{kvs:List (Key × V)}{o:HO}(hl:H l=some (.dK kvs)):∀{xs:List V} {st:List (Stp × Nat)},Sds K H xs st->Sds K (L2.upd H l o) xs st
 |_,_,.nil=>.nil
 |_,_,.cons h g q=>.cons (SqT.updD h hl) (SqT.updD g hl) (Sds.updD hl q)
end
inductive Wys (K:PySem.W.Frag) (H0:Hp) (W:Addr) (H:Hp):List (Key × V)->WS->Prop where
 |nil:Wys K H0 W H [] []
 |cons {a:Addr} {x:Nat} {xs:List V} {st:List Stp} {kvs:List (Key × V)} {w:WS} (n:H0 a=none) (nw:a≠W) (h:H a=some (.lst xs)) (f:Sts K H xs st) (q:Wys K H0 W H kvs w):Wys K H0 W H ((Sum.inl (x:Int),.ref a) :: kvs) ((x,st) :: w)
section
variable {K:PySem.W.Frag} {H0 H H':Hp} {W:Addr}
theorem Wys.same (e:bG H H'):∀{kvs:List (Key × V)} {w:WS},Wys K H0 W H kvs w->Wys K H0 W H' kvs w
 |_,_,.nil=>.nil
 |_,_,.cons n nw h f q=>.cons n nw (e _ _ h) (f.same e) (Wys.same e q)
theorem Wys.updW {ys:List V}{o:HO}(hl:H W=some (.lst ys)):∀{kvs:List (Key × V)} {w:WS},Wys K H0 W H kvs w->Wys K H0 W (L2.upd H W o) kvs w
 |_,_,.nil=>.nil
 |_,_,.cons n nw h f q=>.cons n nw (by rw[bC nw];exact h) (f.upd hl) (Wys.updW hl q)
theorem Wys.updD {D:Addr}{kv:List (Key × V)}{o:HO}(hl:H D=some (.dK kv)):∀{kvs:List (Key × V)} {w:WS},Wys K H0 W H kvs w->Wys K H0 W (L2.upd H D o) kvs w
 |_,_,.nil=>.nil
 |_,_,.cons n nw h f q=>.cons n nw (by rw[bC (iN h hl (fun z=>by cases z))];exact h) (f.updD hl) (Wys.updD hl q)
theorem Wys.length:∀{kvs:List (Key × V)} {w:WS},Wys K H0 W H kvs w->kvs.length=w.length
 |_,_,.nil=>rfl
 |_,_,.cons _ _ _ _ q=>by simp[Wys.length q]
theorem Wys.snoc {a:Addr}{x:Nat}{xs:List V}{st:List Stp}(n:H0 a=none)(nw:a≠W)(h:H a=some (.lst xs))(f:Sts K H xs st):∀{kvs:List (Key × V)} {w:WS},Wys K H0 W H kvs w->Wys K H0 W H (kvs++[(Sum.inl (x:Int),.ref a)]) (w++[(x,st)])
 |_,_,.nil=>.cons n nw h f .nil
 |_,_,.cons n' nw' h' f' q=>.cons n' nw' h' f' (Wys.snoc n nw h f q)
theorem Wys.none_ {p:Nat}:∀{kvs:List (Key × V)} {w:WS},Wys K H0 W H kvs w->p∉cA w->oG kvs (Sum.inl (p:Int))=none/\(kvs.any fun kv=>decide (kv.1=Sum.inl (p:Int)))=false
 |_,_,.nil,_=>⟨rfl,rfl⟩
 |_,_,.cons (x:=x) (kvs:=kvs) (w:=w) n nw h f q,hp=>by
  have hx:x≠p:=fun z=>hp (by rw[<- z];exact List.mem_cons_self ..);obtain⟨h1,h2⟩:=Wys.none_ q fun z=>hp (List.mem_cons_of_mem _ z);refine⟨by rw[lC (fun z=>hx (Int.ofNat.inj (Sum.inl.inj z)))];exact h1,?_⟩;rw[List.any_cons,h2];have e:decide ((Sum.inl (x:Int):Key)=Sum.inl (p:Int))=false:=decide_eq_false fun z=>hx (Int.ofNat.inj (Sum.inl.inj z));show (decide ((Sum.inl (x:Int):Key)=Sum.inl (p:Int)) || false)=false;rw[e];rfl
theorem Wys.some_ {p:Nat}:∀{kvs:List (Key × V)} {w:WS},Wys K H0 W H kvs w->p∈cA w->∃a xs st,oG kvs (Sum.inl (p:Int))=some (.ref a)/\pD w p=some st/\H0 a=none/\a≠W/\H a=some (.lst xs)/\Sts K H xs st
 |_,_,.nil,h=>by cases h
 |_,_,.cons (a:=a) (x:=x) (xs:=xs) (st:=st) (kvs:=kvs) (w:=w) n nw h f q,hp=>by
  by_cases c:x=p
  ·subst c;exact⟨a,xs,st,by rw[nV rfl],by unfold pD;rw[if_pos rfl],n,nw,h,f⟩
  ·have hp':p∈cA w:=by
    rcases List.mem_cons.mp hp with z | z
    ·exact absurd z.symm c
    ·exact z
   obtain⟨a',xs',st',h1,h2,r⟩:=Wys.some_ q hp';exact⟨a',xs',st',by rw[lC (fun z=>c (Int.ofNat.inj (Sum.inl.inj z)))];exact h1,by unfold pD;rw[if_neg c];exact h2,r⟩
theorem Wys.isSome {p:Nat}{kvs:List (Key × V)}{w:WS}(h:Wys K H0 W H kvs w):(oG kvs (Sum.inl (p:Int))).isSome=decide (p∈cA w):=by
 by_cases c:p∈cA w
 ·obtain⟨a,xs,st,e,_⟩:=h.some_ c;rw[e,decide_eq_true c];rfl
 ·rw[(h.none_ c).1,decide_eq_false c];rfl
end
structure Rgs (K:PySem.W.Frag) (H0 H:Hp) (us:List V) (X:List (List Stp)):Prop where
 l:us.length=X.length
 r:∀(i:Nat) (x:V) (st:List Stp),us[i]?=some x->X[i]?=some st->∃(a:Addr) (xs:List V),x=.ref a/\H0 a=none/\H a=some (.lst xs)/\Sts K H xs st
theorem Rgs.nil {K:PySem.W.Frag}{H0 H:Hp}:Rgs K H0 H [] []:=⟨rfl,fun i x st h=>by simp at h⟩
theorem Rgs.same {K:PySem.W.Frag}{H0 H H':Hp}{us:List V}{X:List (List Stp)}(e:bG H H')(f:Rgs K H0 H us X):Rgs K H0 H' us X:=⟨f.l,fun i x st h1 h2=>let ⟨a,xs,e1,n,h,s⟩:=f.r i x st h1 h2;⟨a,xs,e1,n,e _ _ h,s.same e⟩⟩
theorem Rgs.snoc {K:PySem.W.Frag}{H0 H:Hp}{us:List V}{X:List (List Stp)}{a:Addr}{xs:List V}{st:List Stp}(f:Rgs K H0 H us X)(n:H0 a=none)(h:H a=some (.lst xs))(s:Sts K H xs st):Rgs K H0 H (us++[.ref a]) (X++[st]):=by
 refine⟨by rw[List.length_append,List.length_append,f.l];rfl,fun i x qs h1 h2=>?_⟩;have l:=f.l
 by_cases c:i < us.length
 ·rw[List.getElem?_append_left c] at h1;rw[List.getElem?_append_left (by omega)] at h2;exact f.r i x qs h1 h2
 ·have hi:i=us.length:=by
   have:=(List.getElem?_eq_some_iff.mp h1).1;rw[List.length_append] at this;simp only[List.length_cons,List.length_nil] at this;omega
  subst hi;rw[List.getElem?_append_right (Nat.le_refl _),Nat.sub_self] at h1;rw[List.getElem?_append_right (by omega),show us.length - X.length=0 by omega] at h2
  cases h1
  cases h2
  exact⟨a,xs,rfl,n,h,s⟩
theorem Rgs.updO {K:PySem.W.Frag}{H0 H:Hp}{us:List V}{X:List (List Stp)}{l:Addr}{ys:List V}{o:HO}(f:Rgs K H0 H us X)(hl:H l=some (.lst ys))(n:∀x∈us,x≠.ref l):Rgs K H0 (upd H l o) us X:=⟨f.l,fun i x st h1 h2=>let ⟨a,xs,e1,n1,h,s⟩:=f.r i x st h1 h2;⟨a,xs,e1,n1,by rw[bC (fun z=>n x (List.mem_of_getElem? h1) (by rw[e1,z]))];exact h,s.upd hl⟩⟩
def Tm (ds:List RD)(es:List Br):Prop:=∀e∈es,∃d,ds[e.1]?=some d/\d.2.1=(e.2.1:Int)/\d.2.2.1=(e.2.2:Int)
def Dy (K:PySem.W.Frag)(CK:Kd->Addr):Sp:=fun vs H Q _=>∃(a b:Addr) (xs:List V) (ds:List RD) (es:List Br) (p:Nat),vs=[.ref a,.ref b,.int (p:Int)]/\SqL K H a xs/\gM CK K H xs ds/\SqL K H b (es.map fun e=>V.int (e.1:Int))/\Tm ds es/\es.length<=100/\∀l ys H',bG H H'->H l=none->H' l=some (.lst ys)->Sds K H' ys (stF es p)->Q (.ref l) H'
def Rs (K:PySem.W.Frag)(CK:Kd->Addr):Sp:=fun vs H Q _=>∃(a b:Addr) (xs:List V) (ds:List RD) (es:List Br) (m f t:Nat),vs=[.ref a,.ref b,.int (f:Int),.int (t:Int)]/\SqL K H a xs/\gM CK K H xs ds/\SqL K H b (es.map fun e=>V.int (e.1:Int))/\Tm ds es/\es.length<=100/\Ptm m es/\m<=20/\f < m/\
 (sU es f t=none->∀H',bG H H'->Q .non H')/\∀st,sU es f t=some st->∀l ys H',bG H H'->H l=none->H' l=some (.lst ys)->Sts K H' ys st->Q (.ref l) H'
inductive Wds (K:PySem.W.Frag) (H:Hp):V->(Kd->Bool)->Prop where
 |non:Wds K H .non (fun k=>decide (k≠.pu))
 |seq {a:Addr} {ws:List V} (h:SqL K H a ws) (f:ws.all mO=true):Wds K H (.ref a) (fun k=>inV (.str k.wd) ws)
def Ee (CN:Addr)(K:PySem.W.Frag):Sp:=fun vs H Q _=>∃(n l:Addr) (v:V) (m:Nat) (ds:List RD) (W:Kd->Bool),vs=[.ref n,v]/\eJ CN K H n l (m:Int) ds/\(∀d∈ds,cT (m:Int) d.2.1 d.2.2.1)/\m<=20/\ds.length<=40/\Wds K H v W/\∀r us H',bG H H'->H r=none->H' r=some (.lst us)->Rgs K H H' us ((fD W (skl ds) ds.length).2.map (·.2))->(∀x∈us,x≠.ref r)->Q (.ref r) H'
end L2
set_option maxHeartbeats 4000000
namespace K72
open PySem L2
section
variable {P:Program} {w:World} {K:PySem.W.Frag} {mg:Str->Option Value} {base:Heap} {f g1 g2 g3 g4 g5 g6 g7 g8:Addr} {fd gd1 gd2 gd3 gd4 gd5 gd6 gd7 gd8:FuncData} {CX:CXT}
variable {CR:Addr} {CK:Kd->Addr} {fW fJ fT fS:Kd->Addr} {fdW fdJ fdT fdS:Kd->FuncData}
theorem iB {ec:List (Str × Addr)}:∀(x:Str) (c:Addr),([]:List (Str × Addr)).lookup x=some c->ec.lookup x=some c:=fun _ _ h=>by cases h
theorem cP {ec cl:List (Str × Addr)}{a:Str}{d:Addr}(h:ec.lookup a=some d)(r:∀x c,cl.lookup x=some c->ec.lookup x=some c):∀x c,((a,d) :: cl).lookup x=some c->ec.lookup x=some c:=fun x c e=>by
 rw[List.lookup_cons] at e
 cases q:x == a with
 |true=>rw[q] at e;rw[eq_of_beq q,h];exact e
 |false=>rw[q] at e;exact r x c e
theorem oF {X:Cx}{K:PySem.W.Frag}(h:X.K=K):IxR X (Qw K):=by subst h;exact aX
theorem oQ {X:Cx}{K:PySem.W.Frag}(h:X.K=K):IxR X (Vy K):=by subst h;exact bL
abbrev qF:Stmt:=top 32
theorem rK:aT ["rows","numbers","point","steps","number","row"] ["rows","numbers","point"] (aE qF):=⟨rfl,rfl,rfl,by decide +kernel,rfl,by decide +kernel,by decide +kernel⟩
theorem Ml {dV:Value}(F:bZ K "steps_from" "steps_from" qF dV f fd)(T:RT K mg CR CK) :
  aQ P w K mg base CX 1 f fd ["rows","numbers","point"] (Dy K CK):=by
 refine F.ok rK (fun vs H Q E h=>?_) (fun cdv A outer s H vs Q E hr h=>?_)
 ·obtain⟨a,b,xs,ds,es,p,rfl,hA,Rb,hB,hE,h100,q⟩:=h;rfl
 obtain⟨a,b,xs,ds,es,p,rfl,hA,Rb,hB,hE,h100,q⟩:=h;refine⟨_,(aC (aW (i:=3) rK.nd rfl (Or.inl rfl) (cV aD))
  (aC (eU PassesOwn.never rfl (cS (pv 1)) (aZ (i:=4) rK.nd rfl (Or.inl rfl))
   (aC (aW (i:=5) rK.nd rfl (Or.inl rfl) (aP bL (pv 0) (pv 4) (fun _ _=>rfl)))
  (aG (cE (bK eE (cG (pv 5) rfl) (pv 2) (bM _)) (aG (bV (nX PySem.F.plainAttrs_list PySem.F.slot_list_append PySem.F.type_list_append fX (pv 3) (aA (cX (aA (cX (aA (pv 4) (aA aF aD))) (aA (cG (pv 5) rfl) aD))) aD)))) (aG (cE (bK eE (cG (pv 5) rfl) (pv 2) (bM _)) (aG (bV (nX PySem.F.plainAttrs_list PySem.F.slot_list_append PySem.F.type_list_append fX (pv 3) (aA (cX (aA (cX (aA (pv 4) (aA (Li Cy aF) aD))) (aA (cG (pv 5) rfl) aD))) aD)))) bN))))))
  (aG (bA (pv 3))))),?_⟩
 refine⟨by show 0<=sizeLine;decide,fun l hl=>?_⟩;have s1:=aH hl (.lst []);have e1:upd H l (.lst []) l=some (.lst []):=aB;generalize upd H l (.lst [])=H1 at s1 e1 ⊢;refine⟨_,rfl,b,rfl,⟨_,s1.seq hB⟩,?_⟩;refine gB (xs:=es.map fun (e:Br)=>V.int ((e.1:Nat):Int)) (fun i σ H'=>bG H H'/\∃(ys:List V) (z4 z5:Option V),σ=[some (.ref a),some (.ref b),some (.int (p:Int)),some (.ref l),z4,z5]/\H' l=some (.lst ys)/\Sds K H' ys (stF (es.take i) p)) ⟨s1,[],none,none,rfl,e1,.nil⟩ (fun i σ H' _ h=>h.1.seq hB) ?_ ?_
 ·rintro i x σ H2 hx ⟨s2,ys,z4,z5,rfl,e2,S2⟩;rw[List.getElem?_map] at hx;obtain⟨e,he,rfl⟩:=Option.map_eq_some_iff.mp hx;have hi:i < es.length:=(List.getElem?_eq_some_iff.mp he).1;obtain⟨⟨k,u,v,q'⟩,hd,eu,ev⟩:=hE e (List.mem_of_getElem? he);have eu:u=(e.2.1:Int):=eu;have ev:v=(e.2.2:Int):=ev;subst eu;subst ev;obtain⟨y,z,ey,rw0,fz⟩:=Rb.at hd;have rw2:=rw0.same s2;obtain⟨dx,hx2⟩:=id rw2;have at_:atI xs (e.1:Int)=some (.ref y):=bQ ey;have ly:ys.length<=es.length:=by
   have h1:=S2.length;have h2:(stF (es.take i) p).length<=(es.take i).length:=List.length_filterMap_le _ _;rw[List.length_take] at h2;omega
  refine⟨_,rfl,_,rfl,a,xs,_,_,rfl,rfl,s2.seq hA,at_,?_⟩;refine⟨_,rfl,y,CK _,_,_,_,rfl,hx2,T.cl _,T.nS _,dD _ _ _,_,rfl,rfl,_,rfl,?_⟩
  by_cases c1:e.2.1=p
  ·have tk:stF (es.take (i+1)) p=stF (es.take i) p++[((e.1,1),e.2.2)]:=by
    unfold stF;rw[List.take_add_one,he,List.filterMap_append];show _++[e].filterMap _=_;rw[List.filterMap_cons,if_pos c1];rfl
   refine ifT (decide_eq_true (by rw[c1])) ?_;refine⟨_,rfl,.inl ⟨rfl,_,SqL.of e2⟩,_,rfl,by show 2<=sizeLine;decide,fun u hu'=>?_⟩;have su:=aH hu' (.tup [.int (e.1:Int),.int (1)]);have eu:SqT K (upd H2 u (.tup [.int (e.1:Int),.int (1)])) u [.int (e.1:Int),.int (1)]:=SqT.of aB;generalize upd H2 u (.tup [.int (e.1:Int),.int (1)])=H3 at su eu ⊢;obtain⟨dx3,hx3⟩:=id (rw2.same su);refine⟨_,rfl,y,CK _,_,_,_,rfl,hx3,T.cl _,T.nG _,dR _ _ _,by show 2<=sizeLine;decide,fun t ht=>?_⟩;rw[show (k,(e.2.1:Int),(e.2.2:Int),q').2.2.1=(e.2.2:Int) from rfl];have st:=aH ht (.tup [.ref u,.int (e.2.2:Int)]);have et:SqT K (upd H3 t (.tup [.ref u,.int (e.2.2:Int)])) t [.ref u,.int (e.2.2:Int)]:=SqT.of aB;generalize upd H3 t (.tup [.ref u,.int (e.2.2:Int)])=H4 at st et ⊢;have s24:=su.trans st;have e4:=s24 _ _ e2;refine⟨l,_,_,rfl,rfl,e4,bF (by omega),⟨(s2.trans s24).change hl,_,_,_,rfl,aB,?_⟩⟩;rw[tk];exact Sds.upd e4 ((S2.same s24).app (.cons et (st.seqT eu) .nil))
  ·refine ifF (decide_eq_false (fun z=>c1 (by have:(e.2.1:Int)=(p:Int):=(by injection z);omega))) ?_;refine⟨_,rfl,y,CK _,_,_,_,rfl,hx2,T.cl _,T.nG _,dR _ _ _,_,rfl,rfl,_,rfl,?_⟩
   by_cases c2:e.2.2=p
   ·have tk:stF (es.take (i+1)) p=stF (es.take i) p++[((e.1,-1),e.2.1)]:=by
     unfold stF;rw[List.take_add_one,he,List.filterMap_append];show _++[e].filterMap _=_;rw[List.filterMap_cons,if_neg c1,if_pos c2];rfl
    refine ifT (decide_eq_true (by rw[c2])) ?_;refine⟨_,rfl,.inl ⟨rfl,_,SqL.of e2⟩,_,rfl,_,rfl,by show 2<=sizeLine;decide,fun u hu'=>?_⟩;have su:=aH hu' (.tup [.int (e.1:Int),.int (-1)]);have eu:SqT K (upd H2 u (.tup [.int (e.1:Int),.int (-1)])) u [.int (e.1:Int),.int (-1)]:=SqT.of aB;generalize upd H2 u (.tup [.int (e.1:Int),.int (-1)])=H3 at su eu ⊢;obtain⟨dx3,hx3⟩:=id (rw2.same su);refine⟨_,rfl,y,CK _,_,_,_,rfl,hx3,T.cl _,T.nS _,dD _ _ _,by show 2<=sizeLine;decide,fun t ht=>?_⟩;rw[show (k,(e.2.1:Int),(e.2.2:Int),q').2.1=(e.2.1:Int) from rfl];have st:=aH ht (.tup [.ref u,.int (e.2.1:Int)]);have et:SqT K (upd H3 t (.tup [.ref u,.int (e.2.1:Int)])) t [.ref u,.int (e.2.1:Int)]:=SqT.of aB;generalize upd H3 t (.tup [.ref u,.int (e.2.1:Int)])=H4 at st et ⊢;have s24:=su.trans st;have e4:=s24 _ _ e2;refine⟨l,_,_,rfl,rfl,e4,bF (by omega),⟨(s2.trans s24).change hl,_,_,_,rfl,aB,?_⟩⟩;rw[tk];exact Sds.upd e4 ((S2.same s24).app (.cons et (st.seqT eu) .nil))
   ·have tk:stF (es.take (i+1)) p=stF (es.take i) p:=by
     unfold stF;rw[List.take_add_one,he,List.filterMap_append];show _++[e].filterMap _=_;rw[List.filterMap_cons,if_neg c1,if_neg c2];simp
    refine ifF (decide_eq_false (fun z=>c2 (by have:(e.2.2:Int)=(p:Int):=(by injection z);omega))) ⟨s2,ys,_,_,rfl,e2,?_⟩;rw[tk];exact S2
 rintro σ H2 ⟨s2,ys,z4,z5,rfl,e2,S2⟩;rw[List.length_map,List.take_length] at S2;exact⟨_,rfl,q l ys H2 s2 hl e2 S2⟩
theorem Vj {m:Nat}{es:List Br}{b:Nat}(hm:Ptm m es)(hb:b < m)(h20:m<=20){w:WS}(nd:(cA w).Nodup)(pt:∀x st,(x,st)∈w->∃pts,Pt es b st x pts/\∀y∈pts,y∈cA w){st:List Stp}{x:Nat}{pts:List Nat}(p:Pt es b st x pts)(k:∀y∈pts,y∈cA w):st.length<=20:=by
 have l:pts.length=st.length+1:=by
  induction p with
  |nil=>rfl
  |snoc h g n ih=>rw[List.length_append,List.length_append,ih fun y hy=>k y (List.mem_append_left _ hy)];rfl
 have nd':pts.Nodup:=by
  clear k l
  induction p with
  |nil=>simp
  |snoc h g n ih=>
   rw[List.nodup_append];refine⟨ih,by simp,fun x hx y hy z=>n ?_⟩;rw[List.mem_singleton] at hy;rw[<- hy,<- z];exact hx
 have:=Fx nd' fun y hy=>xL hm hb pt y (k y hy);omega
theorem Vg {es:List Br}{b p m j:Nat}{T:List (Stp × Nat)}{s:WS × List Nat}(hm:Ptm m es)(hb:b < m)(h20:m<=20)(h:WJ es b p [] s)(g:∀t∈T,oZ es t.1 p t.2):((T.take j).foldl (inF p) s).2.length<=muF s:=by
 have:=xQ hm hb h20 (T.take j) [] h fun t ht=>g t (List.mem_of_mem_take ht);unfold muF at this ⊢;omega
def muW (σ:St)(H:Hp):Nat:=match σ with
 | [_,_,_,_,some (.ref D),some (.ref W),_,_]=>match H D,H W with
  |some (.dK kvs),some (.lst q)=>2*(20 - kvs.length)+q.length
  |_,_=>0
 |_=>0
theorem Me {H:Hp}{D W:Addr}{kvs:List (Key × V)}{q:List V}{a b c d e f:Option V}(h:H D=some (.dK kvs))(g:H W=some (.lst q)):muW [a,b,c,d,some (.ref D),some (.ref W),e,f] H=2*(20 - kvs.length)+q.length:=by
 show (match H D,H W with | some (.dK kvs),some (.lst q)=>2*(20 - kvs.length)+q.length | _,_=>0)=_;rw[h,g]
theorem Kr {q:List Nat}(h:q≠[]):(q.map fun (p:Nat)=>V.int (p:Int))[((q.map fun (p:Nat)=>V.int (p:Int))).length - 1]?=some (.int ((q.getLastD 0:Nat):Int))/\(q.map fun (p:Nat)=>V.int (p:Int)).dropLast=(q.dropLast.map fun (p:Nat)=>V.int (p:Int)):=by
 obtain⟨_,e⟩:=Fv h;generalize q.getLastD 0=x at e;generalize q.dropLast=r at e;subst e;rw[List.map_append];simp
abbrev Ja:Stmt:=top 31
theorem zW:aT ["rows","numbers","begin","end","ways","waiting","point","step"] ["rows","numbers","begin","end"] (aE Ja):=⟨rfl,rfl,rfl,by decide +kernel,rfl,by decide +kernel,by decide +kernel⟩
theorem Tg {dV:Value}(F:bZ K "way_along" "way_along" Ja dV f fd)(ml:mg "len"=none)(G1:aQ P w K mg base CX0 1 g1 gd1 ["rows","numbers","point"] (Dy K CK))(b1:aS K gd1 ["rows","numbers","point"] [])(k1:PySem.W.keepIn K (.ref g1)=true)(m1:mg "steps_from"=some (.ref g1)) :
  aQ P w K mg base CX 2 f fd ["rows","numbers","begin","end"] (Rs K CK):=by
 refine F.ok zW (fun vs H Q E h=>?_) (fun cdv A outer s H vs Q E hr h=>?_)
 ·obtain⟨a,b,xs,ds,es,m,f,t,rfl,hA,Rb,hB,hE,h100,hm,h20,hf,qN,qS⟩:=h;rfl
 obtain⟨a,b,xs,ds,es,m,f,t,rfl,hA,Rb,hB,hE,h100,hm,h20,hf,qN,qS⟩:=h;refine⟨_,(aC (aW (i:=4) zW.nd rfl (Or.inl rfl) (Ei (lD (pv 2) (cV aD) Fj) rfl rfl (by simp) (by decide)))
  (aC (aW (i:=5) zW.nd rfl (Or.inl rfl) (cV (aA (pv 2) aD)))
  (aC (rS PassesOwn.never (bK Ew (bO bH rfl ml PySem.boot_len (aA (pv 5) aD)) aF (bM _))
   (aC (aW (i:=6) zW.nd rfl (Or.inl rfl) (Up PySem.F.plainAttrs_list PySem.F.slot_list_pop PySem.F.type_list_pop Ug (pv 5)))
   (aG (eU PassesOwn.never rfl (cS (aI G1 hr rfl m1 k1 b1 .nil aM (aA (pv 0) (aA (pv 1) (aA (pv 6) aD))))) (aZ (i:=7) zW.nd rfl (Or.inl rfl))
    (aG (cE (yV (Gw (Ap hr) (aP aX (pv 7) aF (fun _ _=>rfl)) (pv 4)))
     (aC (Pa (Ap hr) (pv 4) (aP aX (pv 7) aF (fun _ _=>rfl)) (aY kX (rJ (Ap hr) (pv 4) (pv 6) (fun _ _=>rfl)) (cV (aA (aP aX (pv 7) aF (fun _ _=>rfl)) aD))) rfl)
     (aG (bV (nX PySem.F.plainAttrs_list PySem.F.slot_list_append PySem.F.type_list_append fX (pv 5) (aA (aP aX (pv 7) aF (fun _ _=>rfl)) aD)))))
     bN))))))
  (aG (bA (Jj (Ap hr) (pv 4) (pv 3) ⟨rfl,rfl,rfl,rfl⟩)))))),?_⟩
 refine fun D hD=>?_;have sD:=aH hD (.dK []);have eD:upd H D (.dK []) D=some (.dK []):=aB;generalize upd H D (.dK [])=H1 at sD eD ⊢;refine⟨_,rfl,by show 0<=sizeLine;decide,fun L hL=>?_⟩;have nLD:L≠D:=Ne.symm (aU eD hL);have nL:H L=none:=sD.free hL;have sL:=aH hL (.lst []);have eL:upd H1 L (.lst []) L=some (.lst []):=aB;generalize upd H1 L (.lst [])=H2 at sL eL ⊢;refine⟨sL _ _ eD,[((Sum.inl (f:Int):Key),V.ref L)],rfl,by show 1<=15;decide,?_⟩;have s3:bG H (upd H2 D (.dK (iX [] [((Sum.inl (f:Int):Key),V.ref L)]))):=(sD.trans sL).change hD;have e3:upd H2 D (.dK (iX [] [((Sum.inl (f:Int):Key),V.ref L)])) D=some (.dK [((Sum.inl (f:Int):Key),V.ref L)]):=aB;have eL3:upd H2 D (.dK (iX [] [((Sum.inl (f:Int):Key),V.ref L)])) L=some (.lst []):=by rw[bC nLD];exact eL
 generalize upd H2 D (.dK (iX [] [((Sum.inl (f:Int):Key),V.ref L)]))=H3 at s3 e3 eL3 ⊢;refine⟨_,rfl,by show 1<=sizeLine;decide,fun W hW=>?_⟩;have nLW:L≠W:=aU eL3 hW;have nDW:D≠W:=aU e3 hW;have nW:H W=none:=s3.free hW;have sW:=aH hW (.lst [.int (f:Int)]);have eW:upd H3 W (.lst [.int (f:Int)]) W=some (.lst [.int (f:Int)]):=aB;generalize upd H3 W (.lst [.int (f:Int)])=H4 at sW eW ⊢;have s4:=s3.trans sW;have w4:Wys K H W H4 [((Sum.inl (f:Int):Key),V.ref L)] (cC es f 0).1:=.cons nL nLW (sW _ _ eL3) .nil .nil;refine tY (fun σ H'=>bG H H'/\∃(i:Nat) (kvs:List (Key × V)) (z6 z7:Option V),σ=[some (.ref a),some (.ref b),some (.int (f:Int)),some (.int (t:Int)),some (.ref D),some (.ref W),z6,z7]/\H' D=some (.dK kvs)/\H' W=some (.lst ((cC es f i).2.map fun (p:Nat)=>V.int (p:Int)))/\Wys K H W H' kvs (cC es f i).1/\i<=40) muW ⟨s4,0,_,none,none,rfl,sW _ _ e3,eW,w4,by omega⟩ ?_ ?_
 ·rintro σ H5 ⟨s5,i,kvs,z6,z7,rfl,e5,q5,w5,hi⟩;have lk:=w5.length;have wi:=jS es f i;have le20:=Lc hm hf wi.nd wi.pt;refine⟨_,rfl,W,_,rfl,.inl (SqL.of q5),_,_,rfl,rfl,_,rfl,?_⟩
  by_cases hq:(cC es f i).2=[]
  ·-- it ends
   rw[hq] at q5;refine ifF (by rw[hq];rfl) ?_;have e60:=Pd hq (by omega);refine⟨_,rfl,D,rfl,.inl ⟨kvs,.inl e5⟩,_,rfl,_,jE.k (k:=Sum.inl (t:Int)) e5,?_⟩
   by_cases c:t∈cA (cC es f i).1
   ·obtain⟨l,ys,st,ev,eg,nl,_,hl,f'⟩:=w5.some_ c;rw[ev];refine qS st ?_ l ys H5 s5 nl hl f';unfold sU;rw[e60];exact eg
   ·rw[(w5.none_ c).1];refine qN ?_ H5 s5;unfold sU;rw[e60];exact qG c
  ·have mu0:=Me (a:=some (.ref a)) (b:=some (.ref b)) (c:=some (.int (f:Int))) (d:=some (.int (t:Int))) (e:=z6) (f:=z7) e5 q5;have hi39:i+muF (cC es f i)<=39:=by
    rcases pL hm hf h20 i with z | z
    ·exact absurd z hq
    ·exact z
   have stp:cC es f (i+1)=(stF es ((cC es f i).2.getLastD 0)).foldl (inF ((cC es f i).2.getLastD 0)) ((cC es f i).1,(cC es f i).2.dropLast):=by
    show kC es (cC es f i)=_;unfold kC;rw[if_neg hq]
   have gY:=Dg hm hf h20 wi hq;have gY:muF (cC es f (i+1))+1<=muF (cC es f i):=gY;have wj0:=rZ wi hq;have pk:=wj0.kp;obtain⟨ml1,ml2⟩:=Kr hq;generalize hp:(cC es f i).2.getLastD 0=p at *
   have ll:0 < ((cC es f i).2.map fun (p:Nat)=>V.int (p:Int)).length:=by rw[List.length_map];exact List.length_pos_iff.mpr hq
   refine ifT (by show decide (0 < ((((cC es f i).2.map fun (p:Nat)=>V.int (p:Int)).length:Nat):Int))=true;exact decide_eq_true (by omega)) ?_;refine⟨_,rfl,.inl ⟨rfl,_,SqL.of q5⟩,W,_,_,rfl,rfl,q5,ml1,?_⟩;rw[ml2];have s6:bG H (upd H5 W (.lst ((cC es f i).2.dropLast.map fun (p:Nat)=>V.int (p:Int)))):=s5.change nW;have e6:upd H5 W (.lst ((cC es f i).2.dropLast.map fun (p:Nat)=>V.int (p:Int))) D=some (.dK kvs):=by rw[bC nDW];exact e5
   have q6:upd H5 W (.lst ((cC es f i).2.dropLast.map fun (p:Nat)=>V.int (p:Int))) W=some (.lst ((cC es f i).2.dropLast.map fun (p:Nat)=>V.int (p:Int))):=aB;have w6:=w5.updW (o:=.lst ((cC es f i).2.dropLast.map fun (p:Nat)=>V.int (p:Int))) q5;generalize upd H5 W (.lst ((cC es f i).2.dropLast.map fun (p:Nat)=>V.int (p:Int)))=H6 at s6 e6 q6 w6 ⊢;refine⟨_,rfl,_,rfl,_,rfl,a,b,xs,ds,es,p,rfl,s6.seq hA,Rb.same s6,s6.seq hB,hE,h100,fun l ys H7 s7 nl el S7=>?_⟩;have s07:=s6.trans s7;have nlW:l≠W:=Ne.symm (aU q6 nl);have nlD:l≠D:=Ne.symm (aU e6 nl);have nlH:H l=none:=s6.free nl;have lys:=S7.length;refine⟨l,rfl,⟨_,SqL.of el⟩,?_⟩;refine gB (xs:=ys) (fun j σ H'=>bG H H'/\H' l=some (.lst ys)/\Sds K H' ys (stF es p)/\∃(kvs:List (Key × V)) (z7:Option V),σ=[some (.ref a),some (.ref b),some (.int (f:Int)),some (.int (t:Int)),some (.ref D),some (.ref W),some (.int (p:Int)),z7]/\H' D=some (.dK kvs)/\H' W=some (.lst ((((stF es p).take j).foldl (inF p) ((cC es f i).1,(cC es f i).2.dropLast)).2.map fun (p:Nat)=>V.int (p:Int)))/\Wys K H W H' kvs (((stF es p).take j).foldl (inF p) ((cC es f i).1,(cC es f i).2.dropLast)).1) ⟨s07,el,S7,kvs,z7,rfl,s7 _ _ e6,s7 _ _ q6,w6.same s7⟩ (fun j σ H' _ h=>SqL.of h.2.1) ?_ ?_
   ·rintro j x σ H8 hx ⟨s8,el8,S8,kv8,z7',rfl,e8,q8,w8⟩;obtain⟨tt,u,s,rfl,es',hT,hU⟩:=S8.get hx;have hj:j < (stF es p).length:=(List.getElem?_eq_some_iff.mp es').1;have gs:oZ es s.1 p s.2:=kO (List.mem_of_getElem? es');have wj:=yS ((stF es p).take j) [] wj0 fun z hz=>kO (List.mem_of_mem_take hz);have fold1:((stF es p).take (j+1)).foldl (inF p) ((cC es f i).1,(cC es f i).2.dropLast)=inF p (((stF es p).take j).foldl (inF p) ((cC es f i).1,(cC es f i).2.dropLast)) s:=by
     rw[List.take_add_one,es',List.foldl_append];rfl
    rw[fold1];have wj':=Fu wj gs;have le8:=Lc hm hf wj.nd wj.pt;have lS:=Vg hm hf h20 wj0 (j:=j) (T:=stF es p) (fun z hz=>kO hz);have mb:=zJ hq;generalize ((stF es p).take j).foldl (inF p) ((cC es f i).1,(cC es f i).2.dropLast)=S at q8 w8 wj wj' le8 lS ⊢;have lS2:S.2.length<=100:=by omega
    have lk8:=w8.length;obtain⟨⟨sn,sw⟩,sx⟩:=s;have hT:SqT K H8 tt [.ref u,.int (sx:Int)]:=hT;refine⟨_,rfl,tt,_,1,_,rfl,rfl,hT,rfl,_,rfl,D,_,rfl,jE.k (k:=Sum.inl (sx:Int)) e8,_,rfl,?_⟩
    by_cases c:sx∈cA S.1
    ·refine ifF (by rw[w8.isSome,decide_eq_true c];rfl) ⟨s8,el8,S8,kv8,_,rfl,e8,?_,?_⟩
     ·show H8 W=some (.lst ((inF p S ((sn,sw),sx)).2.map fun (p:Nat)=>V.int (p:Int)));unfold inF;rw[if_pos c];exact q8
     ·show Wys K H W H8 kv8 (inF p S ((sn,sw),sx)).1;unfold inF;rw[if_pos c];exact w8
    ·refine ifT (by rw[w8.isSome,decide_eq_false c];rfl) ?_;obtain⟨ap,xp,sp,ev,eg,nap,nwp,hap,fp⟩:=w8.some_ wj.kp;have lsp:=fp.length;have lsp2:sp.length<=20:=by
      obtain⟨pts,pt1,pt2⟩:=wj.pt p sp (gK eg);exact Vj hm hf h20 wj.nd wj.pt pt1 pt2
     refine⟨_,rfl,_,rfl,D,.ref ap,rfl,(by have:=jE.k (k:=Sum.inl (p:Int)) e8;rw[ev] at this;exact this),?_⟩;refine⟨_,rfl,tt,_,0,_,rfl,rfl,hT,rfl,by show 1<=sizeLine;decide,fun L1 hL1=>?_⟩;have s9:=aH hL1 (.lst [.ref u]);have e9:upd H8 L1 (.lst [.ref u]) L1=some (.lst [.ref u]):=aB;generalize upd H8 L1 (.lst [.ref u])=H9 at s9 e9 ⊢;refine⟨ap,L1,_,_,rfl,rfl,s9 _ _ hap,e9,by rw[sizeLine_eq];simp only[List.length_cons,List.length_nil];omega,fun C hC=>?_⟩;have nC8:H8 C=none:=s9.free hC;have sA:=aH hC (.lst (xp++[.ref u]));have eA:upd H9 C (.lst (xp++[.ref u])) C=some (.lst (xp++[.ref u])):=aB;generalize upd H9 C (.lst (xp++[.ref u]))=HA at sA eA ⊢;have s8A:=s9.trans sA;have nCW:C≠W:=Ne.symm (aU q8 nC8);have nCD:C≠D:=Ne.symm (aU e8 nC8);have eDA:=s8A _ _ e8;refine⟨_,rfl,_,rfl,tt,_,1,_,rfl,rfl,s8A.seqT hT,rfl,D,_,rfl,Ka.k (k:=Sum.inl (sx:Int)) eDA (by rw[sizeLine_eq];omega),?_⟩;have put:kW kv8 (Sum.inl (sx:Int)) (.ref C)=kv8++[(Sum.inl (sx:Int),.ref C)]:=by unfold kW;rw[if_neg (by rw[(w8.none_ c).2];simp)]
     rw[put];have eB:upd HA D (.dK (kv8++[(Sum.inl (sx:Int),.ref C)])) D=some (.dK (kv8++[(Sum.inl (sx:Int),.ref C)])):=aB;have qB:upd HA D (.dK (kv8++[(Sum.inl (sx:Int),.ref C)])) W=some (.lst (S.2.map fun (p:Nat)=>V.int (p:Int))):=by rw[bC (Ne.symm nDW)];exact s8A _ _ q8
     have sB:bG H (upd HA D (.dK (kv8++[(Sum.inl (sx:Int),.ref C)]))):=(s8.trans s8A).change hD;have wB:Wys K H W (upd HA D (.dK (kv8++[(Sum.inl (sx:Int),.ref C)]))) (kv8++[(Sum.inl (sx:Int),.ref C)]) (S.1++[(sx,sp++[(sn,sw)])]):=
      Wys.snoc (s8.free nC8) nCW (by rw[bC nCD];exact eA) (((fp.same s8A).app (.cons (s8A.seqT hU) .nil)).updD eDA) ((w8.same s8A).updD eDA)
     have elB:upd HA D (.dK (kv8++[(Sum.inl (sx:Int),.ref C)])) l=some (.lst ys):=by rw[bC nlD];exact s8A _ _ el8
     have SB:=(S8.same s8A).updD (o:=.dK (kv8++[(Sum.inl (sx:Int),.ref C)])) eDA;have hTB:=SqT.updD (o:=.dK (kv8++[(Sum.inl (sx:Int),.ref C)])) (s8A.seqT hT) eDA;generalize upd HA D (.dK (kv8++[(Sum.inl (sx:Int),.ref C)]))=HB at eB qB sB wB elB SB hTB ⊢;refine⟨_,rfl,.inl ⟨rfl,_,SqL.of qB⟩,_,rfl,tt,_,1,_,rfl,rfl,hTB,rfl,W,_,_,rfl,rfl,qB,bF (by rw[List.length_map];omega),?_⟩;have inE:inF p S ((sn,sw),sx)=(S.1++[(sx,sp++[(sn,sw)])],S.2++[sx]):=by
      unfold inF;rw[if_neg c,eg];rfl
     rw[inE];refine⟨sB.change nW,by rw[bC nlW];exact elB,SB.upd qB,_,_,rfl,by rw[bC nDW];exact eB,?_,wB.updW qB⟩;rw[aB,List.map_append];rfl
   ·rintro σ H8 ⟨s8,el8,S8,kv8,z7',rfl,e8,q8,w8⟩;rw[lys,List.take_length,<- stp] at q8 w8;have lk8:=w8.length;refine⟨⟨s8,i+1,kv8,_,_,rfl,e8,q8,w8,by omega⟩,?_⟩;rw[mu0,Me e8 q8,List.length_map,List.length_map,lk,lk8];unfold muF at gY;omega
 ·rintro σ H Q Q' mono ⟨v,h1,p',ys,h2,h3,i,j,h4,h5,k,h6,h7⟩;exact⟨v,h1,p',ys,h2,h3,i,j,h4,h5,k,h6,mono _ _ h7⟩
theorem Ry {ds:List RD}{i:Nat}{d:RD}(h:ds[i]?=some d):(skl ds)[i]?=some (d.1,d.2.1.toNat,d.2.2.1.toNat):=by unfold skl;rw[List.getElem?_map,h];rfl
theorem Lg (ds:List RD):(skl ds).length=ds.length:=by unfold skl;rw[List.length_map]
theorem Xc {m:Nat}{ds:List RD}(pt:∀d∈ds,cT (m:Int) d.2.1 d.2.2.1):∀d∈skl ds,d.2.1 < m/\d.2.2 < m:=fun d hd=>by
 obtain⟨e,he,rfl⟩:=List.mem_map.mp hd;obtain⟨i0,i1,j0,j1⟩:=pt e he;exact⟨by show e.2.1.toNat < m;omega,by show e.2.2.1.toNat < m;omega⟩
theorem Pn {W:Kd->Bool}{m n:Nat}{ds:List RD}{s:RS}(pt:∀d∈ds,cT (m:Int) d.2.1 d.2.2.1)(h:RI W (skl ds) m n s):Tm ds s.1:=fun e he=>by
 obtain⟨k,hk⟩:=h.at_ e he;have hl:e.1 < ds.length:=by have:=(List.getElem?_eq_some_iff.mp hk).1;rwa [Lg] at this
 have hd:ds[e.1]?=some ds[e.1]:=List.getElem?_eq_getElem hl;rw[Ry hd] at hk;obtain⟨i0,i1,j0,j1⟩:=pt _ (List.mem_of_getElem? hd);refine⟨_,hd,?_,?_⟩
 ·have:ds[e.1].2.1.toNat=e.2.1:=by injection hk with z;injection z with _ z;injection z
  omega
 ·have:ds[e.1].2.2.1.toNat=e.2.2:=by injection hk with z;injection z with _ z;injection z
  omega
theorem Na {W:Kd->Bool}{sk:List Sk}:∀n,(fD W sk n).1.length<=n
 |0=>Nat.le_refl _
 |n+1=>by
  have ih:=Na (W:=W) (sk:=sk) n
  cases h:sk[n]? with
  |none=>show (match sk[n]? with | none=>fD W sk n | some d=>iJ W (fD W sk n) n d).1.length<=n+1;rw[h];show (fD W sk n).1.length<=n+1;omega
  |some d=>
   rw[iH h];generalize fD W sk n=s at ih;unfold iJ;split
   ·split
    ·show (s.1++[(n,d.2.1,d.2.2)]).length<=n+1;rw[List.length_append];simp only[List.length_cons,List.length_nil];omega
    ·show s.1.length<=n+1;omega
   ·omega
def WdA (K:PySem.W.Frag)(H:Hp)(v:V)(W:Kd->Bool):Prop:=∃(p:Addr) (ws:List V),v=.ref p/\(SqL K H p ws\/SqT K H p ws)/\ws.all mO=true/\∀k:Kd,inV (.str k.wd) ws=W k
theorem WdA.same {K:PySem.W.Frag}{H H':Hp}{v:V}{W:Kd->Bool}(e:bG H H')(h:WdA K H v W):WdA K H' v W:=by
 obtain⟨p,ws,h1,h2,h3⟩:=h;refine⟨p,ws,h1,?_,h3⟩;rcases h2 with z | z
 ·exact .inl (e.seq z)
 ·exact .inr (e.seqT z)
theorem Vq (k:Kd):inV (.str k.wd) [.str "piece",.str "hold"]=decide (k≠.pu):=by cases k<;>decide
abbrev hJ:Stmt:=top 30
theorem iS:aT ["net","words","wanted","rows","branches","found","number","row","back"] ["net","words"] (aE hJ):=⟨rfl,rfl,rfl,by decide +kernel,rfl,by decide +kernel,by decide +kernel⟩
theorem Np {dV:Value}(F:bZ K "rings" "rings" hJ dV f fd){CN aJ:Addr}(NTx:NT K mg CN)(T:RT K mg CR CK)(men:mg "enumerate"=none)(fJ:∀H,SqT K H aJ [.str "piece",.str "hold"])(mJO:mg "JOINING_WORDS"=some (.ref aJ))(GW:∀k,aQ P w K mg base CX0 1 (fW k) (fdW k) ["self"] (jV k))(bW:∀k,aS K (fdW k) ["self"] [])(mW:∀k,gH K (CK k) "word" (fW k)){gRo:Addr}{gdRo:FuncData}(GRo:aQ P w K mg base CX0 4 gRo gdRo ["self"] (pB CN K CK))(bRo:aS K gdRo ["self"] [])(mRo:gH K CN "rows" gRo)(G1:aQ P w K mg base CX0 2 g1 gd1 ["rows","numbers","begin","end"] (Rs K CK))(b1:aS K gd1 ["rows","numbers","begin","end"] [])(k1:PySem.W.keepIn K (.ref g1)=true)(m1:mg "way_along"=some (.ref g1)) :
  aQ P w K mg base CX 5 f fd ["net","words"] (Ee CN K):=by
 refine F.ok iS (fun vs H Q E h=>?_) (fun cdv A outer s H vs Q E hr h=>?_)
 ·obtain⟨n,l,v,m,ds,W,rfl,nt,pt,h20,h40,hW,q⟩:=h;rfl
 obtain⟨n,l,v,m,ds,W,rfl,nt,pt,h20,h40,hW,q⟩:=h;have r1:=hr.mono (show 1<=4 by omega);have r2:=hr.mono (show 2<=4 by omega);refine⟨_,(aC (aW (i:=2) iS.nd rfl (Or.inl rfl) (oV (yV (Bw (pv 1))) (dB (v:=.ref aJ) rfl mJO rfl) (pv 1)))
  (aC (aW (i:=3) iS.nd rfl (Or.inl rfl) (fM (pv 0) NTx.cl mRo GRo hr bRo .nil aM))
  (aC (aW (i:=4) iS.nd rfl (Or.inl rfl) (cV aD))
  (aC (aW (i:=5) iS.nd rfl (Or.inl rfl) (cV aD))
  (aC (eU PassesOwn.never rfl (xS rfl men rfl (aA (pv 3) aD)) (jA rfl (bU (aZ (i:=6) iS.nd rfl (Or.inl rfl)) (bU (aZ (i:=7) iS.nd rfl (Or.inl rfl)) gS)))
   (aG (cE (bK Gm (fV (pv 7) T.cl mW GW r1 bW .nil aM) (pv 2) rfl) (aC (aW (i:=8) iS.nd rfl (Or.inl rfl) (aI G1 r2 rfl m1 k1 b1 .nil aM (aA (pv 3) (aA (pv 4) (aA (cG (pv 7) rfl) (aA (cG (pv 7) rfl) aD))))))
  (aG (cE (yV (Bw (pv 8))) (aG (bV (nX PySem.F.plainAttrs_list PySem.F.slot_list_append PySem.F.type_list_append fX (pv 4) (aA (pv 6) aD)))) (aG (bV (nX PySem.F.plainAttrs_list PySem.F.slot_list_append PySem.F.type_list_append fX (pv 5) (aA (aY kX (cV (aA (cX (aA (pv 6) (aA aF aD))) aD)) (pv 8)) aD))))))) bN)))
  (aG (bA (pv 5)))))))),?_⟩
 refine Cd (fun σ' H'=>H'=H/\∃wv,σ'=[some (.ref n),some v,some wv,none,none,none,none,none,none]/\WdA K H wv W) (fun X hX=>?_) ?_
 ·cases hW with
  |non=>exact⟨_,rfl,_,rfl,ifT rfl (hX _ _ ⟨rfl,_,rfl,aJ,_,rfl,.inr (fJ H),rfl,Vq⟩)⟩
  | @seq a ws h f=>exact⟨_,rfl,_,rfl,ifF rfl ⟨_,rfl,hX _ _ ⟨rfl,_,rfl,a,_,rfl,.inl h,f,fun _=>rfl⟩⟩⟩
 rintro σ' H' ⟨hH',wv,rfl,hw⟩;subst hH';obtain⟨dx,hn⟩:=nt.ob;refine⟨_,rfl,n,dx,_,rfl,hn,dM _ _ (by decide +kernel) (by decide +kernel),n,l,_,ds,rfl,nt,by omega,fun a xs H1 s1 na ea Rb=>?_⟩;have lxs:=Rb.length;refine⟨by show 0<=sizeLine;decide,fun B hB=>?_⟩;have nB:H' B=none:=s1.free hB;have sB:=aH hB (.lst []);have eB:upd H1 B (.lst []) B=some (.lst []):=aB;generalize upd H1 B (.lst [])=H2 at sB eB ⊢;refine⟨by show 0<=sizeLine;decide,fun F hF=>?_⟩;have nF:H' F=none:=(s1.trans sB).free hF;have nBF:B≠F:=aU eB hF;have sF:=aH hF (.lst []);have eF:upd H2 F (.lst []) F=some (.lst []):=aB;generalize upd H2 F (.lst [])=H3 at sF eF ⊢;have s3:=s1.trans (sB.trans sF);have ea3:=(sB.trans sF) _ _ ea;have naB:a≠B:=aU ea hB;have naF:a≠F:=aU (sB _ _ ea) hF;have sk:=Lg ds;have slt:=Xc pt;have s13:=sB.trans sF;refine⟨_,rfl,a,rfl,⟨_,SqL.of ea3⟩,?_⟩;have nB1:H1 B=none:=hB;have nF1:H1 F=none:=sB.free hF;refine Kt (xs:=xs) (fun i σ HH=>bG H1 HH/\∃(us:List V) (z6 z7 z8:Option V),σ=[some (.ref n),some v,some wv,some (.ref a),some (.ref B),some (.ref F),z6,z7,z8]/\HH B=some (.lst ((fD W (skl ds) i).1.map fun (e:Br)=>V.int ((e.1:Nat):Int)))/\HH F=some (.lst us)/\Rgs K H' HH us ((fD W (skl ds) i).2.map (·.2))/\∀x∈us,x≠.ref F/\x≠.ref B) ⟨s13,[],none,none,none,rfl,sF _ _ eB,eF,.nil,fun x hx=>(by cases hx)⟩ (fun i σ HH _ h=>h.1.seq (SqL.of ea)) ?_ ?_
 ·rintro i x σ H4 T2 hx ⟨s4,us,z6,z7,z8,rfl,eB4,eF4,G4,nx4⟩ hT;have hi:i < ds.length:=by
   have:=(List.getElem?_eq_some_iff.mp hx).1;omega
  obtain⟨⟨k0,u,v0,p0⟩,hd⟩:∃d,ds[i]?=some d:=⟨_,List.getElem?_eq_getElem hi⟩
  obtain⟨y,z,ey,rw0,fz0⟩:=Rb.at hd;have ex:x=.ref y:=by rw[ey] at hx;exact(Option.some.inj hx).symm
  subst ex;obtain⟨u0,u1,v1,v2⟩:cT (m:Int) u v0:=pt _ (List.mem_of_getElem? hd);obtain⟨uN,rfl⟩:∃n:Nat,u=(n:Int):=⟨u.toNat,by omega⟩
  obtain⟨vN,rfl⟩:∃n:Nat,v0=(n:Int):=⟨v0.toNat,by omega⟩
  have skd:(skl ds)[i]?=some (k0,uN,vN):=by
   have:=Ry hd
   rwa [show ((k0,(uN:Int),(vN:Int),p0):RD).2.1.toNat=uN from Int.toNat_natCast uN,show ((k0,(uN:Int),(vN:Int),p0):RD).2.2.1.toNat=vN from Int.toNat_natCast vN] at this
  have ri:=rW (W:=W) slt i (by omega);have bo:=Pn pt ri;have bl':=Na (W:=W) (sk:=skl ds) i;have gl:=G4.l;rw[List.length_map] at gl;have rl:=ri.rl;have succ:=iH (W:=W) skd;generalize fD W (skl ds) i=S at eB4 G4 ri bo bl' gl rl succ;have sT:=aH hT (.tup [.int (i:Int),.ref y]);refine⟨T2,_,rfl,SqT.of aB,rfl,_,_,rfl,_,_,rfl,rfl,?_⟩;have nT1:H1 T2=none:=s4.free hT;generalize upd H4 T2 (.tup [.int (i:Int),.ref y])=H5 at sT ⊢;have s5:=s4.trans sT;have eB5:=sT _ _ eB4;have eF5:=sT _ _ eF4;have G5:=G4.same sT;obtain⟨dr,hy⟩:=id (rw0.same s5);obtain⟨pw,ws,ew,hws,fl,hinv⟩:=hw.same (s1.trans s5);refine⟨_,rfl,k0,y,dr,_,rfl,hy,(eP _ _ _ (by decide +kernel) (by decide +kernel) (by decide +kernel)),_,rfl,_,rfl,pw,ws,ew,hws,rfl,fl,_,rfl,?_⟩;have hin:inV (.str k0.wd) ws=W k0:=hinv k0
  by_cases hk:W k0=true
  ·refine ifT (by show (if false=true then _ else inV (V.str k0.wd) ws)=true;rw[if_neg (by decide),hin];exact hk) ?_;refine⟨_,rfl,_,rfl,_,rfl,y,CK _,_,_,_,rfl,hy,T.cl _,T.nG _,dR _ _ _,_,rfl,y,CK _,_,_,_,rfl,hy,T.cl _,T.nS _,dD _ _ _,a,B,xs,ds,S.1,m,vN,uN,rfl,s5.seq (SqL.of ea),Rb.same s5,SqL.of eB5,bo,by omega,ri.pt,h20,by omega,fun hnone H6 s6=>?_,fun st hst l' ys H6 s6 nl el S6=>?_⟩
   ·refine⟨_,rfl,_,rfl,ifT rfl ?_⟩;have eB6:=s6 _ _ eB5;have s06:=s5.trans s6;refine⟨_,rfl,.inl ⟨rfl,_,SqL.of eB6⟩,_,rfl,B,_,_,rfl,rfl,eB6,bF (by rw[List.length_map];omega),?_⟩;have eS:iJ W S i (k0,uN,vN)=(S.1++[(i,uN,vN)],S.2):=by
     unfold iJ;rw[if_pos hk,hnone]
    rw[succ,eS];refine⟨s06.change nB1,us,_,_,_,rfl,?_,by rw[bC (Ne.symm nBF)];exact s6 _ _ eF5,(G5.same s6).updO eB6 (fun x hx=>(nx4 x hx).2),nx4⟩;rw[aB,List.map_append];rfl
   ·refine⟨_,rfl,_,rfl,ifF rfl ?_⟩;have eF6:=s6 _ _ eF5;have s06:=s5.trans s6;refine⟨_,rfl,.inl ⟨rfl,_,SqL.of eF6⟩,_,rfl,by show 2<=sizeLine;decide,fun t ht=>?_⟩;have st7:=aH ht (.tup [.int (i:Int),.int 1]);have et:SqT K (upd H6 t (.tup [.int (i:Int),.int 1])) t [.int (i:Int),.int 1]:=SqT.of aB;generalize upd H6 t (.tup [.int (i:Int),.int 1])=H7 at st7 et ⊢;refine⟨by show 1<=sizeLine;decide,fun L1 hL1=>?_⟩;have s8:=aH hL1 (.lst [.ref t]);have e8:upd H7 L1 (.lst [.ref t]) L1=some (.lst [.ref t]):=aB;generalize upd H7 L1 (.lst [.ref t])=H8 at s8 e8 ⊢;have lst':=vD ri.pt (show vN < m by omega) hst;have lys:=S6.length;refine⟨_,rfl,L1,l',_,_,rfl,rfl,e8,(st7.trans s8) _ _ el,by rw[sizeLine_eq];simp only[List.length_cons,List.length_nil];omega,fun C hC=>?_⟩;have nC8:H8 C=none:=hC;have s9:=aH hC (.lst ([.ref t]++ys));have e9:upd H8 C (.lst ([.ref t]++ys)) C=some (.lst ([.ref t]++ys)):=aB;generalize upd H8 C (.lst ([.ref t]++ys))=H9 at s9 e9 ⊢;have s69:=st7.trans (s8.trans s9);have eF9:=s69 _ _ eF6;have s09:=s06.trans s69;have nCF:C≠F:=Ne.symm (aU ((st7.trans s8) _ _ eF6) nC8);have nCB:C≠B:=Ne.symm (aU ((st7.trans s8) _ _ (s6 _ _ eB5)) nC8);refine⟨F,_,_,rfl,rfl,eF9,bF (by omega),?_⟩;have eS:iJ W S i (k0,uN,vN)=(S.1,S.2++[(i,(i,1) :: st)]):=by
     unfold iJ;rw[if_pos hk,hst]
    rw[succ,eS];have SC:Sts K H9 ([.ref t]++ys) ((i,1) :: st):=.cons ((s8.trans s9).seqT et) (S6.same s69);refine⟨s09.change nF1,us++[.ref C],_,_,_,rfl,by rw[bC nBF];exact s69 _ _ (s6 _ _ eB5),aB,?_,fun x hx=>?_⟩
    ·rw[List.map_append];have G9:=((G5.same s6).same s69).snoc (((s1.trans s06).trans (st7.trans s8)).free nC8) e9 SC;refine G9.updO eF9 fun x hx=>?_;rcases List.mem_append.mp hx with z | z
     ·exact(nx4 x z).1
     ·have:x=.ref C:=by simpa using z
      rw[this];exact fun z=>nCF (by injection z)
    ·rcases List.mem_append.mp hx with z | z
     ·exact nx4 x z
     ·have:x=.ref C:=by simpa using z
      rw[this];exact⟨fun z=>nCF (by injection z),fun z=>nCB (by injection z)⟩
  ·refine ifF (by show (if false=true then _ else inV (V.str k0.wd) ws)=false;rw[if_neg (by decide),hin];simpa using hk) ?_;have eS:iJ W S i (k0,uN,vN)=S:=by
    unfold iJ;rw[if_neg hk]
   rw[succ,eS];exact⟨s5,us,_,_,_,rfl,eB5,eF5,G5,nx4⟩
 rintro σ H4 ⟨s4,us,z6,z7,z8,rfl,eB4,eF4,G4,nx4⟩;rw[lxs] at G4;exact⟨_,rfl,q F us H4 (s1.trans s4) nF eF4 G4 fun x hx=>(nx4 x hx).1⟩
abbrev iE:Stmt:=eQ (top 36) 1
theorem Bf:aT ["self"] ["self"] (aE iE):=⟨rfl,rfl,rfl,by decide +kernel,rfl,by decide +kernel,by decide +kernel⟩
theorem Ad {dV:Value}(F:bZ K "joins" "Piece.joins" iE dV f fd):aQ P w K mg base CX 1 f fd ["self"] (oH .pc):=by
 refine F.ok Bf (fun vs H Q E h=>?_) (fun cdv A outer s H vs Q E hr h=>?_)
 ·obtain⟨x,rfl,_⟩:=h;rfl
 obtain⟨x,rfl,q⟩:=h;exact⟨_,(aG (bA iQ)),q⟩
abbrev iD:Stmt:=eQ (top 37) 1
theorem Bx:aT ["self"] ["self"] (aE iD):=⟨rfl,rfl,rfl,by decide +kernel,rfl,by decide +kernel,by decide +kernel⟩
theorem Af {dV:Value}(F:bZ K "joins" "Push.joins" iD dV f fd):aQ P w K mg base CX 1 f fd ["self"] (oH .pu):=by
 refine F.ok Bx (fun vs H Q E h=>?_) (fun cdv A outer s H vs Q E hr h=>?_)
 ·obtain⟨x,rfl,_⟩:=h;rfl
 obtain⟨x,rfl,q⟩:=h;exact⟨_,(aG (bA iQ)),q⟩
abbrev iF:Stmt:=eQ (top 38) 1
theorem Cs:aT ["self"] ["self"] (aE iF):=⟨rfl,rfl,rfl,by decide +kernel,rfl,by decide +kernel,by decide +kernel⟩
theorem zL {dV:Value}(F:bZ K "joins" "Hold.joins" iF dV f fd):aQ P w K mg base CX 1 f fd ["self"] (oH .ho):=by
 refine F.ok Cs (fun vs H Q E h=>?_) (fun cdv A outer s H vs Q E hr h=>?_)
 ·obtain⟨x,rfl,_⟩:=h;rfl
 obtain⟨x,rfl,q⟩:=h;exact⟨_,(aG (bA iQ)),q⟩
def zT (K:PySem.W.Frag)(CK:Kd->Addr):Sp:=fun vs H Q _=>∃(a x:Addr) (ms:List Int) (k:Kd) (s g:Nat) (z:V),vs=[.ref a,.ref x]/\SqL K H a (ms.map V.int)/\Rw CK H x k (.int (s:Int)) (.int (g:Int)) z/\s < ms.length/\g < ms.length/\ms.length<=100/\∀l H',bG H H'->H l=none->H' l=some (.lst ((jn ms s g).map V.int))->Q (.ref l) H'
def Du (CN:Addr)(K:PySem.W.Frag):Sp:=fun vs H Q _=>∃(n l:Addr) (m:Nat) (ds:List RD),vs=[.ref n]/\eJ CN K H n l (m:Int) ds/\(∀d∈ds,cT (m:Int) d.2.1 d.2.2.1)/\m<=20/\ds.length<=100/\∀l' H',bG H H'->H l'=none->H' l'=some (.lst ((mks m ds).map V.int))->Q (.ref l') H'
def Mp (m:Nat)(ds:List RD):List Int:=((List.range m).filter fun p=>decide (mk m ds p≠mk m ds 0)).map fun (p:Nat)=>(p:Int)
def Dp (CN:Addr)(K:PySem.W.Frag):Sp:=fun vs H Q _=>∃(n l:Addr) (m:Nat) (ds:List RD),vs=[.ref n]/\eJ CN K H n l (m:Int) ds/\(∀d∈ds,cT (m:Int) d.2.1 d.2.2.1)/\1<=m/\m<=20/\ds.length<=100/\∀l' H',bG H H'->H l'=none->H' l'=some (.lst ((Mp m ds).map V.int))->Q (.ref l') H'
theorem oO:(["mark","lost","kept"]:List Str).Nodup:=by decide +kernel
abbrev mB:Stmt:=top 29
theorem uJ:aT ["marks","row","kept","lost"] ["marks","row"] (aE mB):=⟨rfl,rfl,rfl,by decide +kernel,rfl,by decide +kernel,by decide +kernel⟩
theorem Ip {dV:Value}(F:bZ K "joined" "joined" mB dV f fd)(T:RT K mg CR CK) :
  aQ P w K mg base CX 1 f fd ["marks","row"] (zT K CK):=by
 refine F.ok uJ (fun vs H Q E h=>?_) (fun cdv A outer s H vs Q E hr h=>?_)
 ·obtain⟨a,x,ms,k,s0,g0,z,rfl,hS,rw,hs,hg,h100,q⟩:=h;rfl
 obtain⟨a,x,ms,k,s0,g0,z,rfl,hS,rw,hs,hg,h100,q⟩:=h;refine⟨_,(aC (aW (i:=2) uJ.nd rfl (Or.inr rfl) (aP bL (pv 0) (cG (pv 1) rfl) (fun _ _=>rfl)))
  (aC (aW (i:=3) uJ.nd rfl (Or.inr rfl) (aP bL (pv 0) (cG (pv 1) rfl) (fun _ _=>rfl)))
  (aG (bA (fH (nl:=1) (fr:=[3,2]) (Nc:=["mark","lost","kept"]) (cl:=[("lost",s.heap.objs.size+2),("kept",s.heap.objs.size+1)]) rfl ⟨rfl,rfl,by decide +kernel,by decide +kernel,(cP rfl (cP rfl (iB))),dS rfl,rfl,fun i n h=>match i,h with | 0,h=>by cases h;exact⟨3,rfl,rfl,rfl,rfl,.inl rfl⟩ | 1,h=>by cases h;exact⟨2,rfl,rfl,rfl,rfl,.inl rfl⟩ | k+2,h=>by rw[show 1+(k+2)=k+3 by omega] at h;cases h⟩
    (cS (pv 0)) (fun C s3 H3 fp pins=>(aZ (i:=0) oO rfl (Or.inl rfl))) (fun C s3 H3 fp pins=>dX)
    (fun C s3 H3 fp pins=>(oV (bK eE (pv 0) (pv 1) (bM _)) (pv 2) (pv 0)))))))),?_⟩
 obtain⟨dx,hx⟩:=id rw;have gi:∀{j:Nat},j < ms.length->atI (ms.map V.int) (j:Int)=some (.int (ms.getD j 0)):=fun h=>bQ (by rw[List.getElem?_map,List.getElem?_eq_getElem h,List.getD_eq_getElem?_getD,List.getElem?_eq_getElem h];rfl);refine⟨_,rfl,_,rfl,x,CK _,_,_,_,rfl,hx,T.cl _,T.nS _,dD _ _ _,a,_,_,_,rfl,rfl,hS,gi hs,?_⟩;refine⟨_,rfl,_,rfl,x,CK _,_,_,_,rfl,hx,T.cl _,T.nG _,dR _ _ _,a,_,_,_,rfl,rfl,hS,gi hg,?_⟩;refine⟨_,rfl,a,rfl,⟨_,hS⟩,fun D hD=>?_⟩;have sD:=aH hD (.lst []);refine dE (xs:=ms.map V.int) (fun i zs H'=>bG H H'/\H' D=some (.lst zs)/\zs=((jn ms s0 g0).take i).map V.int) ⟨sD,aB,rfl⟩ (fun i zs H' h=>h.2.1) (fun i zs H' _ h=>h.1.seq hS) ?_ ?_
 ·rintro i zs x H1 hx' ⟨s1,e1,rfl⟩ C hC;rw[List.getElem?_map] at hx';obtain⟨c,hc,rfl⟩:=Option.map_eq_some_iff.mp hx';have hi:i < ms.length:=(List.getElem?_eq_some_iff.mp hc).1;have ej:(jn ms s0 g0)[i]?=some (if c=ms.getD g0 0 then ms.getD s0 0 else c):=by unfold jn;rw[List.getElem?_map,hc];rfl
  have lj:(jn ms s0 g0).length=ms.length:=by unfold jn;rw[List.length_map]
  refine⟨dC.1,dC.2,fY ?_⟩;refine⟨_,rfl,_,rfl,rfl,_,rfl,?_⟩
  by_cases h:c=ms.getD g0 0
  ·rw[if_pos h] at ej;refine ifT (decide_eq_true (by rw[h])) ⟨_,rfl,e1,bF (by rw[List.length_map,List.length_take];omega),hC _ _ ⟨s1.change hD,aB,?_⟩⟩;rw[List.take_add_one,ej,List.map_append];rfl
  ·rw[if_neg h] at ej;refine ifF (decide_eq_false (fun z=>h (by injection z))) ⟨_,rfl,e1,bF (by rw[List.length_map,List.length_take];omega),hC _ _ ⟨s1.change hD,aB,?_⟩⟩;rw[List.take_add_one,ej,List.map_append];rfl
 ·rintro zs H1 ⟨s1,e1,rfl⟩;have lj:(jn ms s0 g0).length=ms.length:=by unfold jn;rw[List.length_map]
  rw[List.length_map,<- lj,List.take_length] at e1;exact q D H1 s1 hD e1
abbrev pW:Stmt:=top 28
theorem rO:aT ["net","marks","row"] ["net"] (aE pW):=⟨rfl,rfl,rfl,by decide +kernel,rfl,by decide +kernel,by decide +kernel⟩
theorem Jl {dV:Value}(F:bZ K "marks_of" "marks_of" pW dV f fd){CN:Addr}(mli:mg "list"=none)(mra:mg "range"=none)(NTx:NT K mg CN)(T:RT K mg CR CK){fJ:Kd->Addr}{fdJ:Kd->FuncData}(GJ:∀k,aQ P w K mg base CX0 1 (fJ k) (fdJ k) ["self"] (oH k))(bJ:∀k,aS K (fdJ k) ["self"] [])(mJ:∀k,gH K (CK k) "joins" (fJ k)){gMa:Addr}{gdMa:FuncData}(GMa:aQ P w K mg base CX0 1 gMa gdMa ["self"] (sV CN K))(bMa:aS K gdMa ["self"] [])(mMa:gH K CN "many" gMa){gRo:Addr}{gdRo:FuncData}(GRo:aQ P w K mg base CX0 4 gRo gdRo ["self"] (pB CN K CK))(bRo:aS K gdRo ["self"] [])(mRo:gH K CN "rows" gRo)(G1:aQ P w K mg base CX0 1 g1 gd1 ["marks","row"] (zT K CK))(b1:aS K gd1 ["marks","row"] [])(k1:PySem.W.keepIn K (.ref g1)=true)(m1:mg "joined"=some (.ref g1)) :
  aQ P w K mg base CX 5 f fd ["net"] (Du CN K):=by
 refine F.ok rO (fun vs H Q E h=>?_) (fun cdv A outer s H vs Q E hr h=>?_)
 ·obtain⟨n,l,m,ds,rfl,nt,pt,hm,h100,q⟩:=h;rfl
 obtain⟨n,l,m,ds,rfl,nt,pt,hm,h100,q⟩:=h;have r1:=hr.mono (show 1<=4 by omega);refine⟨_,(aC (aW (i:=1) rO.nd rfl (Or.inl rfl) (oS rfl rfl mli rfl mra (aA (fM (pv 0) NTx.cl mMa GMa r1 bMa .nil aM) aD)))
  (aC (eU PassesOwn.never rfl (cS (fM (pv 0) NTx.cl mRo GRo hr bRo .nil aM)) (aZ (i:=2) rO.nd rfl (Or.inl rfl))
   (aG (cE (eO (fV (pv 2) T.cl mJ GJ r1 bJ .nil aM)) (aG (aW (i:=1) rO.nd rfl (Or.inl rfl) (aI G1 r1 rfl m1 k1 b1 .nil aM (aA (pv 1) (aA (pv 2) aD))))) bN)))
  (aG (bA (pv 1))))),?_⟩
 obtain⟨dx,hn⟩:=nt.ob;refine⟨_,rfl,n,dx,_,rfl,hn,dM _ _ (by decide +kernel) (by decide +kernel),n,l,_,ds,rfl,nt,m,rfl,by omega,fun D hD=>?_⟩;have sD:=aH hD (.lst ((List.range m).map fun (i:Nat)=>V.int (i:Int)));have eD:upd H D (.lst ((List.range m).map fun (i:Nat)=>V.int (i:Int))) D=some (.lst ((mks m (ds.take 0)).map V.int)):=by
  rw[aB];show some (HO.lst _)=some (HO.lst ((Ac m).map V.int));unfold Ac;rw[List.map_map];rfl
 generalize upd H D (.lst ((List.range m).map fun (i:Nat)=>V.int (i:Int)))=H1 at sD eD ⊢;refine⟨_,rfl,n,dx,_,rfl,sD _ _ hn,dM _ _ (by decide +kernel) (by decide +kernel),n,l,_,ds,rfl,nt.same sD,h100,fun a xs H2 s2 na ea Rb=>?_⟩;have lxs:=Rb.length;refine⟨a,rfl,⟨_,SqL.of ea⟩,?_⟩;refine gB (xs:=xs) (fun i σ H'=>bG H2 H'/\∃(c:Addr) (z:Option V),σ=[some (.ref n),some (.ref c),z]/\H c=none/\H' c=some (.lst ((mks m (ds.take i)).map V.int))) ⟨bG.refl _,D,none,rfl,hD,s2 _ _ eD⟩ (fun i σ H' _ h=>h.1.seq (SqL.of ea)) ?_ ?_
 ·rintro i x σ H3 hx ⟨s3,c,z,rfl,nc,ec⟩;have hi:i < ds.length:=by
   have:=(List.getElem?_eq_some_iff.mp hx).1;omega
  obtain⟨⟨k,u,v,p⟩,hd⟩:∃d,ds[i]?=some d:=⟨_,List.getElem?_eq_getElem hi⟩
  obtain⟨y,z',ey,rw,fz⟩:=Rb.at hd;have ex:x=.ref y:=by rw[ey] at hx;exact(Option.some.inj hx).symm
  subst ex;have rw3:=rw.same s3;obtain⟨dr,hy⟩:=id rw3;have et:ds.take (i+1)=ds.take i++[(k,u,v,p)]:=by rw[List.take_add_one,hd];rfl
  obtain⟨u0,u1,v0,v1⟩:cT (m:Int) u v:=pt _ (List.mem_of_getElem? hd);refine⟨_,rfl,k,y,dr,_,rfl,hy,(eP _ _ _ (by decide +kernel) (by decide +kernel) (by decide +kernel)),_,rfl,_,rfl,?_⟩
  by_cases hk:k=.pu
  ·refine ifF (decide_eq_false (fun z=>z hk)) ⟨s3,c,_,rfl,nc,?_⟩;rw[et,lG];unfold gY;rw[if_pos hk];exact ec
  ·refine ifT (decide_eq_true hk) ⟨_,rfl,_,rfl,c,y,mks m (ds.take i),k,u.toNat,v.toNat,.ref z',rfl,SqL.of ec,?_,by rw[jR];omega,by rw[jR];omega,by rw[jR];omega,fun c' H4 s4 nc' ec'=>⟨s3.trans s4,c',_,rfl,?_,?_⟩⟩
   ·rw[show ((u.toNat:Nat):Int)=u by omega,show ((v.toNat:Nat):Int)=v by omega];exact rw3
   ·exact((sD.trans s2).trans s3).free nc'
   ·rw[et,lG];unfold gY;rw[if_neg hk];exact ec'
 ·rintro σ H3 ⟨s3,c,z,rfl,nc,ec⟩;rw[show ds.take xs.length=ds by rw[lxs,List.take_length]] at ec;exact⟨_,rfl,q c H3 ((sD.trans s2).trans s3) nc ec⟩
theorem hZ:(["point","mark","marks"]:List Str).Nodup:=by decide +kernel
abbrev pG:Stmt:=top 27
theorem Gc:aT ["net","marks"] ["net"] (aE pG):=⟨rfl,rfl,rfl,by decide +kernel,rfl,by decide +kernel,by decide +kernel⟩
theorem Lq {dV:Value}(F:bZ K "floating" "floating" pG dV f fd){CN:Addr}(men:mg "enumerate"=none)(G1:aQ P w K mg base CX0 5 g1 gd1 ["net"] (Du CN K))(b1:aS K gd1 ["net"] [])(k1:PySem.W.keepIn K (.ref g1)=true)(m1:mg "marks_of"=some (.ref g1)) :
  aQ P w K mg base CX 6 f fd ["net"] (Dp CN K):=by
 refine F.ok Gc (fun vs H Q E h=>?_) (fun cdv A outer s H vs Q E hr h=>?_)
 ·obtain⟨n,l,m,ds,rfl,nt,pt,h1,hm,h100,q⟩:=h;rfl
 obtain⟨n,l,m,ds,rfl,nt,pt,h1,hm,h100,q⟩:=h;refine⟨_,(aC (aW (i:=1) Gc.nd rfl (Or.inr rfl) (aI G1 hr rfl m1 k1 b1 .nil aM (aA (pv 0) aD)))
  (aG (bA (fH (nl:=2) (fr:=[1]) (Nc:=["point","mark","marks"]) (cl:=[("marks",s.heap.objs.size+1)]) (g:=(Gv K 2 (kE (iR 0) (kE (iR 1) Hf)))) rfl ⟨rfl,rfl,by decide +kernel,by decide +kernel,fun x c h=>h,dS rfl,rfl,fun i n h=>match i,h with | 0,h=>by cases h;exact⟨1,rfl,rfl,rfl,rfl,.inl rfl⟩ | k+1,h=>by rw[show 2+(k+1)=k+3 by omega] at h;cases h⟩
    (xS rfl men rfl (aA (pv 1) aD)) (fun C s3 H3 fp pins=>(jA rfl (bU (aZ (i:=0) hZ rfl (Or.inl rfl)) (bU (aZ (i:=1) hZ rfl (Or.inl rfl)) gS)))) (fun C s3 H3 fp pins=>(nQ (bK kY (pv 1) (aP (oQ (K:=K) rfl) (pv 2) aF (fun _ _=>rfl)) (bM _))))
    (fun C s3 H3 fp pins=>(pv 0)))))),?_⟩
 refine⟨_,rfl,n,l,m,ds,rfl,nt,pt,hm,h100,fun M H1 s1 nM eM=>?_⟩;have mlen:=jR m ds;have hS:SqL K H1 M ((mks m ds).map V.int):=SqL.of eM;refine⟨_,rfl,M,rfl,⟨_,hS⟩,fun D hD=>?_⟩;have sD:=aH hD (.lst []);refine wZ (xs:=(mks m ds).map V.int) (fun i zs H'=>bG H1 H'/\H' D=some (.lst zs)/\zs=(((List.range i).filter fun p=>decide (mk m ds p≠mk m ds 0)).map fun (p:Nat)=>V.int (p:Int))) ⟨sD,aB,rfl⟩ (fun i zs H' h=>h.2.1) (fun i zs H' _ h=>h.1.seq hS) ?_ ?_
 ·rintro i zs x H2 T2 hx ⟨s2,e2,rfl⟩ hT C hC;rw[List.getElem?_map] at hx;obtain⟨c,hc,rfl⟩:=Option.map_eq_some_iff.mp hx;have hi:i < m:=by have:=(List.getElem?_eq_some_iff.mp hc).1;omega
  have ec:c=mk m ds i:=by unfold mk;rw[List.getD_eq_getElem?_getD,hc];rfl
  have g0:atI ((mks m ds).map V.int) 0=some (.int (mk m ds 0)):=bQ (j:=0) (by unfold mk;rw[List.getElem?_map,List.getElem?_eq_getElem (by omega),List.getD_eq_getElem?_getD,List.getElem?_eq_getElem (by omega)];rfl);have ll:(((List.range i).filter fun p=>decide (mk m ds p≠mk m ds 0)).map fun (p:Nat)=>V.int (p:Int)).length<=20:=by
   rw[List.length_map];have:=List.length_filter_le (fun p=>decide (mk m ds p≠mk m ds 0)) (List.range i);rw[List.length_range] at this;omega
  have sT:=aH hT (.tup [.int (i:Int),.int c]);refine⟨T2,_,rfl,SqT.of aB,rfl,_,_,rfl,_,_,rfl,rfl,qV.1,qV.2,?_⟩;generalize upd H2 T2 (.tup [.int (i:Int),.int c])=H3 at sT ⊢;have s3:=s2.trans sT;have e3:=sT _ _ e2;refine⟨_,rfl,_,rfl,M,_,_,_,rfl,rfl,s3.seq hS,g0,rfl,_,rfl,?_⟩;subst ec
  by_cases h:mk m ds i=mk m ds 0
  ·refine ifF (by rw[h];simp) (hC _ _ ⟨s3,e3,?_⟩);rw[List.range_succ,List.filter_append,List.filter_cons_of_neg (by simp[h])];simp
  ·refine ifT (by simp[h]) ⟨_,rfl,e3,bF (by omega),hC _ _ ⟨s3.change hD,aB,?_⟩⟩;rw[List.range_succ,List.filter_append,List.filter_cons_of_pos (by simp[h]),List.map_append];rfl
 ·rintro zs H2 ⟨s2,e2,rfl⟩;refine q D H2 (s1.trans s2) (s1.free hD) ?_;rw[List.length_map,mlen] at e2;rw[e2];unfold Mp;rw[List.map_map];rfl
end
end K72
namespace Mq
def KJ (m:Nat)(A1:Mat)(R:List (List Int)):Prop:=∀Φ,Lin Φ->(∀i,i < m->Φ (A1 i)=0)->∀k,k < m->Φ (at2 R k)=0
theorem KJ.swap {m:Nat}{A1:Mat}{R:List (List Int)}(h:KJ m A1 R)(hl:R.length=m){p r:Nat}(hp:p < m)(hr:r < m):KJ m A1 (fG R p r):=fun Φ lin hz k hk=>by
 have e:at2 (fG R p r) k=at2 R (sw p r k):=by
  funext x
  rw[pX (by omega) (by omega)]
 rw[e];exact h Φ lin hz _ (yR hp hr hk)
theorem KJ.clear {m w:Nat}{A0 A1:Mat}{R:List (List Int)}{r col:Nat}{d sg:Int}(h:KJ m A1 R)(s:SI m w A0 R r col d sg)(hr:r < m)(hc:col < w)(he:ent R r col≠0):KJ m A1 (cI R r col d):=fun Φ lin hz k hk=>by
 have cl:=fun (x:Nat)=>rM s hr hc he hk x;have z:=h Φ lin hz
 by_cases e:k=r
 ·have e2:at2 (cI R r col d) k=at2 R k:=by funext x;rw[cl x,if_pos e]
  rw[e2];exact z k hk
 ·have e2:at2 (cI R r col d) k=fun x=>(fun x=>(at2 R r col / (d:Rat))*at2 R k x) x+(-(at2 R k col / (d:Rat)))*at2 R r x:=by
   funext x
   show _=(at2 R r col / (d:Rat))*at2 R k x+_;rw[cl x,if_neg e];grind
  rw[e2,lin,lin.mul,z k hk,z r hr];grind
theorem KJ.whole {m w:Nat}{A0 A1:Mat}{R:List (List Int)}{d sg:Int}(h:KJ m A1 R)(s:SI m w A0 R m m d sg){v:Nat->Rat}(hv:∀i,i < m->(rs m fun k=>A1 i k*v k)=A1 i m){k:Nat}(hk:k < m):at2 R k m / (d:Rat)=v k:=by
 obtain⟨A,c,B,e⟩:=s.bar;have dn:=B.dne;have:=h (fun f=>(rs m fun k=>f k*v k) - f m) (fun x y l=>by
  have:(rs m fun k=>(x k+l*y k)*v k)=(rs m fun k=>x k*v k+l*(y k*v k)):=aK fun k _=>by grind
  show (rs m fun k=>(x k+l*y k)*v k) - (x m+l*y m)=((rs m fun k=>x k*v k) - x m)+l*((rs m fun k=>y k*v k) - y m)
  rw[this,dA,eK];grind) (fun i hi=>by
  show (rs m fun k=>A1 i k*v k) - A1 i m=0;rw[hv i hi];grind) k hk
 have e1:(rs m fun j=>at2 R k j*v j)=rs m fun j=>if j=k then (d:Rat)*v k else 0:=aK fun j hj=>by
  have i2:=B.i2 k j hk hj;rw[B.full rfl j hj] at i2;rw[i2]
  by_cases z:j=k
  ·rw[if_pos z,if_pos z,z]
  ·rw[if_neg z,if_neg z];grind
 have e2:(rs m fun j=>at2 R k j*v j) - at2 R k m=0:=this;rw[e1,kU m k _ hk] at e2;grind
end Mq
namespace Shp
open PySem L2
theorem Ju {m w:Nat}{A0 A1:Mq.Mat}:Stp m w A0 (fun R=>Mq.KI m A1 R/\Mq.KJ m A1 R):=
 ⟨fun R r col d sg p s h1 h2 h=>⟨h.1.swap s.len h2 (by omega),h.2.swap s.len h2 (by omega)⟩,fun R r col d sg s h1 h2 h3 h=>⟨h.1.clear s h1 h2 h3,h.2.clear s h1 h2 h3⟩⟩
theorem Vf {X:List (List Mq.Q2)}{qs:List Mq.Q2}(hX:Mq.fF X)(hq:Mq.Pos qs)(hl:qs.length=X.length)(hw:∀row∈X,row.length=X.length){R:List (List Int)}{w:Nat}{d sg:Int}(h:Mq.KJ X.length (Mq.at2 (gZ X qs)) R)(s:Mq.SI X.length w (Mq.at2 (gZ X qs)) R X.length X.length d sg){v:Nat->Rat}(hv:∀i,i < X.length->(Mq.rs X.length fun j=>pF X i j*v j)=Mq.val (qs.getD i Mq.z0)){k:Nat}(hk:k < X.length):Mq.at2 R k X.length / (d:Rat)=v k:=by
 refine h.whole s (fun i hi=>?_) hk;rw[rV hX hq hl hw hi (by omega),if_neg (by omega),<- hv i hi,<- Mq.eK];refine Mq.aK fun k hk=>?_;rw[rV hX hq hl hw hi (by omega),if_pos hk];grind
abbrev MxR (X:List (List Mq.Q2)):Prop:=Mq.fF X/\(∀row∈X,(∀p∈row,Mq.Bd 8 p)/\row.length=X.length)/\X.length<=8
abbrev RtR (X:List (List Mq.Q2))(qs:List Mq.Q2):Prop:=qs.length=X.length/\Mq.gD qs/\∀p∈qs,Mq.Bd 240 p
structure Ui (X:List (List Mq.Q2)) (qs ps:List Mq.Q2):Prop extends Slv X qs ps where
 uni:∀v:Nat->Rat,(∀i,i < X.length->(Mq.rs X.length fun j=>pF X i j*v j)=Mq.val (qs.getD i Mq.z0))->∀j,j < X.length->Mq.val (ps.getD j Mq.z0)=v j
end Shp
set_option maxHeartbeats 1000000
namespace Mq
theorem Wb.rs5 {n K:Nat}{f:Nat->Rat}(hK:K<=32)(h:∀k,k < K->Wb n (f k)):Wb (n+5) (Mq.rs K f):=by
 obtain⟨z,e,b⟩:=Se K h;refine⟨z,e,?_⟩;have p:2 ^ (n+5)=32*2 ^ n:=by rw[Nat.pow_add];omega
 have q:K*2 ^ n<=32*2 ^ n:=Nat.mul_le_mul_right _ hK;have r:0 < 2 ^ n:=Nat.two_pow_pos n;show z.natAbs < 2 ^ (n+5)
 by_cases k0:K=0
 ·subst k0;omega
 ·omega
theorem yN {n:Nat}:∀(r:Nat) (M:Mat),r<=32->(∀i j,i < r->Wb n (M i j))->Wb ((n+5)*r+1) (det r M)
 |0,_,_,_=>Wb.one
 |r+1,M,hr,h=>by
  rw[fP];have:=Wb.rs5 (n:=n+((n+5)*r+1)) (K:=r+1) (f:=fun j=>sgn (r+j)*M r j*det r fun i k=>M i (skip j k)) hr fun j _=>((h r j (by omega)).sgn _).mul (yN r _ (by omega) fun i k hi=>h i _ (by omega));exact this.mono (by rw[Nat.mul_succ];omega)
section
variable {m:Nat} {A E:Mat} {r col:Nat} {d:Rat} {c:Nat->Nat} {n:Nat}
theorem Bar.wd5 (h:Bar m A E r col d c)(hA:∀i x,i < m->Wb n (A i x))(hm:m<=31):Wb ((n+5)*r+1) d:=by
 have rm:=h.rm;rw[<- h.i5];exact yN r _ (by omega) fun i j hi=>hA i _ (by omega)
theorem Bar.wtop5 (h:Bar m A E r col d c)(hA:∀i x,i < m->Wb n (A i x))(hm:m<=31){k:Nat}(hk:k < r)(x:Nat):Wb ((n+5)*r+7) (E k x):=by
 have rm:=h.rm;have hd:=h.dne
 by_cases hx:∃j,j < r/\x=c j
 ·obtain⟨j,hj,rfl⟩:=hx;rw[h.i2 k j hk hj];split
  ·exact(h.wd5 hA hm).mono (by omega)
  ·exact Wb.zero _
 ·let c2:Nat->Nat:=fun j=>if j=r then x else c j
  let u:Nat->Rat:=fun j=>if j=c k then 1 else 0
  have hΦ:=Fn r A c2;have z:=h.i6 _ hΦ (fun s hs=>Dm r A c2 hs) k hk;have eu:u=fun y=>(fun y=>u y+(-(1 / d))*E k y) y+(1 / d)*E k y:=by
   funext y
   show u y=u y+(-(1 / d))*E k y+(1 / d)*E k y;grind
  have fb:=xI r A c2 (fun y=>u y+(-(1 / d))*E k y) fun j hj=>by
   have ec:c2 j=c j:=by show (if j=r then x else c j)=_;rw[if_neg (by omega)]
   rw[ec];show u (c j)+(-(1 / d))*E k (c j)=0;rw[h.i2 k j hk hj];show (if c j=c k then (1:Rat) else 0)+_=0
   by_cases e:j=k
   ·rw[if_pos e,if_pos (by rw[e])];grind
   ·rw[if_neg e,if_neg (fun q=>e (h.cinj j k hj hk q))];grind
  have dd:(det r fun i j=>A i (c2 j))=d:=by
   rw[<- h.i5];exact cK fun i j _ hj=>by show A i (if j=r then x else c j)=_;rw[if_neg (by omega)]
  have ux:u x=0:=by show (if x=c k then (1:Rat) else 0)=0;rw[if_neg (fun q=>hx ⟨k,hk,q⟩)]
  have cx:c2 r=x:=by show (if r=r then x else _)=x;rw[if_pos rfl]
  rw[dd,cx] at fb;have val:F r A c2 u=- E k x:=by
   rw[eu,hΦ,z,fb];show (u x+(-(1 / d))*E k x)*d+_=_;rw[ux];grind
  have wh:Wb ((n+5)*r+7) (F r A c2 u):=by
   rw[Ii];have:=Wb.rs5 (n:=1+((n+5)*r+1)) (K:=r+1) (f:=fun j=>Mq.sgn (r+j)*u (c2 j)*det r fun i k=>A i (c2 (Mq.skip j k))) (by omega) fun j _=>by
    refine Wb.mul (Wb.sgn ?_ _) (yN r _ (by omega) fun i k hi=>hA i _ (by omega));show Wb 1 (if c2 j=c k then (1:Rat) else 0);split
    ·exact Wb.one
    ·exact Wb.zero _
   exact this.mono (by omega)
  rw[val] at wh;have:=wh.neg
  rwa [show - - E k x=E k x by grind] at this
theorem Bar.wall5 (h:Bar m A E r col d c)(hA:∀i x,i < m->Wb n (A i x))(hm:m<=31){i:Nat}(hi:i < m)(x:Nat):Wb ((n+5)*(m+1)+8) (E i x):=by
 have rm:=h.rm;have mono:=Nat.mul_le_mul_left (n+5) rm;have e1:(n+5)*(m+1)=(n+5)*m+(n+5):=Nat.mul_succ ..
 by_cases h1:i < r
 ·exact(h.wtop5 hA hm h1 x).mono (by omega)
 ·have q:=h.i4 i x hi;rw[if_neg h1] at q;have e:E i x=d*A i x - rs r fun k=>A i (c k)*E k x:=by grind
  rw[e];have b1:Wb (n+((n+5)*r+7)+5) (d*A i x):=((h.wd5 hA hm).mul (hA i x hi)).mono (by omega);have b2:Wb (n+((n+5)*r+7)+5) (rs r fun k=>A i (c k)*E k x):=Wb.rs5 (by omega) fun k hk=>(hA i _ hi).mul (h.wtop5 hA hm hk x);exact(b1.sub b2).mono (by omega)
end
theorem SB.bd5 {n m w:Nat}{A0:Mat}{R:List (List Int)}{r col:Nat}{d sg:Int}(h:SB n m R r col d)(s:SI m w A0 R r col d sg)(hm:m<=31):BdR ((n+5)*(m+1)+8) R/\B ((n+5)*(m+1)+8) d:=by
 obtain⟨A,c,B,q⟩:=h;refine⟨fun i x=>?_,?_⟩
 ·by_cases hi:i < m
  ·obtain⟨z,e,b⟩:=B.wall5 q hm hi x;have:ent R i x=z:=Rat.intCast_inj.mp e;rw[this];exact b
  ·unfold ent;rw[List.getD_eq_getElem?_getD (l:=R),List.getElem?_eq_none (by rw[s.len];omega)];exact Nat.two_pow_pos _
 ·obtain⟨z,e,b⟩:=B.wd5 q hm;have:d=z:=Rat.intCast_inj.mp e;have mono:=Nat.mul_le_mul_left (n+5) B.rm;rw[this];exact b.mono (by rw[Nat.mul_succ];omega)
end Mq
set_option maxHeartbeats 4000000
namespace Mq
theorem Le {a b L:Int}(ha:1<=a)(hb:1<=b)(h1:a ∣ L)(h2:b ∣ L):mS a b ∣ L:=by
 have g1:gc a b ∣ a:=Int.gcd_dvd_left ..;have g0:gc a b≠0:=by have:=sM (a:=a) (b:=b) (by omega);omega
 obtain⟨x,hx⟩:=g1;have e:mS a b=x*b:=by
  unfold mS;rw[fL g0 hx]
 have k:(Int.lcm a b:Int) ∣ L:=Int.coe_lcm_dvd h1 h2;have m:(Int.gcd a b:Int)*(Int.lcm a b:Int)=a*b:=by
  have:=Int.gcd_mul_lcm a b;have h:((Int.gcd a b*Int.lcm a b:Nat):Int)=((a*b).natAbs:Nat):=by rw[this,Int.natAbs_mul]
  rw[Int.natCast_mul] at h;rw[h,Int.natAbs_of_nonneg (Int.mul_nonneg (by omega) (by omega))]
 have e2:(Int.lcm a b:Int)=x*b:=by
  have hg:(Int.gcd a b:Int)=gc a b:=rfl;rw[hg] at m;have:gc a b*(Int.lcm a b:Int)=gc a b*(x*b):=by
   rw[m,<- Int.mul_assoc,<- hx]
  exact Int.eq_of_mul_eq_mul_left g0 this
 rw[e,<- e2];exact k
theorem xC {L:Int}:∀{ps:List Q2},Pos ps->(∀p∈ps,p.2 ∣ L)->∀i,i<=ps.length->dI (ps.take i) ∣ L/\1<=dI (ps.take i)
 |ps,hp,h,0,_=>⟨Int.one_dvd _,by rw[List.take_zero];decide⟩
 |ps,hp,h,i+1,hi=>by
  obtain⟨a,b⟩:=xC hp h i (by omega);have hm:ps[i]?=some ps[i]:=List.getElem?_eq_getElem (by omega);have mem:=List.mem_of_getElem? hm;rw[lM hm];refine⟨Le b (hp _ mem) a (h _ mem),?_⟩;have:=rH (ps:=ps.take (i+1)) (fun p hp'=>hp p (List.mem_of_mem_take hp'))
  rwa [lM hm] at this
end Mq
namespace Shp
open PySem L2
abbrev bw (n m:Nat):Nat:=(n+5)*(m+1)+8
def Ga (K:PySem.W.Frag):Sp:=fun vs H Q _=>∃(l D:Addr) (zs:List V) (R:List (List Int)) (m w n:Nat) (Pr:List (List Int)->Prop),vs=[.ref l,.int (m:Int)]/\SqL K H l zs/\Imx D H zs R/\R.length=m/\(∀i,i < m->(R.getD i []).length=w)/\m<=w/\w<=100/\Mq.BdR n R/\1<=n/\bw n m<=9000/\m<=31/\Pr R/\Stp m w (Mq.at2 R) Pr/\
 ∀d l' zs' R' rank pivot sign H',bG H H'->H d=none->H l'=none->H' d=some (Jb l' rank pivot sign)->H' l'=some (.lst zs')->Imx l' H' zs' R'->Mq.SI m w (Mq.at2 R) R' rank m pivot sign->Mq.BdR (bw n m) R'->Mq.B (bw n m) pivot->Pr R'->Q (.ref d) H'
end Shp
set_option maxHeartbeats 1000000
namespace L2
open PySem PySem.Spec PyProof.Rows
section
variable (u:Nat->Rat)
def fw (d:RD)(h:Nat):Rat:=match d.1 with
 | .pc=>(u d.2.1.toNat - u d.2.2.1.toNat)*(1 / Mq.val d.2.2.2)
 | .pu=>0
 | .ho=>u h
def nt:Nat->List RD->Nat->Rat
 |_,[],_=>0
 |h,d :: ds,p=>fw u d h*dl d.2.1.toNat d.2.2.1.toNat p+nt (h+bX d.1) ds p
def hw:Nat->List RD->Nat->Rat
 |_,[],_=>0
 |h,d :: ds,y=>(if d.1=.ho/\h=y then u d.2.1.toNat - u d.2.2.1.toNat else 0)+hw (h+bX d.1) ds y
def eg:Nat->List RD->Rat
 |_,[]=>0
 |h,d :: ds=>fw u d h*(u d.2.1.toNat - u d.2.2.1.toNat)+eg (h+bX d.1) ds
end
section
variable {u:Nat->Rat} {m N:Nat}
theorem uU (F:Nat->Rat){n s g:Nat}(hs:s < n)(hg:g < n):Mq.rs n (fun p=>F p*dl s g p)=F s - F g:=by
 have e:∀p,F p*dl s g p=(if s=p then F p else 0) + - (if g=p then F p else 0):=fun p=>by
  unfold dl
  by_cases a:s=p<;>by_cases b:g=p<;>simp only[a,b,if_true,if_false]<;>grind
 rw[Mq.aK fun p _=>e p,Mq.dA,Mq.jU,Mq.yO,Mq.yO,if_pos hs,if_pos hg];grind
theorem Uj {n s g:Nat}(u0:u 0=0)(hs:s<=n)(hg:g<=n):Mq.rs n (fun i=>u (i+1)*dl s g (i+1))=u s - u g:=by
 have:=uU u (n:=n+1) (s:=s) (g:=g) (by omega) (by omega);rw[Mq.kH,u0] at this;grind
theorem Vv (u0:u 0=0){d:RD}{h y:Nat}(pt:cT (m:Int) d.2.1 d.2.2.1)(hm:m<=N+1)(h1:1<=h)(hh:d.1=.ho->h<=N):Mq.rs N (fun i=>u (i+1)*cM d h (i+1) y)=fw u d h*dl d.2.1.toNat d.2.2.1.toNat y+(if d.1=.ho/\h=y then u d.2.1.toNat - u d.2.2.1.toNat else 0):=by
 obtain⟨a,b,c,e⟩:=pt;have base:=Uj (u:=u) (n:=N) (s:=d.2.1.toNat) (g:=d.2.2.1.toNat) u0 (by omega) (by omega);unfold cM fw
 cases hk:d.1 with
 |pc=>
  dsimp only;rw[if_neg (fun z=>by cases z.1)];have:∀i,u (i+1)*(dl d.2.1.toNat d.2.2.1.toNat (i+1)*dl d.2.1.toNat d.2.2.1.toNat y*(1 / Mq.val d.2.2.2))=(dl d.2.1.toNat d.2.2.1.toNat y*(1 / Mq.val d.2.2.2))*(u (i+1)*dl d.2.1.toNat d.2.2.1.toNat (i+1)):=fun i=>by grind
  rw[Mq.aK fun i _=>this i,Mq.eK,base];grind
 |pu=>
  dsimp only;rw[if_neg (fun z=>by cases z.1)];have:∀i,u (i+1)*(0:Rat)=0:=fun i=>by grind
  rw[Mq.aK fun i _=>this i,Mq.cW];grind
 |ho=>
  dsimp only;have hN:=hh hk;have one:Mq.rs N (fun i=>u (i+1)*(if h=i+1 then 1 else 0))=u h:=by
   have:∀i,u (i+1)*(if h=i+1 then (1:Rat) else 0)=if h - 1=i then u (i+1) else 0:=fun i=>by
    by_cases z:h=i+1
    ·rw[if_pos z,if_pos (by omega)];grind
    ·rw[if_neg z,if_neg (by omega)];grind
   rw[Mq.aK fun i _=>this i,Mq.yO,if_pos (by omega),show h - 1+1=h by omega]
  have:∀i,u (i+1)*(dl d.2.1.toNat d.2.2.1.toNat (i+1)*(if h=y then 1 else 0)+(if h=i+1 then 1 else 0)*dl d.2.1.toNat d.2.2.1.toNat y)=(if h=y then 1 else 0)*(u (i+1)*dl d.2.1.toNat d.2.2.1.toNat (i+1))+dl d.2.1.toNat d.2.2.1.toNat y*(u (i+1)*(if h=i+1 then 1 else 0)):=fun i=>by grind
  rw[Mq.aK fun i _=>this i,Mq.dA,Mq.eK,Mq.eK,base,one]
  by_cases z:h=y
  ·rw[if_pos z,if_pos ⟨rfl,z⟩];grind
  ·rw[if_neg z,if_neg (fun q=>z q.2)];grind
theorem By (u0:u 0=0)(hm:m<=N+1)(y:Nat):∀(ds:List RD) (h:Nat),(∀d∈ds,cT (m:Int) d.2.1 d.2.2.1)->1<=h->h+bS ds<=N+1->Mq.rs N (fun i=>u (i+1)*eqM h ds (i+1) y)=nt u h ds y+hw u h ds y
 | [],h,_,_,_=>by
  have:∀i,u (i+1)*eqM h [] (i+1) y=0:=fun i=>by show u (i+1)*(0:Rat)=0;grind
  rw[Mq.aK fun i _=>this i,Mq.cW];show (0:Rat)=0+0;grind
 |d :: ds,h,pt,h1,hN=>by
  rw[fZ] at hN;have ih:=By u0 hm y ds (h+bX d.1) (fun e he=>pt e (List.mem_cons_of_mem _ he)) (by omega) (by omega);have c:=Vv (u:=u) (N:=N) (h:=h) (y:=y) u0 (pt d (by simp)) hm h1 (fun z=>by rw[z] at hN;have:bX .ho=1:=rfl;omega);have:∀i,u (i+1)*eqM h (d :: ds) (i+1) y=u (i+1)*cM d h (i+1) y+u (i+1)*eqM (h+bX d.1) ds (i+1) y:=fun i=>by
   show u (i+1)*(cM d h (i+1) y+eqM (h+bX d.1) ds (i+1) y)=_;grind
  rw[Mq.aK fun i _=>this i,Mq.dA,ih,c];show _=(fw u d h*dl d.2.1.toNat d.2.2.1.toNat y+nt u (h+bX d.1) ds y)+((if d.1=.ho/\h=y then u d.2.1.toNat - u d.2.2.1.toNat else 0)+hw u (h+bX d.1) ds y)
  grind
theorem Ay {y:Nat}:∀(ds:List RD) (h:Nat),y < h->hw u h ds y=0
 | [],_,_=>rfl
 |d :: ds,h,hy=>by
  show (if d.1=.ho/\h=y then u d.2.1.toNat - u d.2.2.1.toNat else 0)+hw u (h+bX d.1) ds y=0;rw[if_neg (fun z=>by omega),Ay ds (h+bX d.1) (by omega)];grind
theorem Cq {y:Nat}:∀(ds:List RD) (h:Nat),(∀d∈ds,cT (m:Int) d.2.1 d.2.2.1)->m<=y->nt u h ds y=0
 | [],_,_,_=>rfl
 |d :: ds,h,pt,hy=>by
  obtain⟨a,b,c,e⟩:=pt d (by simp);show fw u d h*dl d.2.1.toNat d.2.2.1.toNat y+nt u (h+bX d.1) ds y=0;rw[Cq ds (h+bX d.1) (fun e he=>pt e (List.mem_cons_of_mem _ he)) hy];unfold dl;rw[if_neg (by omega),if_neg (by omega)];grind
theorem Bv:∀(ds:List RD) (h:Nat),(∀y,h<=y->y < h+bS ds->hw u h ds y=0)->∀d∈ds,d.1=.ho->u d.2.1.toNat=u d.2.2.1.toNat
 | [],_,_,_,hd,_=>by cases hd
 |e :: ds,h,all,d,hd,hk=>by
  by_cases he:e.1=.ho
  ·have c1:bX e.1=1:=by rw[he];rfl
   have first:=all h (Nat.le_refl _) (by rw[fZ];omega)
   have f1:(if e.1=.ho/\h=h then u e.2.1.toNat - u e.2.2.1.toNat else 0)+hw u (h+bX e.1) ds h=0:=first
   rw[if_pos ⟨he,rfl⟩,Ay ds (h+bX e.1) (by omega)] at f1;rcases List.mem_cons.mp hd with rfl | hd
   ·grind
   ·refine Bv ds (h+bX e.1) (fun y hy hl=>?_) d hd hk;have:=all y (by omega) (by rw[fZ];omega);have f2:(if e.1=.ho/\h=y then u e.2.1.toNat - u e.2.2.1.toNat else 0)+hw u (h+bX e.1) ds y=0:=this;rw[if_neg (fun z=>by omega)] at f2;grind
  ·have c0:bX e.1=0:=if_neg he;rcases List.mem_cons.mp hd with rfl | hd
   ·exact absurd hk he
   ·refine Bv ds (h+bX e.1) (fun y hy hl=>?_) d hd hk;have:=all y (by omega) (by rw[fZ];omega);have f2:(if e.1=.ho/\h=y then u e.2.1.toNat - u e.2.2.1.toNat else 0)+hw u (h+bX e.1) ds y=0:=this;rw[if_neg (fun z=>he z.1)] at f2;grind
theorem Sl (F:Nat->Rat):∀(ds:List RD) (h:Nat),(∀d∈ds,cT (m:Int) d.2.1 d.2.2.1)->(∀d∈ds,d.1≠.pu->F d.2.1.toNat=F d.2.2.1.toNat)->Mq.rs m (fun p=>F p*nt u h ds p)=0
 | [],h,_,_=>by
  have:∀p,F p*nt u h [] p=0:=fun p=>by show F p*(0:Rat)=0;grind
  rw[Mq.aK fun p _=>this p,Mq.cW]
 |d :: ds,h,pt,hF=>by
  have ih:=Sl F ds (h+bX d.1) (fun e he=>pt e (List.mem_cons_of_mem _ he)) (fun e he=>hF e (List.mem_cons_of_mem _ he));obtain⟨a,b,c,e⟩:=pt d (by simp);have base:=uU F (n:=m) (s:=d.2.1.toNat) (g:=d.2.2.1.toNat) (by omega) (by omega);have:∀p,F p*nt u h (d :: ds) p=fw u d h*(F p*dl d.2.1.toNat d.2.2.1.toNat p)+F p*nt u (h+bX d.1) ds p:=fun p=>by
   show F p*(fw u d h*dl d.2.1.toNat d.2.2.1.toNat p+nt u (h+bX d.1) ds p)=_;grind
  rw[Mq.aK fun p _=>this p,Mq.dA,Mq.eK,base,ih]
  by_cases hk:d.1=.pu
  ·have:fw u d h=0:=by unfold fw;rw[hk]
   rw[this];grind
  ·rw[hF d (by simp) hk];grind
theorem Sd:∀(ds:List RD) (h:Nat),(∀d∈ds,cT (m:Int) d.2.1 d.2.2.1)->Mq.rs m (fun p=>u p*nt u h ds p)=eg u h ds
 | [],h,_=>by
  have:∀p,u p*nt u h [] p=0:=fun p=>by show u p*(0:Rat)=0;grind
  rw[Mq.aK fun p _=>this p,Mq.cW];rfl
 |d :: ds,h,pt=>by
  have ih:=Sd ds (h+bX d.1) (fun e he=>pt e (List.mem_cons_of_mem _ he));obtain⟨a,b,c,e⟩:=pt d (by simp);have base:=uU u (n:=m) (s:=d.2.1.toNat) (g:=d.2.2.1.toNat) (by omega) (by omega);have:∀p,u p*nt u h (d :: ds) p=fw u d h*(u p*dl d.2.1.toNat d.2.2.1.toNat p)+u p*nt u (h+bX d.1) ds p:=fun p=>by
   show u p*(fw u d h*dl d.2.1.toNat d.2.2.1.toNat p+nt u (h+bX d.1) ds p)=_;grind
  rw[Mq.aK fun p _=>this p,Mq.dA,Mq.eK,base,ih];rfl
theorem Wp (x:Rat):0<=x*x:=by
 rcases Rat.le_total (a:=0) (b:=x) with h | h
 ·exact Rat.mul_nonneg h h
 ·have:0<=(-x)*(-x):=Rat.mul_nonneg (by grind) (by grind);grind
theorem Mc {a:Rat}(h:0 < a):0 < 1 / a:=by
 rw[Rat.div_def,Rat.one_mul];exact Rat.inv_pos.mpr h
theorem Sf:∀(ds:List RD) (h:Nat),(∀d∈ds,d.1=.pc->0 < Mq.val d.2.2.2)->(∀d∈ds,d.1=.ho->u d.2.1.toNat=u d.2.2.1.toNat)->0<=eg u h ds/\(eg u h ds=0->∀d∈ds,d.1=.pc->u d.2.1.toNat=u d.2.2.1.toNat)
 | [],_,_,_=>⟨Rat.le_refl,fun _ d hd=>by cases hd⟩
 |e :: ds,h,pos,ho=>by
  obtain⟨i1,i2⟩:=Sf ds (h+bX e.1) (fun d hd=>pos d (List.mem_cons_of_mem _ hd)) (fun d hd=>ho d (List.mem_cons_of_mem _ hd));have eq:eg u h (e :: ds)=fw u e h*(u e.2.1.toNat - u e.2.2.1.toNat)+eg u (h+bX e.1) ds:=rfl;rw[eq];generalize eg u (h+bX e.1) ds=r at i1 i2;have t:0<=fw u e h*(u e.2.1.toNat - u e.2.2.1.toNat)/\(e.1=.pc->fw u e h*(u e.2.1.toNat - u e.2.2.1.toNat)=0->u e.2.1.toNat=u e.2.2.1.toNat):=by
   unfold fw
   cases hk:e.1 with
   |pu=>exact⟨by grind,fun z=>by cases z⟩
   |ho=>exact⟨by rw[ho e (by simp) hk];grind,fun z=>by cases z⟩
   |pc=>
    dsimp only;have p:=Mc (pos e (by simp) hk);generalize 1 / Mq.val e.2.2.2=q at p;generalize u e.2.1.toNat=a;generalize u e.2.2.1.toNat=b;have e2:(a - b)*q*(a - b)=q*((a - b)*(a - b)):=by grind
    rw[e2];refine⟨Rat.mul_nonneg (Rat.le_of_lt p) (Wp _),fun _ z=>?_⟩;have q0:q≠0:=fun z=>by rw[z] at p;exact absurd p (by decide)
    have:(a - b)*(a - b)=0:=by grind
    have:a - b=0:=by grind
    grind
  obtain⟨t1,t2⟩:=t;generalize fw u e h*(u e.2.1.toNat - u e.2.2.1.toNat)=x at t1 t2;refine⟨by grind,fun z d hd hk=>?_⟩;have x0:x=0:=by grind
  have r0:r=0:=by grind
  rcases List.mem_cons.mp hd with rfl | hd
  ·exact t2 hk x0
  ·exact i2 r0 d hd hk
theorem xK (d:RD)(p:Nat):∀(ds:List RD) (h:Nat),nt u h (ds++[d]) p=nt u h ds p+fw u d (h+bS ds)*dl d.2.1.toNat d.2.2.1.toNat p
 | [],h=>by show fw u d h*_+0=0+fw u d (h+0)*_;rw[Nat.add_zero];grind
 |e :: ds,h=>by
  show fw u e h*_+nt u (h+bX e.1) (ds++[d]) p=fw u e h*_+nt u (h+bX e.1) ds p+_;rw[xK d p ds,fZ,Nat.add_assoc];grind
theorem Be (F:Nat->Rat):∀(ds:List RD) (h:Nat),(∀d∈ds,cT (m:Int) d.2.1 d.2.2.1)->(∀d∈ds,d.1=.pc->u d.2.1.toNat=u d.2.2.1.toNat)->(∀d∈ds,d.1=.ho->F d.2.1.toNat=F d.2.2.1.toNat)->Mq.rs m (fun p=>F p*nt u h ds p)=0
 | [],h,_,_,_=>by
  have:∀p,F p*nt u h [] p=0:=fun p=>by show F p*(0:Rat)=0;grind
  rw[Mq.aK fun p _=>this p,Mq.cW]
 |d :: ds,h,pt,hu,hF=>by
  have ih:=Be F ds (h+bX d.1) (fun e he=>pt e (List.mem_cons_of_mem _ he)) (fun e he=>hu e (List.mem_cons_of_mem _ he)) (fun e he=>hF e (List.mem_cons_of_mem _ he));obtain⟨a,b,c,e⟩:=pt d (by simp);have base:=uU F (n:=m) (s:=d.2.1.toNat) (g:=d.2.2.1.toNat) (by omega) (by omega);have:∀p,F p*nt u h (d :: ds) p=fw u d h*(F p*dl d.2.1.toNat d.2.2.1.toNat p)+F p*nt u (h+bX d.1) ds p:=fun p=>by
   show F p*(fw u d h*dl d.2.1.toNat d.2.2.1.toNat p+nt u (h+bX d.1) ds p)=_;grind
  rw[Mq.aK fun p _=>this p,Mq.dA,Mq.eK,base,ih]
  cases hk:d.1 with
  |pu=>
   have:fw u d h=0:=by unfold fw;rw[hk]
   rw[this];grind
  |pc=>
   have:fw u d h=0:=by unfold fw;rw[hk];dsimp only;rw[hu d (by simp) hk];grind
   rw[this];grind
  |ho=>rw[hF d (by simp) hk];grind
def Frs (ds:List RD):Prop:=∀(A B:List RD) (d:RD),ds=A++d :: B->d.1=.ho->¬Cn (cZ .ho A) d.2.1.toNat d.2.2.1.toNat
theorem Dx:∀(n:Nat) (ds:List RD) (h:Nat),ds.length=n->(∀d∈ds,cT (m:Int) d.2.1 d.2.2.1)->Frs ds->(∀d∈ds,d.1=.pc->u d.2.1.toNat=u d.2.2.1.toNat)->(∀p,p < m->nt u h ds p=0)->∀y,h<=y->y < h+bS ds->u y=0
 |0,ds,h,hl,_,_,_,_,y,h1,h2=>by
  have:ds=[]:=List.length_eq_zero_iff.mp hl;subst this;have:bS ([]:List RD)=0:=rfl;omega
 |n+1,ds,h,hl,pt,fr,hu,ze,y,h1,h2=>by
  obtain⟨es,d,rfl⟩:∃es d,ds=es++[d]:=⟨ds.dropLast,ds.getLast (by intro z;rw[z] at hl;cases hl),(List.dropLast_concat_getLast _).symm⟩
  have le:es.length=n:=by rw[List.length_append] at hl;simpa using hl
  have pe:∀x∈es,cT (m:Int) x.2.1 x.2.2.1:=fun x hx=>pt x (List.mem_append_left _ hx);have ue:∀x∈es,x.1=.pc->u x.2.1.toNat=u x.2.2.1.toNat:=fun x hx=>hu x (List.mem_append_left _ hx);have fe:Frs es:=fun A B x e hx=>fr A (B++[d]) x (by rw[e];simp) hx;obtain⟨i0,i1,j0,j1⟩:=pt d (by simp);have f0:fw u d (h+bS es)=0:=by
   cases hk:d.1 with
   |pu=>unfold fw;rw[hk]
   |pc=>unfold fw;rw[hk];dsimp only;rw[hu d (by simp) hk];grind
   |ho=>
    open Classical in
    have nc:=fr es [] d rfl hk
    let F:Nat->Rat:=fun p=>if Cn (cZ .ho es) d.2.1.toNat p then 1 else 0
    have s1:=Be (u:=u) (m:=m) F es h pe ue (fun x hx hk'=>by
     show (if Cn (cZ .ho es) d.2.1.toNat x.2.1.toNat then (1:Rat) else 0)=if Cn (cZ .ho es) d.2.1.toNat x.2.2.1.toNat then 1 else 0
     have r:Cn (cZ .ho es) x.2.1.toNat x.2.2.1.toNat:=.row (List.mem_filter.mpr ⟨hx,decide_eq_true hk'⟩) (by rw[hk'];exact fun z=>by cases z)
     by_cases c:Cn (cZ .ho es) d.2.1.toNat x.2.1.toNat
     ·rw[if_pos c,if_pos (c.trans r)]
     ·rw[if_neg c,if_neg (fun z=>c (z.trans r.symm))])
    have s2:Mq.rs m (fun p=>F p*nt u h (es++[d]) p)=0:=by
     have:∀p,p < m->F p*nt u h (es++[d]) p=0:=fun p hp=>by rw[ze p hp];grind
     rw[Mq.aK this,Mq.cW]
    have e3:∀p,F p*nt u h (es++[d]) p=F p*nt u h es p+fw u d (h+bS es)*(F p*dl d.2.1.toNat d.2.2.1.toNat p):=fun p=>by rw[xK];grind
    rw[Mq.aK fun p _=>e3 p,Mq.dA,s1,Mq.eK,uU F (by omega) (by omega)] at s2;have Fs:F d.2.1.toNat=1:=if_pos (.refl _);have Fg:F d.2.2.1.toNat=0:=if_neg nc;rw[Fs,Fg] at s2;grind
  have ze':∀p,p < m->nt u h es p=0:=fun p hp=>by
   have:=ze p hp;rw[xK,f0] at this;grind
  rw[gW] at h2
  by_cases c:y < h+bS es
  ·exact Dx n es h le pe fe ue ze' y h1 c
  ·have hk:d.1=.ho:=Classical.byContradiction fun z=>by
    have:bX d.1=0:=if_neg z;omega
   have c1:bX d.1=1:=by rw[hk];rfl
   have:y=h+bS es:=by omega
   rw[this];unfold fw at f0;rw[hk] at f0;exact f0
theorem Eo {ds:List RD}(hm1:1<=m)(pt:∀d∈ds,cT (m:Int) d.2.1 d.2.2.1)(pos:∀d∈ds,d.1=.pc->0 < Mq.val d.2.2.2)(cn:∀p,p < m->Cn ds 0 p)(fr:Frs ds)(u0:u 0=0)(ze:∀y,1<=y->y<=m - 1+bS ds->Mq.rs (m - 1+bS ds) (fun i=>u (i+1)*eqM m ds (i+1) y)=0):∀y,y<=m - 1+bS ds->u y=0:=by
 have ze2:∀y,1<=y->y<=m - 1+bS ds->nt u m ds y+hw u m ds y=0:=fun y a b=>by
  have:=ze y a b;rw[By (m:=m) u0 (by omega) y ds m pt hm1 (by omega)] at this;exact this
 have hf:=Bv (u:=u) ds m (fun y a b=>by
  have:=ze2 y (by omega) (by omega);rw[Cq ds m pt a] at this;grind)
 have np:∀p,1<=p->p < m->nt u m ds p=0:=fun p a b=>by
  have:=ze2 p a (by omega);rw[Ay ds m b] at this;grind
 have e0:eg u m ds=0:=by
  rw[<- Sd (u:=u) (m:=m) ds m pt];have:∀p,p < m->u p*nt u m ds p=0:=fun p hp=>by
   by_cases c:p=0
   ·rw[c,u0];grind
   ·rw[np p (by omega) hp];grind
  rw[Mq.aK this,Mq.cW]
 have pf:=(Sf (u:=u) ds m pos hf).2 e0;have cz:∀p,p < m->u p=0:=fun p hp=>by
  have:=Cn.ind (R:=fun a b=>u a=u b) (fun _=>rfl) (fun _ _ e=>e.symm) (fun _ _ _ a b=>a.trans b) (fun d hd hk=>by
   cases h:d.1 with
   |pc=>exact pf d hd h
   |pu=>exact absurd h hk
   |ho=>exact hf d hd h) (cn p hp)
  rw[<- this,u0]
 have all:∀p,p < m->nt u m ds p=0:=fun p hp=>by
  by_cases c:p=0
  ·have s:=Be (u:=u) (m:=m) (fun _=>1) ds m pt pf (fun _ _ _=>rfl);obtain⟨k,rfl⟩:∃k,m=k+1:=⟨m - 1,by omega⟩
   rw[Mq.kH] at s;have:∀i,i < k->(1:Rat)*nt u (k+1) ds (i+1)=0:=fun i hi=>by rw[np (i+1) (by omega) (by omega)];grind
   rw[Mq.aK this,Mq.cW] at s;rw[c];grind
  ·exact np p (by omega) hp
 have hz:=Dx (u:=u) (m:=m) _ ds m rfl pt fr pf all;intro y hy
 by_cases c:y < m
 ·exact cz y c
 ·exact hz y (by omega) (by omega)
end
end L2
namespace L2
open PySem PySem.Spec PyProof.Rows Shp
section
variable {m N:Nat} {ds:List RD}
theorem Oh (d:RD)(h x y:Nat):cM d h x y=cM d h y x:=by
 unfold cM
 cases d.1<;>dsimp only<;>grind
theorem uB:∀(ds:List RD) (h x y:Nat),eqM h ds x y=eqM h ds y x
 | [],_,_,_=>rfl
 |d :: ds,h,x,y=>by
  show cM d h x y+eqM (h+bX d.1) ds x y=cM d h y x+eqM (h+bX d.1) ds y x;rw[Oh,uB ds]
structure Nof (m:Nat) (ds:List RD):Prop where
 m1:1<=m
 pt:∀d∈ds,cT (m:Int) d.2.1 d.2.2.1
 pos:∀d∈ds,d.1=.pc->0 < Mq.val d.2.2.2
 cn:∀p,p < m->Cn ds 0 p
 fr:Frs ds
theorem Nof.uni (o:Nof m ds){v w:Nat->Rat}{r:Nat->Rat}(hv:∀i,i < m - 1+bS ds->(Mq.rs (m - 1+bS ds) fun j=>eqM m ds (i+1) (j+1)*v j)=r i)(hw:∀i,i < m - 1+bS ds->(Mq.rs (m - 1+bS ds) fun j=>eqM m ds (i+1) (j+1)*w j)=r i):∀j,j < m - 1+bS ds->v j=w j:=by
 have:=Eo (u:=fun x=>if x=0 then 0 else v (x - 1) - w (x - 1)) o.m1 o.pt o.pos o.cn o.fr (if_pos rfl) (fun y y1 yn=>by
  have e:∀i,i < m - 1+bS ds->(if i+1=0 then (0:Rat) else v (i+1 - 1) - w (i+1 - 1))*eqM m ds (i+1) y=eqM m ds (y - 1+1) (i+1)*v i + - (eqM m ds (y - 1+1) (i+1)*w i):=fun i _=>by
   rw[if_neg (by omega),Nat.add_sub_cancel,uB ds m (i+1) y,show y - 1+1=y by omega];grind
  rw[Mq.aK e,Mq.dA,Mq.jU,hv (y - 1) (by omega),hw (y - 1) (by omega)];grind)
 intro j hj;have:=this (j+1) (by omega);rw[if_neg (by omega),Nat.add_sub_cancel] at this;grind
theorem Sz {X:List (List Mq.Q2)}{Y:List Mq.Q2}(e:yQ m ds N X Y):X.length=m - 1+bS ds:=e.x.h
theorem Jc {X:List (List Mq.Q2)}{Y:List Mq.Q2}(e:yQ m ds N X Y)(i j:Nat):pF X i j=eqM m ds (i+1) (j+1):=e.vx i j
end
end L2
set_option maxHeartbeats 4000000
namespace Shp
open PySem L2
theorem Fi {m w:Nat}{R0:List (List Int)}(hl:R0.length=m)(hw:∀i,i < m->(R0.getD i []).length=w)(hmw:m<=w){Pr:List (List Int)->Prop}(h0:Pr R0)(st:Stp m w (Mq.at2 R0) Pr):∀col,col<=m->∃R r d sg,Mq.SI m w (Mq.at2 R0) R r col d sg/\Pr R
 |0,_=>⟨R0,0,1,1,.start hl hw,h0⟩
 |col+1,hc=>by
  obtain⟨R,r,d,sg,S,p⟩:=Fi hl hw hmw h0 st col (by omega)
  by_cases hz:∀i,r<=i->i < m->Mq.ent R i col=0
  ·exact⟨R,r,d,sg,S.skip hz,p⟩
  ·obtain⟨i,hi⟩:=Classical.not_forall.mp hz;obtain⟨h1,hi⟩:=Classical.not_imp.mp hi;obtain⟨h2,ne⟩:=Classical.not_imp.mp hi
   by_cases e:i=r
   ·subst e;exact⟨_,_,_,_,S.clear h2 (by omega) ne,st.cl R i col d sg S h2 (by omega) ne p⟩
   ·have hlt:r < i:=by omega
    have S2:=S.swap hlt h2;have p2:=st.sw R r col d sg i S hlt h2 p;have ne2:Mq.ent (Mq.fG R i r) r col≠0:=by
     have:=Mq.xU (R:=R) (p:=i) (r:=r) (by rw[S.len];omega) (by rw[S.len];omega) r;unfold Mq.ent at ne ⊢;rw[this,show Mq.sw i r r=i by unfold Mq.sw;simp];exact ne
    exact⟨_,_,_,_,S2.clear (by omega) (by omega) ne2,st.cl _ r col d (-sg) S2 (by omega) (by omega) ne2 p2⟩
theorem Pp {X:List (List Mq.Q2)}(xP:Mq.fF X)(hw:∀row∈X,row.length=X.length)(m1:1<=X.length)(hz:wgt X=0):∃v:Nat->Rat,(∃j,j < X.length/\v j≠0)/\∀x,x < X.length->(Mq.rs X.length fun j=>v j*pF X j x)=0:=by
 obtain⟨R,r,d,sg,S,L⟩:=Fi (m:=X.length) (w:=X.length+X.length) (R0:=jL X) (Nh X) (fun i hi=>by rw[rR hi,zQ,hw _ (List.mem_of_getElem? (uT hi))]) (by omega) (Qp xP hw) Tf X.length (Nat.le_refl _);have wr:=Ms xP (Oi fun i j hi hj=>wT xP hw hi hj) S;have hr:r < X.length:=by
  rcases wr with z | z
  ·exact z.1
  ·exact absurd hz z.2
 obtain⟨⟨k0,hk0,nk0⟩,hsum⟩:=L.lame S hr;refine⟨fun k=>Mq.at2 R (X.length - 1) (X.length+k),⟨k0,hk0,fun z=>?_⟩,hsum⟩;exact nk0 (Rat.intCast_inj.mp (by unfold Mq.at2 at z;simpa using z))
end Shp
namespace L2
open Shp
theorem Nof.wgt_ne {m N:Nat}{ds:List RD}(o:Nof m ds){X:List (List Mq.Q2)}{Y:List Mq.Q2}(e:yQ m ds N X Y)(xP:Mq.fF X)(hw:∀row∈X,row.length=X.length)(m1:1<=X.length):wgt X≠0:=fun hz=>by
 obtain⟨v,⟨j,hj,vj⟩,hs⟩:=Pp xP hw m1 hz;have n:=Sz e;have z:=Eo (u:=fun x=>if x=0 then 0 else v (x - 1)) o.m1 o.pt o.pos o.cn o.fr (if_pos rfl) (fun y y1 yn=>by
  have s:=hs (y - 1) (by omega);rw[n] at s;rw[<- s];refine Mq.aK fun i _=>?_;rw[if_neg (by omega),Nat.add_sub_cancel,Jc e,show y - 1+1=y by omega])
 have:=z (j+1) (by omega);rw[if_neg (by omega),Nat.add_sub_cancel] at this;exact vj this
end L2
namespace Mq
theorem Am {p:Q2}(l:Low p){a L:Int}(hL:1<=L)(h:val p=(a:Rat) / (L:Rat)):p.2 ∣ L/\p.1.natAbs<=a.natAbs:=by
 have h2:((p.2:Int):Rat)≠0:=by have:=l.pos;exact_mod_cast (show p.2≠0 by omega)
 have hl:((L:Int):Rat)≠0:=by exact_mod_cast (show L≠0 by omega)
 have e:p.1*L=a*p.2:=by
  unfold val at h;have:((p.1:Int):Rat)*(L:Rat)=(a:Rat)*((p.2:Int):Rat):=by grind
  exact_mod_cast this
 have d:p.2 ∣ L:=by
  have c:Int.gcd p.2 p.1=1:=by
   have:=l.one;unfold gc at this;rw[Int.gcd_comm];exact_mod_cast this
  have c':Nat.Coprime p.2.natAbs p.1.natAbs:=c;have dv:p.2.natAbs ∣ p.1.natAbs*L.natAbs:=by
   rw[<- Int.natAbs_mul,e,Int.natAbs_mul];exact Nat.dvd_mul_left ..
  exact Int.natAbs_dvd_natAbs.mp (c'.dvd_of_dvd_mul_left dv)
 obtain⟨t,ht⟩:=d;have t1:t≠0:=fun z=>by rw[z,Int.mul_zero] at ht;omega
 have e2:p.1*t=a:=by
  have:p.2*(p.1*t)=p.2*a:=by
   rw[Int.mul_comm p.2 a,<- e,ht,<- Int.mul_assoc,<- Int.mul_assoc,Int.mul_comm p.2 p.1]
  exact Int.eq_of_mul_eq_mul_left (by have:=l.pos;omega) this
 refine⟨⟨t,ht⟩,?_⟩;rw[<- e2,Int.natAbs_mul];exact Nat.le_mul_of_pos_right _ (by omega)
def Fr (L:Int)(M:Nat)(x:Rat):Prop:=∃a:Int,x=(a:Rat) / (L:Rat)/\a.natAbs<=M*L.natAbs
section
variable {L K:Int} {M N:Nat} {x y:Rat}
theorem lF (h:1<=L):((L:Int):Rat)≠0:=by exact_mod_cast (show L≠0 by omega)
theorem Fr.mono (h:Fr L M x)(l:M<=N):Fr L N x:=by
 obtain⟨a,e,b⟩:=h;exact⟨a,e,Nat.le_trans b (Nat.mul_le_mul_right _ l)⟩
theorem Fr.zero:Fr L 0 0:=⟨0,by rw[show ((0:Int):Rat)=0 by rfl,Rat.div_def];grind,by simp⟩
theorem Fr.one (h:1<=L):Fr L 1 1:=⟨L,by have:=lF h;grind,by omega⟩
theorem Fr.add (h:Fr L M x)(g:Fr L N y):Fr L (M+N) (x+y):=by
 obtain⟨a,ea,ba⟩:=h;obtain⟨b,eb,bb⟩:=g;refine⟨a+b,?_,?_⟩
 ·rw[ea,eb,Rat.intCast_add,Rat.div_def,Rat.div_def,Rat.div_def];grind
 ·rw[Nat.add_mul];have:=Int.natAbs_add_le a b;omega
theorem Fr.neg (h:Fr L M x):Fr L M (-x):=by
 obtain⟨a,ea,ba⟩:=h;refine⟨-a,?_,by rw[Int.natAbs_neg];exact ba⟩;rw[ea,Rat.intCast_neg,Rat.div_def,Rat.div_def];grind
theorem Fr.mul (hL:1<=L)(hK:1<=K)(h:Fr L M x)(g:Fr K N y):Fr (L*K) (M*N) (x*y):=by
 obtain⟨a,ea,ba⟩:=h;obtain⟨b,eb,bb⟩:=g;refine⟨a*b,?_,?_⟩
 ·have:=lF hL;have:=lF hK;rw[ea,eb,Rat.intCast_mul,Rat.intCast_mul];grind
 ·rw[Int.natAbs_mul,Int.natAbs_mul];have:=Nat.mul_le_mul ba bb;rw[show M*N*(L.natAbs*K.natAbs)=M*L.natAbs*(N*K.natAbs) by rw[Nat.mul_assoc,Nat.mul_assoc,Nat.mul_left_comm N]];exact this
theorem Fr.of (hL:1<=L){t b:Int}(hb:1<=b)(d:b ∣ L)(ht:t.natAbs<=M):Fr L M ((t:Rat) / (b:Rat)):=by
 obtain⟨k,rfl⟩:=d;have k1:1<=k:=by
  rcases Int.lt_or_le k 1 with z | z
  ·have:=Int.mul_nonpos_of_nonneg_of_nonpos (show 0<=b by omega) (show k<=0 by omega);omega
  ·exact z
 refine⟨t*k,?_,?_⟩
 ·have:=lF hb;have:=lF k1;rw[Rat.intCast_mul,Rat.intCast_mul];grind
 ·rw[Int.natAbs_mul,Int.natAbs_mul];refine Nat.mul_le_mul ht (Nat.le_mul_of_pos_left _ (by omega))
theorem Fr.get (h:Fr L M x){m n b:Nat}(hM:M < 2 ^ m)(hL:B n L)(hb:m+n<=b):∃a:Int,B b a/\x=(a:Rat) / (L:Rat):=by
 obtain⟨a,ea,ba⟩:=h;refine⟨a,?_,ea⟩;refine B.mono (n:=m+n) ?_ hb;show a.natAbs < 2 ^ (m+n);rw[Nat.pow_add];have hL:L.natAbs < 2 ^ n:=hL;exact Nat.lt_of_le_of_lt ba (Nat.mul_lt_mul'' hM hL)
end
def prB:List Int->Int
 | []=>1
 |a :: r=>a*prB r
theorem Ft:∀{l:List Int},(∀a∈l,1<=a)->1<=prB l
 | [],_=>Int.le_refl _
 |a :: r,h=>by
  have h1:=h a (by simp);have h2:=Ft (l:=r) fun b hb=>h b (List.mem_cons_of_mem _ hb);have:=Int.mul_pos (show 0 < a by omega) (show 0 < prB r by omega);show 1<=a*prB r;omega
theorem Fp:∀{l:List Int} {a:Int},a∈l->a ∣ prB l
 |b :: r,a,h=>by
  rcases List.mem_cons.mp h with z | z
  ·rw[z];exact Int.dvd_mul_right ..
  ·exact Int.dvd_trans (Fp z) (Int.dvd_mul_left ..)
theorem Rz {u:Nat}:∀{l:List Int},(∀a∈l,B u a)->B (u*l.length+1) (prB l)
 | [],_=>show (1:Nat) < 2 ^ (u*0+1) by rw[Nat.mul_zero];decide
 |a :: r,h=>by
  have h1:=h a (by simp);have h2:=Rz (l:=r) fun b hb=>h b (List.mem_cons_of_mem _ hb);exact(h1.mul h2).mono (by rw[List.length_cons,Nat.mul_succ];omega)
end Mq
namespace L2
theorem Jv (s g x:Nat):dl s g x=1\/dl s g x=0\/dl s g x=-1:=by
 unfold dl
 by_cases a:s=x<;>by_cases b:g=x<;>simp only[a,b,if_true,if_false]
 ·exact .inr (.inl (by grind))
 ·exact .inl (by grind)
 ·exact .inr (.inr (by grind))
 ·exact .inr (.inl (by grind))
theorem Dj {L:Int}{M:Nat}{y:Rat}(h:Mq.Fr L M y)(s g x:Nat):Mq.Fr L M (dl s g x*y):=by
 rcases Jv s g x with e | e | e
 ·rw[e,Rat.one_mul];exact h
 ·rw[e,Rat.zero_mul];exact Mq.Fr.zero.mono (Nat.zero_le _)
 ·rw[e,show (-1:Rat)*y=-y by grind];exact h.neg
end L2
set_option maxHeartbeats 1000000
namespace L2
open PySem PySem.Spec PyProof.Rows Shp
abbrev Ent:=Option Nat × RD × Mq.Q2
abbrev Zm (E:List Ent):List Nat:=E.filterMap (·.1)
section
variable {m u j:Nat} {hs:List Mq.Q2} {par:Nat->Nat} {E:List Ent}
theorem Ez {α:Type}{E:List α}{i:Nat}{e x:α}(h:x∈E.take i++e :: E.drop i):x=e\/x∈E:=by
 rcases List.mem_append.mp h with z | z
 ·exact .inr (List.mem_of_mem_take z)
 ·rcases List.mem_cons.mp z with z | z
  ·exact .inl z
  ·exact .inr (List.mem_of_mem_drop z)
abbrev Zk (E:List Ent)(C:List RD):List RD:=E.map (·.2.1)++C
end
theorem Df {W:Kd->Bool}{sk:List Sk}:∀n,∀e∈(fD W sk n).1,∃k,W k=true/\sk[e.1]?=some (k,e.2.1,e.2.2)/\e.1 < n
 |0,e,h=>by cases h
 |n+1,e,h=>by
  have ih:=Df (W:=W) (sk:=sk) n
  cases hd:sk[n]? with
  |none=>
   have:fD W sk (n+1)=fD W sk n:=by
    show (match sk[n]? with | none=>fD W sk n | some d=>iJ W (fD W sk n) n d)=_;rw[hd]
   rw[this] at h;obtain⟨k,a,b,c⟩:=ih e h;exact⟨k,a,b,by omega⟩
  |some d=>
   rw[iH hd] at h;unfold iJ at h;split at h
   ·rename_i w
    split at h
    ·rcases List.mem_append.mp h with z | z
     ·obtain⟨k,a,b,c⟩:=ih e z;exact⟨k,a,b,by omega⟩
     ·have:e=(n,d.2.1,d.2.2):=by simpa using z
      subst this;exact⟨d.1,w,hd,by show n < n+1;omega⟩
    ·obtain⟨k,a,b,c⟩:=ih e h;exact⟨k,a,b,by omega⟩
   ·obtain⟨k,a,b,c⟩:=ih e h;exact⟨k,a,b,by omega⟩
theorem uZ {m:Nat}{ds:List RD}{W:Kd->Bool}(hW:∀k,W k=true↔k=.ho)(pt:∀d∈ds,cT (m:Int) d.2.1 d.2.2.1)(h20:m<=20)(fr:Frs ds):∀n,n<=ds.length->(fD W (skl ds) n).2=[]
 |0,_=>rfl
 |n+1,hn=>by
  have ih:=uZ hW pt h20 fr n (by omega);have hd:ds[n]?=some ds[n]:=List.getElem?_eq_getElem (by omega);generalize ds[n]=d at hd;have sl:(skl ds).length=ds.length:=by unfold skl;rw[List.length_map]
  have hs:(skl ds)[n]?=some (d.1,d.2.1.toNat,d.2.2.1.toNat):=by unfold skl;rw[List.getElem?_map,hd];rfl
  rw[iH hs];unfold iJ;split
  ·rename_i w
   have hk:d.1=.ho:=(hW _).mp w;obtain⟨a,b,c,f⟩:=pt d (List.mem_of_getElem? hd);have ri:=rW (W:=W) (sk:=skl ds) (m:=m) (fun x hx=>by
    obtain⟨y,hy,rfl⟩:=List.mem_map.mp hx;obtain⟨a,b,c,f⟩:=pt y hy;exact⟨by show y.2.1.toNat < m;omega,by show y.2.2.1.toNat < m;omega⟩) n (by omega)
   have wi:=Ou (b:=d.2.2.1.toNat) (e:=d.2.1.toNat) ri.pt h20 (by omega) (by omega)
   cases e:sU (fD W (skl ds) n).1 d.2.2.1.toNat d.2.1.toNat with
   |none=>dsimp only;first | (rw[e];exact ih) | exact ih
   |some st=>
    exfalso
    rw[e] at wi;have eq:=wi.mp rfl;have cn:=(Kw (uA ri.pt) (by omega) (by omega)).mp eq;have ed:ds=ds.take n++d :: ds.drop (n+1):=by
     have hn':n < ds.length:=by omega
     have:ds[n]=d:=by rw[List.getElem?_eq_getElem hn'] at hd;exact Option.some.inj hd
     rw[<- this,List.getElem_cons_drop,List.take_append_drop]
    refine fr _ _ d ed hk ?_;refine Cn.ind (R:=fun p q=>Cn (cZ .ho (ds.take n)) p q) (fun p=>.refl p) (fun _ _=>.symm) (fun _ _ _=>.trans) (fun x hx _=>?_) cn;obtain⟨y,hy,rfl⟩:=List.mem_map.mp hx;obtain⟨k,wk,sk,yn⟩:=Df n y hy;unfold skl at sk;rw[List.getElem?_map] at sk;obtain⟨z,hz,ez⟩:=Option.map_eq_some_iff.mp sk;have e1:z.1=k:=congrArg (·.1) ez;have e2:z.2.1.toNat=y.2.1:=congrArg (·.2.1) ez;have e3:z.2.2.1.toNat=y.2.2:=congrArg (·.2.2) ez;have hz':z∈cZ .ho (ds.take n):=List.mem_filter.mpr ⟨List.mem_of_getElem? (show (ds.take n)[y.1]?=some z by rw[List.getElem?_take_of_lt yn];exact hz),decide_eq_true (by rw[e1];exact(hW _).mp wk)⟩;have:Cn (cZ .ho (ds.take n)) z.2.1.toNat z.2.2.1.toNat:=.row hz' (by rw[e1,(hW _).mp wk];exact fun z=>by cases z);rw[e2,e3] at this;show Cn _ ((y.2.1:Nat):Int).toNat ((y.2.2:Nat):Int).toNat;rw[Int.toNat_natCast,Int.toNat_natCast];exact this
  ·exact ih
end L2
namespace Mq
theorem Qd {p:Q2}{a L l k:Int}(h:1<=p.2)(e:l=k*p.2)(l1:1<=l)(d:l ∣ L)(hL:1<=L)(v:val p=(a:Rat) / (L:Rat)):(Ax l p).natAbs<=a.natAbs:=by
 obtain⟨s,rfl⟩:=d;have s1:s≠0:=fun z=>by rw[z,Int.mul_zero] at hL;omega
 have hv:=Mi (L:=l) (k:=k) h e;have h2:=lF l1;have h3:((s:Int):Rat)≠0:=by exact_mod_cast s1
 have e2:Ax l p*s=a:=by
  have:((Ax l p:Int):Rat)*(s:Rat)=(a:Rat):=by
   rw[hv,v,Rat.intCast_mul];grind
  exact_mod_cast this
 rw[<- e2,Int.natAbs_mul];exact Nat.le_mul_of_pos_right _ (by omega)
end Mq
namespace Shp
open PySem L2
theorem Of {X:List (List Mq.Q2)}{qs:List Mq.Q2}{L:Int}{b:Nat}(hX:Mq.fF X)(hq:Mq.Pos qs)(hl:qs.length=X.length)(hb:∀row∈X,∀p∈row,p.2 ∣ L/\∃a:Int,Mq.B b a/\Mq.val p=(a:Rat) / (L:Rat))(hqb:∀p∈qs,p.2 ∣ L/\∃a:Int,Mq.B b a/\Mq.val p=(a:Rat) / (L:Rat))(hL:1<=L):Mq.BdR b (gZ X qs):=fun i x=>by
 unfold Mq.ent
 by_cases hi:i < X.length
 ·rw[tE hl hi];have pos:=rP hX hq hl hi;have al:∀p∈X.getD i []++[qs.getD i Mq.z0],p.2 ∣ L/\∃a:Int,Mq.B b a/\Mq.val p=(a:Rat) / (L:Rat):=fun p hp=>by
   rcases List.mem_append.mp hp with z | z
   ·exact hb _ (List.mem_of_getElem? (uT hi)) p z
   ·have e:p=qs.getD i Mq.z0:=by simpa using z
    rw[e];exact hqb _ (List.mem_of_getElem? (Mq.Vs (show i < qs.length by omega)))
  generalize X.getD i []++[qs.getD i Mq.z0]=row at pos al;obtain⟨dv,l1⟩:=Mq.xC pos (fun p hp=>(al p hp).1) row.length (Nat.le_refl _);rw[List.take_length] at dv l1;unfold Mq.iw;rw[List.getD_eq_getElem?_getD,List.getElem?_map]
  cases e:row[x]? with
  |none=>exact Nat.two_pow_pos _
  |some p=>
   have mem:=List.mem_of_getElem? e;obtain⟨_,a,ab,ea⟩:=al p mem;obtain⟨k,ek⟩:=Mq.zX pos p mem;exact ab.le (Mq.Qd (pos p mem) ek l1 dv hL ea)
 ·rw[List.getD_eq_getElem?_getD (l:=gZ X qs),List.getElem?_eq_none (by rw[zH hl];omega)];exact Nat.two_pow_pos _
structure Ovr (n:Nat) (ps:List Mq.Q2):Prop where
 e:∃D:Int,1<=D/\Mq.B n D/\∀p∈ps,∃t:Int,Mq.B n t/\Mq.val p=(t:Rat) / (D:Rat)
theorem Rj {n:Nat}{d:Int}(d0:d≠0)(bd:Mq.B n d){ps:List Mq.Q2}(h:∀p∈ps,∃t:Int,Mq.B n t/\p=Mq.red t d):Ovr n ps:=by
 refine⟨(d.natAbs:Int),by omega,by show ((d.natAbs:Int)).natAbs < _;rw[Int.natAbs_natCast];exact bd,fun p hp=>?_⟩;obtain⟨t,bt,rfl⟩:=h p hp;rw[Mq.lV d0];rcases Int.lt_or_le d 0 with z | z
 ·refine⟨-t,bt.neg,?_⟩;rw[show ((d.natAbs:Nat):Int)=-d by omega,Rat.intCast_neg,Rat.intCast_neg];have:((d:Int):Rat)≠0:=by exact_mod_cast d0
  grind
 ·exact⟨t,bt,by rw[show ((d.natAbs:Nat):Int)=d by omega]⟩
def vS (K:PySem.W.Frag):Sp:=fun vs H Q _=>∃(g b D:Addr) (H0:Hp) (us bs:List V) (X:List (List Mq.Q2)) (qs:List Mq.Q2) (k n:Nat),vs=[.ref g,.ref b]/\SqL K H g us/\Fmd K H0 D H us X/\SqL K H b bs/\Fqs K H bs qs/\qs.length=X.length/\Mq.gD qs/\(∀p∈qs,Mq.Bd k p)/\Mq.fF X/\(∀row∈X,(∀p∈row,Mq.Bd k p)/\row.length=X.length)/\X.length<=26/\10+k+k*(X.length+1)<=8000/\Mq.BdR n (gZ X qs)/\1<=n/\bw n X.length<=8900/\wgt X≠0/\
 ∀l zs ps H',bG H H'->H l=none->H' l=some (.lst zs)->Fqs K H' zs ps->Ui X qs ps->Ovr (bw n X.length) ps->Q (.ref l) H'
end Shp
set_option maxHeartbeats 4000000
namespace K72
open PySem L2 Shp
section
variable {P:Program} {w:World} {K:PySem.W.Frag} {mg:Str->Option Value} {base:Heap} {f g1 g2 g3 g4 g5 g6 g7 g8:Addr} {fd gd1 gd2 gd3 gd4 gd5 gd6 gd7 gd8:FuncData} {CX:CXT}
variable {CR:Addr} {CK:Kd->Addr} {fW fJ fT fS:Kd->Addr} {fdW fdJ fdT fdS:Kd->FuncData}
theorem uQ:(["one","bottom"]:List Str).Nodup:=by decide +kernel
abbrev sIW:Stmt:=top 51
theorem Qx:aT ["some","bottom","one"] ["some"] (aE sIW):=⟨rfl,rfl,rfl,by decide +kernel,rfl,by decide +kernel,by decide +kernel⟩
theorem Wx {dV:Value}(F:bZ K "in_wholes" "in_wholes" sIW dV f fd)(G1:aQ P w K mg base CX0 1 g1 gd1 ["one","other"] Os)(b1:aS K gd1 ["one","other"] [])(k1:PySem.W.keepIn K (.ref g1)=true)(m1:mg "greatest_common"=some (.ref g1)) :
  aQ P w K mg base CX 2 f fd ["some"] (Rt K):=by
 refine F.ok Qx (fun vs H Q E h=>?_) (fun cdv A outer s H vs Q E hr h=>?_)
 ·obtain⟨a,xs,ps,n,rfl,hS,hF,hP,hB,h100,hn,q⟩:=h;rfl
 obtain⟨a,xs,ps,n,rfl,hS,hF,hP,hB,h100,hn,q⟩:=h;refine⟨_,(aC (aW (i:=1) Qx.nd rfl (Or.inr rfl) aF)
  (aC (eU PassesOwn.never rfl (cS (pv 0)) (aZ (i:=2) Qx.nd rfl (Or.inl rfl))
   (aG (aW (i:=1) Qx.nd rfl (Or.inr rfl) (aY cN (aY iK (pv 1) (aI G1 hr rfl m1 k1 b1 .nil aM (aA (pv 1) (aA (aP aX (pv 2) aF (fun _ _=>rfl)) aD)))) (aP aX (pv 2) aF (fun _ _=>rfl))))))
  (aG (bA (cX (aA (fH (nl:=1) (fr:=[1]) (Nc:=["one","bottom"]) (cl:=[("bottom",s.heap.objs.size+1)]) rfl ⟨rfl,rfl,by decide +kernel,by decide +kernel,fun x c h=>h,dS rfl,rfl,fun i n h=>match i,h with | 0,h=>by cases h;exact⟨1,rfl,rfl,rfl,rfl,.inl rfl⟩ | k+1,h=>by rw[show 1+(k+1)=k+2 by omega] at h;cases h⟩
    (cS (pv 0)) (fun C s3 H3 fp pins=>(aZ (i:=0) uQ rfl (Or.inl rfl))) (fun C s3 H3 fp pins=>dX)
    (fun C s3 H3 fp pins=>(aY cN (aP (oF (K:=K) rfl) (pv 0) aF (fun _ _=>rfl)) (aY iK (pv 1) (aP (oF (K:=K) rfl) (pv 0) aF (fun _ _=>rfl)))))) (aA (pv 1) aD))))))),?_⟩
 have lx:=hF.length;refine⟨_,rfl,a,rfl,⟨_,hS⟩,?_⟩;refine gB (xs:=xs) (fun i σ H'=>H'=H/\i<=ps.length/\∃z,σ=[some (.ref a),some (.int (Mq.dI (ps.take i))),z]) ⟨rfl,Nat.zero_le _,none,rfl⟩ (fun i σ H' _ h=>by rw[h.1];exact hS) ?_ ?_
 ·rintro i x σ H' hx ⟨rfl,hi,z,rfl⟩;obtain⟨u,p,rfl,ep,fu⟩:=hF.get hx;have hi':i < ps.length:=(List.getElem?_eq_some_iff.mp ep).1;obtain⟨f1,f2,_⟩:=Mq.mZ hP hB i hi;have mono:=Nat.mul_le_mul_left n hi;have hp:=hP p (List.mem_of_getElem? ep);have pb:=(hB p (List.mem_of_getElem? ep)).b;have g0:Mq.gc (Mq.dI (ps.take i)) p.2≠0:=by have:=Mq.sM (a:=Mq.dI (ps.take i)) (show p.2≠0 by omega);omega
  have gb:Mq.B n (Mq.gc (Mq.dI (ps.take i)) p.2):=by
   have:=Mq.Cj (t:=Mq.dI (ps.take i)) (show p.2≠0 by omega);rw[Qj (by omega)] at this;exact pb.le this
  have qb:Mq.B (1+n*i) (Int.fdiv (Mq.dI (ps.take i)) (Mq.gc (Mq.dI (ps.take i)) p.2)):=by
   have d1:Mq.gc (Mq.dI (ps.take i)) p.2 ∣ Mq.dI (ps.take i):=by unfold Mq.gc;exact Int.gcd_dvd_left ..
   obtain⟨k,hk⟩:=d1;have:=Mq.iM g0 hk;rw[Mq.fL g0 hk];exact f2.le this
  refine⟨_,rfl,_,rfl,cL rfl fu ⟨_,_,rfl,fR g0 gb (by omega) (cL rfl fu (cO qb pb (by omega) (by omega) ?_))⟩⟩;refine⟨rfl,hi',some (.ref u),?_⟩;rw[Mq.lM ep];rfl
 rintro σ H' ⟨rfl,_,z,rfl⟩;rw[lx,List.take_length];obtain⟨f1,f2,f3⟩:=Mq.mZ hP hB ps.length (Nat.le_refl _);rw[List.take_length] at f1 f2 f3;refine⟨_,rfl,a,rfl,⟨_,hS⟩,fun D hD=>?_⟩;have sD:=aH hD (.lst []);refine dE (xs:=xs) (fun i zs H1=>bG H' H1/\H1 D=some (.lst zs)/\zs=((ps.take i).map (Mq.Ax (Mq.dI ps))).map V.int) ⟨sD,aB,rfl⟩ (fun i zs H1 h=>h.2.1) (fun i zs H1 _ h=>h.1.seq hS) ?_ ?_
 ·rintro i zs x H1 hx ⟨s1,e1,rfl⟩ C hC;obtain⟨u,p,rfl,ep,fu⟩:=hF.get hx;have hi':i < ps.length:=(List.getElem?_eq_some_iff.mp ep).1;have mem:=List.mem_of_getElem? ep;have hp:=hP p mem;obtain⟨k,hk⟩:=f3 p mem;have fu1:=s1.fq fu;have kb:Mq.B (1+n*ps.length) (Int.fdiv (Mq.dI ps) p.2):=by
   have e:=Mq.fL (show p.2≠0 by omega) (show Mq.dI ps=p.2*k by rw[hk,Int.mul_comm]);rw[e];refine f2.le ?_;rw[hk,Int.natAbs_mul];exact Nat.le_mul_of_pos_right _ (by omega)
  refine⟨dC.1,dC.2,fY ?_⟩;refine dY rfl fu1 ⟨_,rfl,cL rfl fu1 (fR (show p.2≠0 by omega) (hB p mem).b (by omega) (cO (hB p mem).a kb (by omega) (by omega) ?_))⟩;refine⟨e1,bF (by rw[List.length_map,List.length_map,List.length_take];omega),hC _ _ ⟨s1.change hD,aB,?_⟩⟩;rw[List.take_add_one,ep,List.map_append,List.map_append];rfl
 rintro zs H1 ⟨s1,e1,rfl⟩;rw[lx,List.take_length] at e1;refine⟨_,rfl,by show 2<=sizeLine;decide,fun t ht=>?_⟩;have s2:=aH ht (.tup [.ref D,.int (Mq.dI ps)]);exact q t D _ (s1.trans s2) hD (SqT.of aB) (s2 _ _ e1)
abbrev Ij:Stmt:=top 55
theorem Ru:aT ["rows","rank","column","place"] ["rows","rank","column"] (aE Ij):=⟨rfl,rfl,rfl,by decide +kernel,rfl,by decide +kernel,by decide +kernel⟩
theorem Tb {dV:Value}(F:bZ K "pivot_place" "pivot_place" Ij dV f fd)(ml:mg "len"=none)(mr:mg "range"=none) :
  aQ P w K mg base CX 1 f fd ["rows","rank","column"] (Rn K):=by
 refine F.ok Ru (fun vs H Q E h=>?_) (fun cdv A outer s H vs Q E hr h=>?_)
 ·obtain⟨l,D,zs,R,r,c,m,w',rfl,hS,hI,hm,hw,hc,hr',h100,q1,q2⟩:=h;rfl
 obtain⟨l,D,zs,R,r,c,m,w',rfl,hS,hI,hm,hw,hc,hr',h100,q1,q2⟩:=h;refine⟨_,(aC (eU PassesOwn.never rfl (vP rfl mr (aA (pv 1) (aA (bO bH rfl ml PySem.boot_len (aA (pv 0) aD)) aD))) (aZ (i:=3) Ru.nd rfl (Or.inl rfl))
   (aG (cE (bK kY (aP bL (aP bL (pv 0) (pv 3) (fun _ _=>rfl)) (pv 2) (fun _ _=>rfl)) aF (bM _)) (aG (bA (pv 3))) bN)))
  (aG (bA Ts))),?_⟩
 have lz:=hI.length;obtain⟨k,hk⟩:∃k,m=r+k:=⟨m - r,by omega⟩
 refine⟨_,rfl,_,rfl,l,zs,rfl,.inl hS,(r:Int),(zs.length:Int),rfl,⟨by omega,by omega,by omega,by omega⟩,?_⟩;rw[show ((zs.length:Int) - (r:Int)).toNat=k by omega];refine gO (lo:=(r:Int)) (n:=k) (fun i σ H'=>H'=H/\(∀j,r<=j->j < r+i->Mq.ent R j c=0)/\∃z,σ=[some (.ref l),some (.int (r:Int)),some (.int (c:Int)),z]) ⟨rfl,fun j h1 h2=>absurd h1 (by omega),none,rfl⟩ ?_ ?_
 ·rintro i σ H' hi ⟨rfl,hz,z,rfl⟩;obtain⟨u,eu,nu,hu⟩:=hI.at (i:=r+i) (by omega);have eu':atI zs ((r:Int)+(i:Int))=some (.ref u):=by have:=bQ eu;rwa [Int.natCast_add] at this
  have ec:=bQ (jW (l:=R.getD (r+i) []) (i:=c) (by rw[hw _ (by omega)];exact hc));refine⟨_,rfl,_,rfl,l,zs,_,_,rfl,rfl,hS,eu',_,rfl,u,_,_,_,rfl,rfl,SqL.of hu,ec,rfl,_,rfl,rD (fun e=>?_) (fun e=>?_)⟩
  ·refine⟨_,rfl,?_⟩;have ne:Mq.ent R (r+i) c≠0:=fun z=>by
    have z':(R.getD (r+i) []).getD c 0=0:=z;rw[z'] at e;simp at e
   have:=q1 (r+i) (by omega) (by omega) ne
   rwa [Int.natCast_add] at this
  ·refine⟨rfl,fun j h1 h2=>?_,_,rfl⟩
   by_cases hj:j=r+i
   ·rw[hj];simp at e;exact e
   ·exact hz j h1 (by omega)
 ·rintro σ H' ⟨rfl,hz,z,rfl⟩;exact q2 fun i h1 h2=>hz i h1 (by omega)
theorem dU:(["here","above","own","other","divisor"]:List Str).Nodup:=by decide +kernel
abbrev Hv:Stmt:=top 57
theorem Lb:aT ["row","upper","column","divisor","own","other"] ["row","upper","column","divisor"] (aE Hv):=⟨rfl,rfl,rfl,by decide +kernel,rfl,by decide +kernel,by decide +kernel⟩
theorem Tc {dV:Value}(F:bZ K "cleared" "cleared" Hv dV f fd)(mz:mg "zip"=none) :
  aQ P w K mg base CX 1 f fd ["row","upper","column","divisor"] (vQ K):=by
 refine F.ok Lb (fun vs H Q E h=>?_) (fun cdv A outer s H vs Q E hr h=>?_)
 ·obtain⟨u,v,row,upper,c,n,dv,rfl,hu,hv,hl,h100,hc,hd,b1,b2,bd,hn,q⟩:=h;rfl
 obtain⟨u,v,row,upper,c,n,dv,rfl,hu,hv,hl,h100,hc,hd,b1,b2,bd,hn,q⟩:=h;refine⟨_,(aC (aW (i:=4) Lb.nd rfl (Or.inr rfl) (aP bL (pv 1) (pv 2) (fun _ _=>rfl)))
  (aC (aW (i:=5) Lb.nd rfl (Or.inr rfl) (aP bL (pv 0) (pv 2) (fun _ _=>rfl)))
  (aG (bA (fH (nl:=2) (fr:=[4,5,3]) (Nc:=["here","above","own","other","divisor"]) (cl:=[("own",s.heap.objs.size+2),("other",s.heap.objs.size+3),("divisor",s.heap.objs.size+1)]) (g:=(Gv K 2 (kE (iR 0) (kE (iR 1) Hf)))) rfl ⟨rfl,rfl,by decide +kernel,by decide +kernel,(cP rfl (cP rfl (cP rfl (iB)))),dS rfl,rfl,fun i n h=>match i,h with | 0,h=>by cases h;exact⟨4,rfl,rfl,rfl,rfl,.inl rfl⟩ | 1,h=>by cases h;exact⟨5,rfl,rfl,rfl,rfl,.inl rfl⟩ | 2,h=>by cases h;exact⟨3,rfl,rfl,rfl,rfl,.inl rfl⟩ | k+3,h=>by rw[show 2+(k+3)=k+5 by omega] at h;cases h⟩
    (Jn rfl mz rfl (aA (pv 0) (aA (pv 1) aD))) (fun C s3 H3 fp pins=>(jA rfl (bU (aZ (i:=0) dU rfl (Or.inl rfl)) (bU (aZ (i:=1) dU rfl (Or.inl rfl)) gS)))) (fun C s3 H3 fp pins=>dX)
    (fun C s3 H3 fp pins=>(aY iK (aY iZ (aY cN (pv 2) (pv 0)) (aY cN (pv 3) (pv 1))) (pv 4)))))))),?_⟩
 have e1:=bQ (jW (l:=upper) (i:=c) (by omega));have e2:=bQ (jW (l:=row) (i:=c) (by omega));refine⟨_,rfl,_,rfl,v,_,_,_,rfl,rfl,hv,e1,?_⟩;refine⟨_,rfl,_,rfl,u,_,_,_,rfl,rfl,hu,e2,?_⟩;refine⟨_,rfl,_,rfl,u,v,rfl,⟨_,hu⟩,⟨_,hv⟩,fun D hD=>?_⟩;have sD:=aH hD (.lst []);refine Ak (xs:=row.map V.int) (ys:=upper.map V.int) (fun i zs H'=>bG H H'/\H' D=some (.lst zs)/\zs=((Mq.gE upper row c dv).take i).map V.int) ⟨sD,aB,rfl⟩ (fun i zs H' h=>h.2.1) (fun i zs H' _ h=>⟨h.1.seq hu,h.1.seq hv⟩) ?_ ?_
 ·rintro i zs x y H1 T1 ex ey ⟨s1,e1',rfl⟩ hT C hC;have hi:i < row.length:=by have:=(List.getElem?_eq_some_iff.mp ex).1;simpa using this
  have ex':x=.int (row.getD i 0):=by rw[jW hi] at ex;cases ex;rfl
  have ey':y=.int (upper.getD i 0):=by rw[jW (by omega)] at ey;cases ey;rfl
  subst ex' ey';have sT:=aH hT (.tup [.int (row.getD i 0),.int (upper.getD i 0)]);refine⟨T1,_,rfl,SqT.of aB,rfl,_,_,rfl,_,_,rfl,rfl,qV.1,qV.2,fY ?_⟩;have mm:Mq.B (n+n+1) (upper.getD c 0*row.getD i 0 - row.getD c 0*upper.getD i 0):=Mq.B.sub ((b2 c).mul (b1 i)) ((b1 c).mul (b2 i));refine⟨_,rfl,_,rfl,cO (b2 c) (b1 i) (by omega) (by omega) ⟨_,rfl,_,rfl,cO (b1 c) (b2 i) (by omega) (by omega) ⟨_,_,rfl,rfl,_,rfl,fR hd bd (by omega) ?_⟩⟩⟩;have ll:(Mq.gE upper row c dv).length=row.length:=by unfold Mq.gE;rw[List.length_zipWith];omega
  have eA:=sT _ _ e1';refine⟨eA,bF (by rw[List.length_map,List.length_take];omega),hC _ _ ⟨(s1.trans sT).change hD,aB,?_⟩⟩;have eg:(Mq.gE upper row c dv)[i]?=some (Int.fdiv (upper.getD c 0*row.getD i 0 - row.getD c 0*upper.getD i 0) dv):=by
   unfold Mq.gE;rw[List.getElem?_zipWith,Mq.kP hi,Mq.kP (show i < upper.length by omega)]
  rw[List.take_add_one,eg,List.map_append];rfl
 rintro zs H1 ⟨s1,e1',rfl⟩;have ll:(Mq.gE upper row c dv).length=row.length:=by unfold Mq.gE;rw[List.length_zipWith];omega
 rw[List.length_map,List.length_map,List.take_of_length_le (by rw[ll];omega)] at e1';exact q D H1 s1 hD e1'
theorem cY:(["place","row","upper","rank","divisor","column"]:List Str).Nodup:=by decide +kernel
abbrev jD:Stmt:=top 56
theorem vG:aT ["rows","rank","column","divisor","upper"] ["rows","rank","column","divisor"] (aE jD):=⟨rfl,rfl,rfl,by decide +kernel,rfl,by decide +kernel,by decide +kernel⟩
theorem Cc {dV:Value}(F:bZ K "cleared_rows" "cleared_rows" jD dV f fd)(men:mg "enumerate"=none)(G1:aQ P w K mg base CX0 1 g1 gd1 ["row","upper","column","divisor"] (vQ K))(b1:aS K gd1 ["row","upper","column","divisor"] [])(k1:PySem.W.keepIn K (.ref g1)=true)(m1:mg "cleared"=some (.ref g1)) :
  aQ P w K mg base CX 2 f fd ["rows","rank","column","divisor"] (wD K):=by
 refine F.ok vG (fun vs H Q E h=>?_) (fun cdv A outer s H vs Q E hr h=>?_)
 ·obtain⟨l,D0,zs,R,r,c,m,w',n,dv,rfl,hS,hI,hm,hw,hc,hw100,hr',h100,hd,hB,bd,hn,q⟩:=h;rfl
 obtain⟨l,D0,zs,R,r,c,m,w',n,dv,rfl,hS,hI,hm,hw,hc,hw100,hr',h100,hd,hB,bd,hn,q⟩:=h;refine⟨_,(aC (aW (i:=4) vG.nd rfl (Or.inr rfl) (aP bL (pv 0) (pv 1) (fun _ _=>rfl)))
  (aG (bA (fH (nl:=2) (fr:=[4,1,3,2]) (Nc:=["place","row","upper","rank","divisor","column"]) (cl:=[("upper",s.heap.objs.size+4),("rank",s.heap.objs.size+1),("divisor",s.heap.objs.size+3),("column",s.heap.objs.size+2)]) (g:=(Gv K 2 (kE (iR 0) (kE (iR 1) Hf)))) rfl ⟨rfl,rfl,by decide +kernel,by decide +kernel,(cP rfl (cP rfl (cP rfl (cP rfl (iB))))),dS rfl,rfl,fun i n h=>match i,h with | 0,h=>by cases h;exact⟨4,rfl,rfl,rfl,rfl,.inl rfl⟩ | 1,h=>by cases h;exact⟨1,rfl,rfl,rfl,rfl,.inl rfl⟩ | 2,h=>by cases h;exact⟨3,rfl,rfl,rfl,rfl,.inl rfl⟩ | 3,h=>by cases h;exact⟨2,rfl,rfl,rfl,rfl,.inl rfl⟩ | k+4,h=>by rw[show 2+(k+4)=k+6 by omega] at h;cases h⟩
    (xS rfl men rfl (aA (pv 0) aD)) (fun C s3 H3 fp pins=>(jA rfl (bU (aZ (i:=0) cY rfl (Or.inl rfl)) (bU (aZ (i:=1) cY rfl (Or.inl rfl)) gS)))) (fun C s3 H3 fp pins=>dX)
    (fun C s3 H3 fp pins=>(oV (bK eE (pv 0) (pv 3) (bM _)) (pv 1) (aI G1 hr rfl m1 k1 b1 .nil aM (aA (pv 1) (aA (pv 2) (aA (pv 5) (aA (pv 4) aD))))))))))),?_⟩
 have lz:=hI.length;obtain⟨v,ev,nv,hv⟩:=hI.at (i:=r) (by omega);refine⟨_,rfl,_,rfl,l,zs,_,_,rfl,rfl,hS,bQ ev,?_⟩;refine⟨_,rfl,l,rfl,⟨_,hS⟩,fun D hD=>?_⟩;have sD:=aH hD (.lst []);have ll:=Mq.El R r c dv;refine wZ (xs:=zs) (fun i ys H'=>bG H H'/\H' D=some (.lst ys)/\Imx D H' ys ((Mq.cI R r c dv).take i)) ⟨sD,aB,.nil⟩ (fun i ys H' h=>h.2.1) (fun i ys H' _ h=>h.1.seq hS) ?_ ?_
 ·rintro i ys x H1 T1 ex ⟨s1,e1,I1⟩ hT C hC;have hi:i < m:=by have:=(List.getElem?_eq_some_iff.mp ex).1;omega
  obtain⟨u,eu,nu,hu⟩:=hI.at (i:=i) (by omega);have exu:x=.ref u:=by rw[eu] at ex;cases ex;rfl
  subst exu;have lI:=I1.length;rw[List.length_take] at lI;have cg:=Mq.oR (R:=R) (i:=i) (by omega) r c dv;have cs:(Mq.cI R r c dv).take (i+1)=(Mq.cI R r c dv).take i++[(Mq.cI R r c dv).getD i []]:=by
   rw[List.take_add_one,List.getD_eq_getElem?_getD,List.getElem?_eq_getElem (show i < (Mq.cI R r c dv).length by omega)];rfl
  have sT:=aH hT (.tup [.int (i:Int),.ref u]);have uD:∀{x:Addr} {o:HO},H x=some o->x≠D:=fun h z=>by rw[z,hD] at h;cases h
  refine⟨T1,_,rfl,SqT.of aB,rfl,_,_,rfl,_,_,rfl,rfl,qV.1,qV.2,fY ?_⟩;generalize upd H1 T1 (.tup [.int (i:Int),.ref u])=H2 at sT ⊢;have sA:=s1.trans sT;have eA:=sT _ _ e1;refine⟨_,rfl,_,rfl,rfl,_,rfl,rD (fun e=>?_) (fun e=>?_)⟩
  ·have ei:i=r:=by simp at e;omega
   refine⟨_,rfl,eA,bF (by omega),hC _ _ ⟨sA.change hD,aB,?_⟩⟩;rw[cs,cg,if_pos ei];exact((I1.same sT).app (.cons (uD hu) (sA _ _ hu) .nil)).upd
  ·have ei:i≠r:=by simp at e;omega
   refine⟨_,rfl,_,rfl,_,rfl,_,rfl,u,v,R.getD i [],R.getD r [],c,n,dv,rfl,SqL.of (sA _ _ hu),SqL.of (sA _ _ hv),by rw[hw i hi,hw r hr'],by rw[hw i hi];exact hw100,by rw[hw i hi];exact hc,hd,fun j=>hB i j,fun j=>hB r j,bd,hn,fun l3 H3 s3 n3 e3=>?_⟩;have eB:=s3 _ _ eA;have n3':l3≠D:=fun z=>by rw[z,eA] at n3;cases n3
   refine⟨eB,bF (by omega),hC _ _ ⟨(sA.trans s3).change hD,aB,?_⟩⟩;rw[cs,cg,if_neg ei];exact((I1.same (sT.trans s3)).app (.cons n3' e3 .nil)).upd
 rintro ys H1 ⟨s1,e1,I1⟩;rw[lz,List.take_of_length_le (by omega)] at I1;exact q D ys H1 s1 hD e1 I1
abbrev wH:Stmt:=top 54
theorem hG:aT ["rows","width","rank","pivot","sign","column","place","lifted"] ["rows","width"] (aE wH):=⟨rfl,rfl,rfl,by decide +kernel,rfl,by decide +kernel,by decide +kernel⟩
theorem Qs {dV:Value}(F:bZ K "eliminated" "eliminated" wH dV f fd)(mr:mg "range"=none)(mli:mg "list"=none)(G1:aQ P w K mg base CX0 1 g1 gd1 ["rows","rank","column"] (Rn K))(b1:aS K gd1 ["rows","rank","column"] [])(k1:PySem.W.keepIn K (.ref g1)=true)(m1:mg "pivot_place"=some (.ref g1))(G2:aQ P w K mg base CX0 2 g2 gd2 ["rows","rank","column","divisor"] (wD K))(b2:aS K gd2 ["rows","rank","column","divisor"] [])(k2:PySem.W.keepIn K (.ref g2)=true)(m2:mg "cleared_rows"=some (.ref g2)) :
  aQ P w K mg base CX 3 f fd ["rows","width"] (Ga K):=by
 refine F.ok hG (fun vs H Q E h=>?_) (fun cdv A outer s H vs Q E hr h=>?_)
 ·obtain⟨l,D0,zs,R,m,w',n,Pr,rfl,hS,hI,hm,hw,hmw,hw100,hB,hn1,hn,hm31,hPr,hSt,q⟩:=h;rfl
 obtain⟨l,D0,zs,R,m,w',n,Pr,rfl,hS,hI,hm,hw,hmw,hw100,hB,hn1,hn,hm31,hPr,hSt,q⟩:=h;have r1:=hr.mono (show 1<=2 by omega);refine⟨_,(aC (aW (i:=0) hG.nd rfl (Or.inl rfl) (lL jP rfl mli PyProof.Rows.boot_list (aA (pv 0) aD)))
  (aC (aW (i:=2) hG.nd rfl (Or.inl rfl) aF)
  (aC (aW (i:=3) hG.nd rfl (Or.inl rfl) aF)
  (aC (aW (i:=4) hG.nd rfl (Or.inl rfl) aF)
  (aC (eU PassesOwn.never rfl (fU rfl mr (aA (pv 1) aD)) (aZ (i:=5) hG.nd rfl (Or.inl rfl))
   (aC (aW (i:=6) hG.nd rfl (Or.inl rfl) (aI G1 r1 rfl m1 k1 b1 .nil aM (aA (pv 0) (aA (pv 2) (aA (pv 5) aD)))))
  (aC (cE (yV (Bw (pv 6))) (aG Au) bN)
  (aC (cE (bK kY (pv 6) (pv 2) (bM _)) (aC (aW (i:=7) hG.nd rfl (Or.inl rfl) (aP bL (pv 0) (pv 6) (fun _ _=>rfl)))
  (aC (hV (aP bL (pv 0) (pv 2) (fun _ _=>rfl)) (iV (pv 0) (pv 6) gA))
  (aC (hV (pv 7) (iV (pv 0) (pv 2) gA))
  (aG (aW (i:=4) hG.nd rfl (Or.inl rfl) (Li Cy (pv 4))))))) bN)
  (aC (aW (i:=0) hG.nd rfl (Or.inl rfl) (aI G2 hr rfl m2 k2 b2 .nil aM (aA (pv 0) (aA (pv 2) (aA (pv 5) (aA (pv 3) aD))))))
  (aC (aW (i:=3) hG.nd rfl (Or.inl rfl) (aP bL (aP bL (pv 0) (pv 2) (fun _ _=>rfl)) (pv 5) (fun _ _=>rfl)))
  (aG (Kz (i:=2) hG.nd rfl (Or.inl rfl) aF Lx))))))))
  (aG (bA (Ei (lD cF (pv 0) (lD cF (pv 2) (lD cF (pv 3) (lD cF (pv 4) Fj)))) rfl rfl (by simp) (by decide))))))))),?_⟩
 refine⟨_,rfl,l,zs,rfl,.inl hS,fun l0 hl0=>?_⟩;have s0:=aH hl0 (.lst zs);have e0:upd H l0 (.lst zs) l0=some (.lst zs):=aB;generalize upd H l0 (.lst zs)=H0 at s0 e0 ⊢;refine⟨_,rfl,(m:Int),rfl,by omega,by omega,?_⟩;rw[Int.toNat_natCast];have b1:Mq.B n 1:=by
  show 1 < 2 ^ n;exact Nat.one_lt_two_pow (by omega)
 refine gO (lo:=0) (n:=m) (fun i σ H'=>bG H H'/\∃(lR:Addr) (zs':List V) (R':List (List Int)) (rank:Nat) (pivot sign:Int) (z5 z6 z7:Option V),σ=[some (.ref lR),some (.int (m:Int)),some (.int (rank:Int)),some (.int pivot),some (.int sign),z5,z6,z7]/\H lR=none/\H' lR=some (.lst zs')/\Imx lR H' zs' R'/\Mq.SI m w' (Mq.at2 R) R' rank i pivot sign/\Mq.SB n m R' rank i pivot/\Pr R') ⟨s0,l0,zs,R,0,1,1,none,none,none,rfl,hl0,e0,(hI.other hl0).same s0,.start hm hw,.start hB,hPr⟩ ?_ ?_
 ·rintro i σ H1 hi ⟨s1,lR,zs',R',rank,pivot,sign,z5,z6,z7,rfl,nR,eR,I1,S1,sb,p1⟩;rw[Int.zero_add];obtain⟨bR,bP⟩:=sb.bd5 S1 hm31;obtain⟨A1,c1,B1,_⟩:=S1.bar;have rm:=B1.rm;have rc:=B1.rc;have dn:pivot≠0:=fun z=>B1.dne (by rw[z];simp);clear B1;refine⟨_,rfl,_,rfl,_,rfl,lR,lR,zs',R',rank,i,m,w',rfl,SqL.of eR,I1,S1.len,S1.wid,by omega,rm,by omega,fun p h1 h2 ne=>?_,fun hz=>?_⟩
  ·refine⟨_,rfl,_,rfl,eV ?_⟩;have hrm:rank < m:=by omega
   refine(fun (hrest:∀(sg:Int) (z:Option V) (Hx:Hp) (zs2:List V) (R2:List (List Int)),bG H Hx->Hx lR=some (.lst zs2)->Imx lR Hx zs2 R2->Mq.SI m w' (Mq.at2 R) R2 rank i pivot sg->Mq.ent R2 rank i≠0->Mq.SB n m R2 rank i pivot->Pr R2->PySem.W.KIN.Hid ((?T:Int->Option V->Hp->Prop) sg z Hx))=>?main) ?rest
   case main=>
    refine⟨_,rfl,_,rfl,rfl,_,rfl,rD (fun e=>?c1) (fun e=>?c2)⟩
    case c1=>
     have npr:p≠rank:=by simp at e;omega
     obtain⟨up,eup,nup,hup⟩:=I1.at (i:=p) (by rw[S1.len];omega);obtain⟨ur,eur,nur,hur⟩:=I1.at (i:=rank) (by rw[S1.len];omega);have lz:zs'.length=m:=I1.length.trans S1.len;refine⟨_,rfl,_,rfl,lR,zs',_,_,rfl,rfl,SqL.of eR,bQ eup,?_⟩;refine⟨_,rfl,_,rfl,lR,zs',_,_,rfl,rfl,SqL.of eR,bQ eur,_,rfl,_,rfl,lR,zs',_,p,rfl,rfl,eR,gR (by omega),?_⟩;have e2:upd H1 lR (.lst (zs'.set p (.ref ur))) lR=some (.lst (zs'.set p (.ref ur))):=aB;have I2:=(Imx.set nur hur p I1).upd (o:=.lst (zs'.set p (.ref ur)));have s2:bG H (upd H1 lR (.lst (zs'.set p (.ref ur)))):=s1.change nR;have hup2:upd H1 lR (.lst (zs'.set p (.ref ur))) up=some (.lst ((R'.getD p []).map V.int)):=by rw[bC nup];exact hup
     generalize upd H1 lR (.lst (zs'.set p (.ref ur)))=H2 at e2 I2 s2 hup2 ⊢;refine⟨_,rfl,_,rfl,_,rfl,lR,_,_,rank,rfl,rfl,e2,gR (by rw[List.length_set];omega),?_⟩;have e3:upd H2 lR (.lst ((zs'.set p (.ref ur)).set rank (.ref up))) lR=some (.lst ((zs'.set p (.ref ur)).set rank (.ref up))):=aB;have I3:=(Imx.set nup hup2 rank I2).upd (o:=.lst ((zs'.set p (.ref ur)).set rank (.ref up)));have s3:bG H (upd H2 lR (.lst ((zs'.set p (.ref ur)).set rank (.ref up)))):=s2.change nR;generalize upd H2 lR (.lst ((zs'.set p (.ref ur)).set rank (.ref up)))=H3 at e3 I3 s3 ⊢;refine⟨_,rfl,_,rfl,?_⟩;show iW _ _ _ [some (.ref lR),some (.int (m:Int)),some (.int (rank:Int)),some (.int pivot),some (.int (-sign)),some (.int (i:Int)),some (.int (p:Int)),some (.ref up)] H3;have S3:=S1.swap (p:=p) (by omega) h2;have bR3:=sb.swap S1 (p:=p) (by omega) h2;have ne3:Mq.ent (Mq.fG R' p rank) rank i≠0:=by
      unfold Mq.ent;rw[Mq.xU (by rw[S1.len];omega) (by rw[S1.len];omega)];have:Mq.sw p rank rank=p:=by unfold Mq.sw;rw[if_pos rfl]
      rw[this];exact ne
     have I3':Imx lR H3 ((zs'.set p (.ref ur)).set rank (.ref up)) (Mq.fG R' p rank):=I3;clear I3 hup2;have p3:=hSt.sw _ _ _ _ _ _ S1 (show rank < p by omega) h2 p1;generalize -sign=sg at S3 ⊢;generalize some (V.ref up)=zz at ⊢;exact(hrest sg zz H3 _ _ s3 e3 I3' S3 ne3 bR3 p3).out
    case c2=>
     have epr:p=rank:=by simp at e;omega
     show iW _ _ _ [some (.ref lR),some (.int (m:Int)),some (.int (rank:Int)),some (.int pivot),some (.int sign),some (.int (i:Int)),some (.int (p:Int)),z7] H1;exact(hrest sign z7 H1 _ _ s1 eR I1 S1 (by rw[<- epr];exact ne) sb p1).out
   case rest=>
   intro sg z Hx zs2 R2 sx ex Ix Sx nx bx px;refine⟨?_⟩;have bxx:=bx.bd5 Sx hm31;refine⟨_,rfl,_,rfl,_,rfl,_,rfl,lR,lR,zs2,R2,rank,i,m,w',bw n m,pivot,rfl,SqL.of ex,Ix,Sx.len,Sx.wid,by omega,hw100,hrm,by omega,dn,bxx.1,bxx.2,hn,fun l3 zs3 H3 s3 n3 e3 I3=>?_⟩;have S3:=Sx.clear hrm (by omega) nx;have b3:=bx.clear Sx hrm (by omega) nx;obtain⟨u,eu,nu,hu⟩:=I3.at (i:=rank) (by rw[S3.len];omega);have ec:=bQ (jW (l:=(Mq.cI R2 rank i pivot).getD rank []) (i:=i) (by rw[S3.wid _ hrm];omega));refine⟨_,rfl,_,rfl,l3,zs3,_,_,rfl,rfl,SqL.of e3,bQ eu,_,rfl,u,_,_,_,rfl,rfl,SqL.of hu,ec,?_⟩;refine⟨_,rfl,_,_,rfl,rfl,?_⟩;have ev:((Mq.cI R2 rank i pivot).getD rank []).getD i 0=Mq.ent R2 rank i:=by rw[Mq.oR (by rw[Sx.len];omega),if_pos rfl];rfl
   refine⟨sx.trans s3,l3,zs3,_,rank+1,Mq.ent R2 rank i,sg,some (.int (i:Int)),some (.int (p:Int)),z,?_,sx.free n3,e3,I3,S3,b3,hSt.cl _ _ _ _ _ Sx hrm (by omega) nx px⟩;rw[ev];rfl
  ·refine⟨_,rfl,_,rfl,fY ?_⟩;exact⟨s1,lR,zs',R',rank,pivot,sign,_,_,_,rfl,nR,eR,I1,S1.skip hz,sb.skip hz,p1⟩
 ·rintro σ H1 ⟨s1,lR,zs',R',rank,pivot,sign,z5,z6,z7,rfl,nR,eR,I1,S1,sb,p1⟩;obtain⟨bR,bP⟩:=sb.bd5 S1 hm31;obtain⟨A1,c1,B1,_⟩:=S1.bar;have rm:=B1.rm;intro d hd;have nd:lR≠d:=fun z=>by rw[z,hd] at eR;cases eR
  refine⟨_,rfl,_,rfl,_,rfl,_,rfl,aB,[(.inr "rows",.ref lR),(.inr "rank",.int (rank:Int)),(.inr "pivot",.int pivot),(.inr "sign",.int sign)],rfl,by show 4<=15;decide,?_⟩;have sd:bG H1 (upd (upd H1 d (.dK [])) d (Jb lR rank pivot sign)):=(aH hd _).change hd;exact q d lR zs' R' rank pivot sign _ (s1.trans sd) (s1.free hd) nR aB (sd _ _ eR) (I1.same sd) S1 bR bP p1
theorem qU:(["row","side"]:List Str).Nodup:=by decide +kernel
theorem rA:(["row","many","end"]:List Str).Nodup:=by decide +kernel
abbrev lW:Stmt:=top 50
theorem pA:aT ["matrix","right","many","rows","end"] ["matrix","right"] (aE lW):=⟨rfl,rfl,rfl,by decide +kernel,rfl,by decide +kernel,by decide +kernel⟩
theorem Ht {dV:Value}(F:bZ K "solved" "solved" lW dV f fd)(ml:mg "len"=none)(mz:mg "zip"=none)(G1:aQ P w K mg base CX0 2 g1 gd1 ["some"] (Rt K))(b1:aS K gd1 ["some"] [])(k1:PySem.W.keepIn K (.ref g1)=true)(m1:mg "in_wholes"=some (.ref g1))(G2:aQ P w K mg base CX0 3 g2 gd2 ["rows","width"] (Ga K))(b2:aS K gd2 ["rows","width"] [])(k2:PySem.W.keepIn K (.ref g2)=true)(m2:mg "eliminated"=some (.ref g2))(G3:aQ P w K mg base CX0 2 g3 gd3 ["top","bottom"] gL)(b3:aS K gd3 ["top","bottom"] [])(k3:PySem.W.keepIn K (.ref g3)=true)(m3:mg "fraction"=some (.ref g3)) :
  aQ P w K mg base CX 5 f fd ["matrix","right"] (vS K):=by
 refine F.ok pA (fun vs H Q E h=>?_) (fun cdv A outer s H vs Q E hr h=>?_)
 ·obtain⟨g,bR,D0,H00,us,bs,X,qs,k,n,rfl,hU,hX,hB,hQ,ql,qL,qB,xP,xB,x4,hk,hBd,hn1,hnb,hz0,q⟩:=h;rfl
 obtain⟨g,bR,D0,H00,us,bs,X,qs,k,n,rfl,hU,hX,hB,hQ,ql,qL,qB,xP,xB,x4,hk,hBd,hn1,hnb,hz0,q⟩:=h;have hu:=Ap hr;have r3:=hr.mono (show 3<=4 by omega);have r2:=hr.mono (show 2<=4 by omega);refine⟨_,(aC (aW (i:=2) pA.nd rfl (Or.inr rfl) (bO bH rfl ml PySem.boot_len (aA (pv 0) aD)))
  (aC (kB (i:=3) (nl:=2) (fr:=[]) (Nc:=["row","side"]) (cl:=[]) (g:=(Gv K 2 (kE (iR 0) (kE (iR 1) Hf)))) pA.nd rfl rfl rfl ⟨rfl,rfl,by decide +kernel,by decide +kernel,fun x c h=>(by cases h),dS rfl,rfl,fun i n h=>(by simp at h)⟩
    (Jn rfl mz rfl (aA (pv 0) (aA (pv 1) aD))) (fun C s3 H3 fp pins=>(jA rfl (bU (aZ (i:=0) qU rfl (Or.inl rfl)) (bU (aZ (i:=1) qU rfl (Or.inl rfl)) gS)))) (fun C s3 H3 fp pins=>dX)
    (fun C s3 H3 fp pins=>(aP (oF (K:=K) rfl) (aI G1 r2 rfl m1 k1 b1 .nil aM (aA (aY kX (pv 0) (cV (aA (pv 1) aD))) aD)) aF (fun _ _=>rfl))) rfl)
  (aC (aW (i:=4) pA.nd rfl (Or.inr rfl) (aI G2 r3 rfl m2 k2 b2 .nil aM (aA (pv 3) (aA (pv 2) aD))))
  (aC (cE (bK wG (rJ hu (pv 4) cF (fun _ _=>rfl)) (pv 2) (bM _)) (aG fQ) bN)
  (aG (bA (fH (nl:=1) (fr:=[2,4]) (Nc:=["row","many","end"]) (cl:=[("many",s.heap.objs.size+1),("end",s.heap.objs.size+2)]) rfl ⟨rfl,rfl,by decide +kernel,by decide +kernel,(cP rfl (cP rfl (iB))),dS rfl,rfl,fun i n h=>match i,h with | 0,h=>by cases h;exact⟨2,rfl,rfl,rfl,rfl,.inl rfl⟩ | 1,h=>by cases h;exact⟨4,rfl,rfl,rfl,rfl,.inl rfl⟩ | k+2,h=>by rw[show 1+(k+2)=k+3 by omega] at h;cases h⟩
    (cS (rJ hu (pv 4) cF (fun _ _=>rfl))) (fun C s3 H3 fp pins=>(aZ (i:=0) rA rfl (Or.inl rfl))) (fun C s3 H3 fp pins=>dX)
    (fun C s3 H3 fp pins=>(aI G3 r2 rfl m3 k3 b3 .nil aM (aA (aP (oQ (K:=K) rfl) (pv 0) (pv 1) (fun _ _=>rfl)) (aA (rJ hu (pv 2) cF (fun _ _=>rfl)) aD))))))))))),?_⟩
 have lu:=hX.length;have lb:=hQ.length;have hw:∀row∈X,row.length=X.length:=fun row h=>(xB row h).2;have qP:=qL.pos;have lA:=zH ql;refine⟨_,rfl,g,us,rfl,.inl hU,?_⟩;refine⟨_,rfl,_,rfl,g,bR,rfl,⟨_,hU⟩,⟨_,hB⟩,fun D hD=>?_⟩;have sD:=aH hD (.lst []);refine Ak (xs:=us) (ys:=bs) (fun i zs H'=>bG H H'/\H' D=some (.lst zs)/\Imx D H' zs ((gZ X qs).take i)) ⟨sD,aB,.nil⟩ (fun i zs H' h=>h.2.1) (fun i zs H' _ h=>⟨h.1.seq hU,h.1.seq hB⟩) ?_ ?_
 ·rintro i zs x y H1 T1 ex ey ⟨s1,e1,I1⟩ hT C hC;obtain⟨u,ys,row,rfl,er,_,_,hu',fu⟩:=hX.get ex;obtain⟨v,qv,rfl,eq,fv⟩:=hQ.get ey;have hi:i < X.length:=(List.getElem?_eq_some_iff.mp er).1;have mem:=List.mem_of_getElem? er;have memq:=List.mem_of_getElem? eq;obtain⟨rb,rl⟩:=xB row mem;have lys:=fu.length;have sT:=aH hT (.tup [.ref u,.ref v]);refine⟨T1,_,rfl,SqT.of aB,rfl,_,_,rfl,_,_,rfl,rfl,qV.1,qV.2,fY ?_⟩;generalize upd H1 T1 (.tup [.ref u,.ref v])=H2 at sT ⊢;have s2:=s1.trans sT;refine⟨_,rfl,_,rfl,by show 1<=sizeLine;decide,fun lo hlo=>?_⟩;have s3:=aH hlo (.lst [.ref v]);have e3:upd H2 lo (.lst [.ref v]) lo=some (.lst [.ref v]):=aB;generalize upd H2 lo (.lst [.ref v])=H3 at s3 e3 ⊢;have s03:=s2.trans s3;refine⟨u,lo,_,_,rfl,rfl,s03 _ _ hu',e3,Nat.le_of_lt (bF (by simp only[List.length_cons,List.length_nil];omega)),fun p hp=>?_⟩;have s4:=aH hp (.lst (ys++[.ref v]));have e4:upd H3 p (.lst (ys++[.ref v])) p=some (.lst (ys++[.ref v])):=aB;generalize upd H3 p (.lst (ys++[.ref v]))=H4 at s4 e4 ⊢;have s04:=s03.trans s4;have s14:=sT.trans (s3.trans s4);refine⟨p,_,row++[qv],k,rfl,SqL.of e4,(fu.same s04).app (.cons (s04.fq fv) .nil),fun z hz=>?_,fun z hz=>?_,by rw[List.length_append];simp only[List.length_cons,List.length_nil];omega,by rw[List.length_append,rl];simp only[List.length_cons,List.length_nil];rw[show X.length+(0+1)=X.length+1 by omega];omega,fun t l H5 s5 nl ht hl=>?_⟩
  ·rcases List.mem_append.mp hz with z1 | z1
   ·exact xP row mem z z1
   ·have:z=qv:=by simpa using z1
    rw[this];exact qP qv memq
  ·rcases List.mem_append.mp hz with z1 | z1
   ·exact rb z z1
   ·have:z=qv:=by simpa using z1
    rw[this];exact qB qv memq
  have s15:=s14.trans s5;have e5:=s15 _ _ e1;have ne:l≠D:=fun z=>by rw[z,s14 _ _ e1] at nl;cases nl
  have lz:=I1.length;rw[List.length_take,lA] at lz;refine⟨t,_,_,_,rfl,rfl,ht,rfl,e5,bF (by omega),hC _ _ ⟨(s1.trans s15).change hD,aB,?_⟩⟩;have ee:(gZ X qs).take (i+1)=(gZ X qs).take i++[Mq.iw (row++[qv])]:=by
   rw[List.take_add_one];unfold gZ kQ;rw[List.getElem?_map,List.getElem?_zipWith,er,eq];rfl
  rw[ee];exact((I1.same s15).app (.cons ne hl .nil)).upd
 rintro zs H1 ⟨s1,e1,I1⟩;rw[show min us.length bs.length=(gZ X qs).length by omega,List.take_length] at I1;have bits4:bw n X.length<=9000:=Nat.le_trans hnb (by decide);have wA:∀i,i < X.length->((gZ X qs).getD i []).length=X.length+1:=fun i hi=>by
  rw[tE ql hi,tJ,List.length_append,hw _ (List.mem_of_getElem? (uT hi))];rfl
 refine⟨_,rfl,_,rfl,D,D,zs,gZ X qs,X.length,X.length+1,n,fun R=>Mq.KI X.length (Mq.at2 (gZ X qs)) R/\Mq.KJ X.length (Mq.at2 (gZ X qs)) R,by rw[lu];rfl,SqL.of e1,I1,lA,wA,by omega,by omega,hBd,hn1,by omega,by omega,⟨fun Φ _ hz=>hz,fun Φ _ hz=>hz⟩,Ju,fun d lE zE R' rank pivot sign H2 s2 nd nlE ed el IE SE bE bp LE=>?_⟩;obtain⟨g1',g2',g3',g4'⟩:=zG ed;have s02:=s1.trans s2;have wr:=Ls xP qP ql hw SE;refine⟨_,rfl,d,_,rfl,g2',_,rfl,_,_,rfl,rfl,_,rfl,rD (fun e=>?_) (fun e=>?_)⟩
 ·-- lame
  have hr':rank < X.length:=by simp at e;omega
  have hz:wgt X=0:=by
   rcases wr with z | z
   ·exact z.2
   ·omega
  exact absurd hz hz0
 ·-- whole
  have hr':rank=X.length:=by
   rcases wr with z | z
   ·simp at e;omega
   ·exact z.1
  have hz:wgt X≠0:=by
   rcases wr with z | z
   ·omega
   ·exact z.2
  subst hr';have dn:=SE.dne;have pn:pivot≠0:=fun z=>dn (by rw[z];simp);have lzE:=IE.length;rw[SE.len] at lzE;refine⟨_,rfl,d,_,rfl,g1',lE,rfl,⟨_,SqL.of el⟩,fun D2 hD2=>?_⟩;have sD2:=aH hD2 (.lst []);refine dE (xs:=zE) (fun i ws H'=>bG H2 H'/\H' D2=some (.lst ws)/\Fqs K H' ws ((List.range i).map fun i=>Mq.red (Mq.ent R' i X.length) pivot)) ⟨sD2,aB,.nil⟩ (fun i ws H' h=>h.2.1) (fun i ws H' _ h=>h.1.seq (SqL.of el)) ?_ ?_
  ·rintro i ws x H3 hx ⟨s3,e3,F3⟩ C hC;have hi:i < X.length:=by have:=(List.getElem?_eq_some_iff.mp hx).1;omega
   obtain⟨u,eu,nu,hu2⟩:=IE.at (i:=i) (by rw[SE.len];exact hi);have exu:x=.ref u:=by rw[eu] at hx;cases hx;rfl
   subst exu;have wid:=SE.wid i hi;have lz:=F3.length;rw[List.length_map,List.length_range] at lz;have ea:=bQ (jW (l:=R'.getD i []) (i:=X.length) (by omega));rw[<- lu] at ea;refine⟨dC.1,dC.2,fY ?_⟩;refine⟨_,rfl,_,rfl,u,_,_,_,rfl,rfl,SqL.of (s3 _ _ hu2),ea,?_⟩;rw[lu];refine⟨_,rfl,d,_,rfl,zG (s3 _ _ ed) |>.2.2.1,_,_,bw n X.length,rfl,pn,bp,bits4,fun r H4 s4 e4=>?_⟩;have eD:=s4 _ _ e3;refine⟨eD,bF (by omega),hC _ _ ⟨(s3.trans s4).change hD2,aB,?_⟩⟩;rw[List.range_succ,List.map_append];exact((F3.same s4).app (.cons (Fq.of e4) .nil)).upd eD
  rintro ws H3 ⟨s3,e3,F3⟩;rw[lzE] at F3;have gd:∀j,j < X.length->((List.range X.length).map fun i=>Mq.red (Mq.ent R' i X.length) pivot).getD j Mq.z0=Mq.red (Mq.ent R' j X.length) pivot:=fun j hj=>by
   rw[List.getD_eq_getElem?_getD,List.getElem?_map,List.getElem?_range hj];rfl
  refine q D2 ws _ H3 (s02.trans s3) (s02.free hD2) e3 F3 ⟨⟨by simp,fun p hp=>?_,fun p hp=>?_,fun i hi=>?_⟩,fun v hv j hj=>?_⟩ (Rj pn bp fun p hp=>by obtain⟨i,hi,rfl⟩:=List.mem_map.mp hp;exact⟨_,bE i X.length,rfl⟩)
  ·obtain⟨i,_,rfl⟩:=List.mem_map.mp hp;exact Mq.gU pn
  ·obtain⟨i,hi,rfl⟩:=List.mem_map.mp hp;have le:=Mq.kZ (t:=Mq.ent R' i X.length) pn;exact⟨((bE i X.length).le le.1).mono bits4,(bp.le le.2).mono bits4⟩
  ·rw[<- Ub xP qP ql hw LE.1 SE hi];refine Mq.aK fun j hj=>?_;rw[gd j hj,Mq.lV pn];rfl
  ·rw[gd j hj,Mq.lV pn,<- Vf xP qP ql hw LE.2 SE hv hj];rfl
abbrev wHo:Kd->Bool:=fun k=>inV (.str k.wd) [.str "hold"]
def Rx (CN:Addr)(K:PySem.W.Frag):Sp:=fun vs H Q _=>∃(n l:Addr) (m:Nat) (ds:List RD),vs=[.ref n]/\eJ CN K H n l (m:Int) ds/\(∀d∈ds,cT (m:Int) d.2.1 d.2.2.1)/\1<=m/\m<=20/\ds.length<=40/\(fD wHo (skl ds) ds.length).2=[]/\Mp m ds=[]/\∀H',bG H H'->Q .non H'
abbrev Gs:Stmt:=top 66
theorem Nq:aT ["net","held","points"] ["net"] (aE Gs):=⟨rfl,rfl,rfl,by decide +kernel,rfl,by decide +kernel,by decide +kernel⟩
theorem Ul {dV:Value}(F:bZ K "refuse_unanswered" "refuse_unanswered" Gs dV f fd){CN:Addr}(ml:mg "len"=none)(G1:aQ P w K mg base CX0 5 g1 gd1 ["net","words"] (Ee CN K))(b1:aS K gd1 ["net","words"] [])(k1:PySem.W.keepIn K (.ref g1)=true)(m1:mg "rings"=some (.ref g1))(G2:aQ P w K mg base CX0 6 g2 gd2 ["net"] (Dp CN K))(b2:aS K gd2 ["net"] [])(k2:PySem.W.keepIn K (.ref g2)=true)(m2:mg "floating"=some (.ref g2)) :
  aQ P w K mg base CX 7 f fd ["net"] (Rx CN K):=by
 refine F.ok Nq (fun vs H Q E h=>?_) (fun cdv A outer s H vs Q E hr h=>?_)
 ·obtain⟨n,l,m,ds,rfl,nt,pt,mo,m20,h40,hR,hF,q⟩:=h;rfl
 obtain⟨n,l,m,ds,rfl,nt,pt,mo,m20,h40,hR,hF,q⟩:=h;have r5:=hr.mono (show 5<=6 by omega);refine⟨_,(aC (aW (i:=1) Nq.nd rfl (Or.inl rfl) (aI G1 r5 rfl m1 k1 b1 .nil aM (aA (pv 0) (aA (cV (aA cF aD)) aD))))
  (aC (cE (bK Ew (bO bH rfl ml PySem.boot_len (aA (pv 1) aD)) aF (bM _)) (aG fQ) bN)
  (aC (aW (i:=2) Nq.nd rfl (Or.inl rfl) (aI G2 hr rfl m2 k2 b2 .nil aM (aA (pv 0) aD)))
  (aG (cE (bK Ew (bO bH rfl ml PySem.boot_len (aA (pv 2) aD)) aF (bM _)) (aG fQ) bN))))),?_⟩
 refine⟨_,rfl,by show 1<=sizeLine;decide,fun L hL=>?_⟩;have s1:=aH hL (.lst [.str "hold"]);have e1:upd H L (.lst [.str "hold"]) L=some (.lst [.str "hold"]):=aB;generalize upd H L (.lst [.str "hold"])=H1 at s1 e1 ⊢;refine⟨n,l,.ref L,m,ds,wHo,rfl,nt.same s1,pt,m20,h40,.seq (SqL.of e1) rfl,fun r us H2 s2 nr er G nx=>?_⟩;rw[hR] at G;have lu:us=[]:=List.eq_nil_of_length_eq_zero (by have:=G.l;simpa using this);subst lu;refine⟨_,rfl,r,_,rfl,.inl (SqL.of er),_,_,rfl,rfl,_,rfl,L2.ifF rfl ?_⟩;have s02:=s1.trans s2;refine⟨_,rfl,n,l,m,ds,rfl,nt.same s02,pt,mo,m20,by omega,fun l' H3 s3 nl e3=>?_⟩;rw[hF] at e3;refine⟨_,rfl,l',_,rfl,.inl (SqL.of e3),_,_,rfl,rfl,_,rfl,L2.ifF rfl ?_⟩;exact q H3 (s02.trans s3)
end
end K72
set_option maxHeartbeats 1000000
namespace L2
open PySem PySem.Spec PyProof.Rows Shp
abbrev wd (m:Nat)(ds:List RD):Nat:=m - 1+bS ds
structure Sv (m:Nat) (ds:List RD) (r:Nat->Rat) (v:Nat->Rat):Prop where
 z:v 0=0
 e:∀i,i < wd m ds->(Mq.rs (wd m ds) fun j=>eqM m ds (i+1) (j+1)*v (j+1))=r (i+1)
def un (k x:Nat):Rat:=if x=k then 1 else 0
abbrev Pk (m:Nat)(ds:List RD)(a b:Nat)(v:Nat->Rat):Prop:=Sv m ds (fun x=>un a x - un b x) v
section
variable {m:Nat} {ds:List RD} {r v:Nat->Rat}
theorem Sv.uni (o:Nof m ds){u:Nat->Rat}(h:Sv m ds r v)(g:Sv m ds r u):∀j,j<=wd m ds->v j=u j:=fun j hj=>by
 by_cases c:j=0
 ·rw[c,h.z,g.z]
 ·have:=o.uni (v:=fun j=>v (j+1)) (w:=fun j=>u (j+1)) (r:=fun i=>r (i+1)) h.e g.e (j - 1) (by unfold wd at hj;omega)
  rwa [show j - 1+1=j by omega] at this
theorem Sv.row (o:Nof m ds)(h:Sv m ds r v){x:Nat}(x1:1<=x)(xw:x<=wd m ds):nt v m ds x+hw v m ds x=r x:=by
 have e:=h.e (x - 1) (by omega);have m1:=o.m1;rw[show x - 1+1=x by omega] at e;have c:∀j,j < wd m ds->eqM m ds x (j+1)*v (j+1)=v (j+1)*eqM m ds (j+1) x:=fun j _=>by rw[uB,Rat.mul_comm]
 rw[Mq.aK c,By (m:=m) (u:=v) h.z (by unfold wd;omega) x ds m o.pt m1 (by unfold wd;omega)] at e;exact e
theorem Sv.pt (o:Nof m ds)(h:Sv m ds r v){x:Nat}(x1:1<=x)(xm:x < m):nt v m ds x=r x:=by
 have:=h.row o x1 (by unfold wd;omega);rw[Ay ds m xm] at this;grind
theorem Sv.hold (o:Nof m ds)(h:Sv m ds r v){x:Nat}(xm:m<=x)(xw:x<=wd m ds):hw v m ds x=r x:=by
 have:=h.row o (by have:=o.m1;omega) xw;rw[Cq ds m o.pt xm] at this;grind
theorem Mw (o:Nof m ds):Mq.rs m (fun p=>nt v m ds p)=0:=by
 have:=Sl (u:=v) (m:=m) (fun _=>1) ds m o.pt (fun _ _ _=>rfl);rw[<- this];exact Mq.aK fun p _=>by grind
theorem Jg {n k:Nat}(hk:k < n)(F:Nat->Rat):Mq.rs n (fun p=>F p*un k p)=F k:=by
 have:∀p,p < n->F p*un k p=if k=p then F p else 0:=fun p _=>by
  unfold un
  by_cases c:p=k
  ·rw[if_pos c,if_pos c.symm];grind
  ·rw[if_neg c,if_neg (fun z=>c z.symm)];grind
 rw[Mq.aK this,Mq.yO,if_pos hk]
theorem Jt {n k:Nat}(hk:k < n):Mq.rs n (fun p=>un k p)=1:=by
 have:=Jg hk (fun _=>1);rw[<- this];exact Mq.aK fun p _=>by grind
theorem Pk.all {a b:Nat}(o:Nof m ds)(h:Pk m ds a b v)(ha:a < m)(hb:b < m):∀p,p < m->nt v m ds p=un a p - un b p:=fun p hp=>by
 by_cases c:p=0
 ·have s:=Mw (v:=v) o;have t:Mq.rs m (fun p=>un a p - un b p)=0:=by
   have e:∀p,p < m->un a p - un b p=un a p + - un b p:=fun p _=>by grind
   rw[Mq.aK e,Mq.dA,Mq.jU,Jt ha,Jt hb];grind
  obtain⟨k,rfl⟩:∃k,m=k+1:=⟨m - 1,by omega⟩
  rw[Mq.kH] at s t;have e:Mq.rs k (fun i=>nt v (k+1) ds (i+1))=Mq.rs k (fun i=>un a (i+1) - un b (i+1)):=Mq.aK fun i hi=>h.pt o (by omega) (by omega);rw[e] at s;rw[c];grind
 ·exact h.pt o (by omega) hp
end
end L2
set_option maxHeartbeats 2000000
set_option maxHeartbeats 4000000
namespace L2
open PySem PySem.Spec PyProof.Rows Shp
def lvS (m:Nat)(sol:List Mq.Q2):List Mq.Q2:=(0,1) :: sol.take (m - 1)
section
variable {l CA a:Addr} {K:PySem.W.Frag} {H H':Hp} {lv fl:List Mq.Q2}
theorem dF.fqsL {as:List V}(hl:H l=some (.lst as))(e:dF l H H'):∀{xs:List V} {ps:List Mq.Q2},Fqs K H xs ps->Fqs K H' xs ps
 |_,_,.nil=>.nil
 |_,_,.cons f q=>.cons (e.seqT hl f) (dF.fqsL hl e q)
end
theorem uI {p:Mq.Q2}(l:Mq.Low p){a L:Int}{b:Nat}(hL:1<=L)(LB:Mq.B b L)(ab:Mq.B b a)(h:Mq.val p=(a:Rat) / (L:Rat)):Mq.Bd b p/\p.2 ∣ L:=by
 obtain⟨d,t⟩:=Mq.Am l hL h;refine⟨⟨ab.le t,LB.le ?_⟩,d⟩;have:=Int.le_of_dvd (by omega) d;have:=l.pos;omega
end L2
set_option maxHeartbeats 1000000
namespace L2
open PySem PySem.Spec PyProof.Rows Shp
structure EqB (m b:Nat) (L:Int) (ds:List RD):Prop where
 o:Nof m ds
 w26:wd m ds<=26
 b1:1<=b
 hb:10+b+b*(wd m ds+1)<=8000
 hbw:bw b (wd m ds)<=4000
 L1:1<=L
 LB:Mq.B b L
 eM:∀i j,∃a:Int,Mq.B b a/\eqM m ds (i+1) (j+1)=(a:Rat) / (L:Rat)
def Q01 (p:Mq.Q2):Prop:=Mq.Low p/\p.2=1/\p.1.natAbs<=1
theorem Q01.bd {p:Mq.Q2}{b:Nat}(h:Q01 p)(b1:1<=b):Mq.Bd b p:=by
 obtain⟨_,e,l⟩:=h;have:(2:Nat) ^ 1<=2 ^ b:=Nat.pow_le_pow_right (by decide) b1;exact⟨by show p.1.natAbs < 2 ^ b;omega,by show p.2.natAbs < 2 ^ b;rw[e];show 1 < 2 ^ b;omega⟩
theorem Q01.ov {p:Mq.Q2}{b:Nat}{L:Int}(h:Q01 p)(L1:1<=L)(LB:Mq.B b L):p.2 ∣ L/\∃a:Int,Mq.B b a/\Mq.val p=(a:Rat) / (L:Rat):=by
 obtain⟨_,e,l⟩:=h;refine⟨by rw[e];exact Int.one_dvd _,p.1*L,LB.le ?_,?_⟩
 ·rw[Int.natAbs_mul]
  calc p.1.natAbs*L.natAbs<=1*L.natAbs:=Nat.mul_le_mul_right _ l
   _=L.natAbs:=Nat.one_mul _
 ·have:=Mq.lF L1;unfold Mq.val;rw[e,Rat.intCast_mul,show ((1:Int):Rat)=1 by rfl];grind
def uP (sol:List Mq.Q2)(x:Nat):Rat:=if x=0 then 0 else Mq.val (sol.getD (x - 1) Mq.z0)
section
variable {m b N:Nat} {L:Int} {ds:List RD} {X:List (List Mq.Q2)} {Y qs ps:List Mq.Q2}
theorem EqB.cell (h:EqB m b L ds)(e:yQ m ds N X Y):∀row∈X,(∀p∈row,Mq.Bd b p/\p.2 ∣ L/\∃a:Int,Mq.B b a/\Mq.val p=(a:Rat) / (L:Rat))/\row.length=X.length:=fun row hr=>by
 refine⟨fun p hp=>?_,by rw[e.x.w row hr,e.x.h]⟩;obtain⟨i,hi⟩:=List.getElem?_of_mem hr;obtain⟨j,hj⟩:=List.getElem?_of_mem hp;have ep:p=iT X i j:=by
  unfold iT;rw[List.getD_eq_getElem?_getD (l:=X),hi];show p=row.getD j (0,1);rw[List.getD_eq_getElem?_getD,hj];rfl
 obtain⟨a,ab,ea⟩:=h.eM i j;have ev:Mq.val p=(a:Rat) / (L:Rat):=by rw[ep,e.vx,ea]
 obtain⟨x,y⟩:=uI (e.x.l row hr p hp).1 h.L1 h.LB ab ev;exact⟨x,y,a,ab,ev⟩
theorem EqB.pos (e:yQ m ds N X Y):Mq.fF X:=fun row hr p hp=>(e.x.l row hr p hp).1.pos
theorem EqB.wgt (h:EqB m b L ds)(e:yQ m ds N X Y):wgt X≠0:=by
 by_cases c:1<=X.length
 ·exact h.o.wgt_ne e (EqB.pos e) (fun row hr=>(h.cell e row hr).2) c
 ·have:X=[]:=List.eq_nil_of_length_eq_zero (by omega);subst this;show (1:Rat)≠0;decide
theorem EqB.sol (e:yQ m ds N X Y)(s:Ui X qs ps){r:Nat->Rat}(vq:∀i,i < wd m ds->Mq.val (qs.getD i Mq.z0)=r (i+1)):Sv m ds r (uP ps):=by
 have lX:X.length=wd m ds:=e.x.h;refine⟨if_pos rfl,fun i hi=>?_⟩;rw[<- vq i hi,<- s.sum i (by omega),lX];refine Mq.aK fun j _=>?_;unfold uP;rw[if_neg (by omega),Nat.add_sub_cancel,Jc e]
end
theorem Gb {m:Nat}{ps:List Mq.Q2}(hl:m - 1<=ps.length){p:Nat}(hp:p < m):Mq.val ((lvS m ps).getD p (0,1))=uP ps p:=by
 unfold lvS uP
 by_cases c:p=0
 ·subst c;rw[if_pos rfl];exact Mq.kM
 ·rw[if_neg c];obtain⟨q,rfl⟩:∃q,p=q+1:=⟨p - 1,by omega⟩
  rw[Nat.add_sub_cancel,List.getD_eq_getElem?_getD,List.getElem?_cons_succ,List.getElem?_take_of_lt (by omega),<- List.getD_eq_getElem?_getD]
theorem Ec {m:Nat}{ps:List Mq.Q2}(m1:1<=m)(hl:m - 1<=ps.length):(lvS m ps).length=m:=by
 unfold lvS;rw[List.length_cons,List.length_take];omega
theorem En {m:Nat}{ps:List Mq.Q2}(h:Mq.gD ps):Mq.gD (lvS m ps):=fun p hp=>by
 rcases List.mem_cons.mp hp with z | z
 ·rw[z];exact⟨by decide,by decide⟩
 ·exact h p (List.mem_of_mem_take z)
theorem Ng {m n:Nat}{ps:List Mq.Q2}(h:Ovr n ps):Ovr n (lvS m ps):=by
 obtain⟨D,D1,bD,al⟩:=h.e;refine⟨D,D1,bD,fun p hp=>?_⟩;rcases List.mem_cons.mp hp with z | z
 ·refine⟨0,Nat.two_pow_pos _,?_⟩;rw[z,Mq.kM,Rat.div_def];show (0:Rat)=((0:Int):Rat)*_;rw[show ((0:Int):Rat)=0 by rfl];grind
 ·exact al p (List.mem_of_mem_take z)
theorem Ovr.minus {n:Nat}{ps:List Mq.Q2}(h:Ovr n ps)(low:Mq.gD ps){p q:Mq.Q2}(hp:p∈ps)(hq:q∈ps):Mq.Bd (n+1) (Mq.minus p q)/\Mq.Bd n p/\Mq.Bd n q:=by
 obtain⟨D,D1,bD,al⟩:=h.e;obtain⟨t,bt,et⟩:=al p hp;obtain⟨s,bs,es⟩:=al q hq;have lp:=low p hp;have lq:=low q hq;refine⟨?_,(uI lp D1 bD bt et).1,(uI lq D1 bD bs es).1⟩;refine(uI (Mq.mD lp.pos lq.pos) D1 (bD.mono (by omega)) (bt.sub bs) ?_).1;rw[Mq.mC lp.pos lq.pos,et,es,Rat.intCast_sub,Rat.div_def,Rat.div_def,Rat.div_def];grind
structure Cz (CN:Addr) (K:PySem.W.Frag) (H:Hp) (n l:Addr) (m b:Nat) (kb:Nat->Nat) (L:Int) (ds:List RD):Prop where
 nt:eJ CN K H n l (m:Int) ds
 ok:∀i d,ds[i]?=some d->Hg (m:Int) d/\Mq.Bd (kb i) d.2.2.2
 m20:m<=20
 h40:ds.length<=40
 cu:jT kb ds.length+30<=8900
 eb:EqB m b L ds
theorem Cz.same {CN:Addr}{K:PySem.W.Frag}{H H':Hp}{n l:Addr}{m b:Nat}{kb:Nat->Nat}{L:Int}{ds:List RD}(s:bG H H')(h:Cz CN K H n l m b kb L ds):Cz CN K H' n l m b kb L ds:=⟨h.nt.same s,h.ok,h.m20,h.h40,h.cu,h.eb⟩
end L2
set_option maxHeartbeats 4000000
namespace K72
open PySem L2 Shp
section
variable {P:Program} {w:World} {K:PySem.W.Frag} {mg:Str->Option Value} {base:Heap} {f g1 g2 g3 g4 g5 g6 g7 g8:Addr} {fd gd1 gd2 gd3 gd4 gd5 gd6 gd7 gd8:FuncData} {CX:CXT}
variable {CR:Addr} {CK:Kd->Addr} {fW fJ fT fS:Kd->Addr} {fdW fdJ fdT fdS:Kd->FuncData}
theorem xG {K:PySem.W.Frag}{H0 H:Hp}{D:Addr}:∀{us:List V} {X:List (List Mq.Q2)},Fms K H0 H us X->(∀x∈us,x≠.ref D)->Fmd K H0 D H us X
 | [],[],_,_=>.nil
 | [],_ :: _,h,_=>by have:=h.l;simp at this
 |_ :: _,[],h,_=>by have:=h.l;simp at this
 |x :: us,ps :: X,h,n=>by
  obtain⟨a,xs,rfl,n0,h1,h2⟩:=h.r 0 x ps rfl rfl;exact .cons n0 (fun z=>n _ (List.mem_cons_self ..) (by rw[z])) h1 h2 (xG ⟨by have:=h.l;simpa using this,fun i y qs e1 e2=>h.r (i+1) y qs (by simpa using e1) (by simpa using e2)⟩ fun y hy=>n y (List.mem_cons_of_mem _ hy))
theorem yG (xs:List V)(k:Nat):iU xs none (some (k:Int))=xs.take k:=by
 unfold iU;have h1:HT.sIx xs.length 0 none=0:=rfl;have h2:HT.sIx xs.length xs.length (some (k:Int))=min k xs.length:=by simp[HT.sIx];omega
 rw[h1,h2,List.drop_zero,Nat.sub_zero,List.take_eq_take_iff];omega
theorem Fqs.take {K:PySem.W.Frag}{H:Hp}:∀(k:Nat) {xs:List V} {ps:List Mq.Q2},Fqs K H xs ps->Fqs K H (xs.take k) (ps.take k)
 |0,_,_,h=>.nil
 |_+1,_,_,.nil=>.nil
 |k+1,_,_,.cons f q=>.cons f (Fqs.take k q)
theorem Ow (k:Kd):wHo k=true↔k=.ho:=by
 cases k
 ·exact⟨fun h=>absurd h (by decide +kernel),fun h=>by cases h⟩
 ·exact⟨fun h=>absurd h (by decide +kernel),fun h=>by cases h⟩
 ·exact⟨fun _=>rfl,fun _=>by decide +kernel⟩
theorem Nz {m:Nat}{ds:List RD}(o:Nof m ds):Mp m ds=[]:=by
 unfold Mp;rw[List.filter_eq_nil_iff.mpr fun p hp=>?_]
 ·rfl
 ·have pm:=List.mem_range.mp hp;rw[(Kw o.pt pm (by have:=o.m1;omega)).mpr (o.cn p pm).symm];simp
theorem Qe {H:Hp}{x dx C:Addr}(hx:H x=none)(hd:H dx=none):bG H (upd (upd H dx (.own x)) x (.ins C dx [])):=fun b o h=>by
 have n1:b≠x:=fun z=>by rw[z,hx] at h;cases h
 have n2:b≠dx:=fun z=>by rw[z,hd] at h;cases h
 rw[bC n1,bC n2];exact h
def Bs (CN:Addr)(K:PySem.W.Frag):Sp:=fun vs H Q _=>∃(n l g r D:Addr) (H0:Hp) (m b N:Nat) (L:Int) (ds:List RD) (us ys:List V) (X:List (List Mq.Q2)) (Y qs:List Mq.Q2),vs=[.ref n,.ref g,.ref r]/\eJ CN K H n l (m:Int) ds/\SqL K H g us/\Fmd K H0 D H us X/\yQ m ds N X Y/\EqB m b L ds/\SqL K H r ys/\Fqs K H ys qs/\qs.length=X.length/\(∀p∈qs,Q01 p)/\
 ∀t zs ps H',H t=none->bG H H'->H' t=some (.lst zs)->Fqs K H' zs (lvS m ps)->Ui X qs ps->Ovr (bw b (wd m ds)) ps->Q (.ref t) H'
def Jm (CN:Addr)(K:PySem.W.Frag):Sp:=fun vs H Q _=>∃(n l:Addr) (m b:Nat) (kb:Nat->Nat) (L:Int) (ds:List RD) (s g:Nat),vs=[.ref n,.int (s:Int),.int (g:Int)]/\Cz CN K H n l m b kb L ds/\s < m/\g < m/\
 ∀t zs hp v H',H t=none->bG H H'->H' t=some (.lst zs)->Fqs K H' zs hp->hp.length=m->Mq.gD hp->Ovr (bw b (wd m ds)) hp->Pk m ds g s v->(∀p,p < m->Mq.val (hp.getD p (0,1))=v p)->Q (.ref t) H'
abbrev Hw:Stmt:=top 69
theorem Xn:aT ["net","matrix","right"] ["net","matrix","right"] (aE Hw):=⟨rfl,rfl,rfl,by decide +kernel,rfl,by decide +kernel,by decide +kernel⟩
theorem Uf {dV:Value}(F:bZ K "heights_by" "heights_by" Hw dV f fd){CN:Addr}(NTx:NT K mg CN){aN:Addr}(fN:∀H,Fq K H aN (0,1))(mNO:mg "NOUGHT"=some (.ref aN)){gMa:Addr}{gdMa:FuncData}(GMa:aQ P w K mg base CX0 1 gMa gdMa ["self"] (sV CN K))(bMa:aS K gdMa ["self"] [])(mMa:gH K CN "many" gMa)(G1:aQ P w K mg base CX0 5 g1 gd1 ["matrix","right"] (vS K))(b1:aS K gd1 ["matrix","right"] [])(k1:PySem.W.keepIn K (.ref g1)=true)(m1:mg "solved"=some (.ref g1)) :
  aQ P w K mg base CX 6 f fd ["net","matrix","right"] (Bs CN K):=by
 refine F.ok Xn (fun vs H Q E h=>?_) (fun cdv A outer s H vs Q E hr h=>?_)
 ·obtain⟨n,l,g,r,D,H0,m,b,N,L,ds,us,ys,X,Y,qs,rfl,nt,hg,FX,EO,EB,hr0,FQ,lq,h01,q⟩:=h;rfl
 obtain⟨n,l,g,r,D,H0,m,b,N,L,ds,us,ys,X,Y,qs,rfl,nt,hg,FX,EO,EB,hr0,FQ,lq,h01,q⟩:=h;have r1:=hr.mono (show 1<=5 by omega);refine⟨_,(aG (bA (aY kX (cV (aA (dB (v:=.ref aN) rfl mNO rfl) aD)) (fC gF (aI G1 hr rfl m1 k1 b1 .nil aM (aA (pv 1) (aA (pv 2) aD))) gV (fK (aY iZ (fM (pv 0) NTx.cl mMa GMa r1 bMa .nil aM) aF)))))),?_⟩;have lX:X.length=wd m ds:=EO.x.h;have lw:wd m ds=m - 1+bS ds:=rfl;have mo:=EB.o.m1;have w26:=EB.w26;refine⟨by show 1<=sizeLine;decide,fun L1 hL1=>?_⟩;have s1:=aH hL1 (.lst [.ref aN]);have e1:upd H L1 (.lst [.ref aN]) L1=some (.lst [.ref aN]):=aB;generalize upd H L1 (.lst [.ref aN])=H1 at s1 e1 ⊢;refine⟨_,rfl,_,rfl,g,r,D,H0,us,ys,X,qs,b,b,rfl,s1.seq hg,FX.same s1,s1.seq hr0,FQ.same s1,lq,fun p hp=>(h01 p hp).1,fun p hp=>(h01 p hp).bd EB.b1,EqB.pos EO,fun row hr=>⟨fun p hp=>((EB.cell EO row hr).1 p hp).1,(EB.cell EO row hr).2⟩,by omega,by rw[lX];exact EB.hb,Of (EqB.pos EO) (fun p hp=>(h01 p hp).1.pos) lq (fun row hr p hp=>((EB.cell EO row hr).1 p hp).2) (fun p hp=>(h01 p hp).ov EB.L1 EB.LB) EB.L1,EB.b1,by rw[lX];exact Nat.le_trans EB.hbw (by decide),EB.wgt EO,fun kn zk ps H2 s2 nkn ekn Fk SU OV=>?_⟩;rw[lX] at OV;have s02:=s1.trans s2;obtain⟨dn,hn⟩:=(nt.same s02).ob;have lps:ps.length=X.length:=SU.len;have lzk:=Fk.length;refine⟨_,rfl,n,dn,_,rfl,hn,dM _ _ (by decide +kernel) (by decide +kernel),n,l,_,ds,rfl,nt.same s02,_,_,rfl,rfl,?_⟩;have em:(m:Int) - 1=((m - 1:Nat):Int):=by omega
 refine⟨_,rfl,kn,zk,rfl,SqL.of ekn,fun S hS=>?_⟩;rw[em,yG];have s3:=aH hS (.lst (zk.take (m - 1)));have e3:upd H2 S (.lst (zk.take (m - 1))) S=some (.lst (zk.take (m - 1))):=aB;generalize upd H2 S (.lst (zk.take (m - 1)))=H3 at s3 e3 ⊢;refine⟨L1,S,_,_,rfl,rfl,(s2.trans s3) _ _ e1,e3,Nat.le_of_lt (bF (by rw[List.length_take];simp only[List.length_cons,List.length_nil];omega)),fun V1 hV1=>?_⟩;have s4:=aH hV1 (.lst ([.ref aN]++zk.take (m - 1)));have e4:upd H3 V1 (.lst ([.ref aN]++zk.take (m - 1))) V1=some (.lst ([.ref aN]++zk.take (m - 1))):=aB;generalize upd H3 V1 (.lst ([.ref aN]++zk.take (m - 1)))=H4 at s4 e4 ⊢;exact q V1 _ ps H4 ((s02.trans s3).free hV1) (s02.trans (s3.trans s4)) e4 (.cons (fN _) (Fqs.take _ (Fk.same (s3.trans s4)))) SU OV
theorem Xr (s g x:Nat):- dl s g x*Mq.val (1,1)=un g x - un s x:=by
 rw[Mq.rX];unfold dl un
 by_cases a:s=x<;>by_cases b:g=x
 ·rw[if_pos a,if_pos b,if_pos b.symm,if_pos a.symm];grind
 ·rw[if_pos a,if_neg b,if_neg (fun z=>b z.symm),if_pos a.symm];grind
 ·rw[if_neg a,if_pos b,if_pos b.symm,if_neg (fun z=>a z.symm)];grind
 ·rw[if_neg a,if_neg b,if_neg (fun z=>b z.symm),if_neg (fun z=>a z.symm)];grind
theorem Vn (g s x:Nat):∃a:Int,a.natAbs<=1/\un g x - un s x=(a:Rat) / ((1:Int):Rat):=by
 have one:((1:Int):Rat)=1:=rfl;unfold un
 by_cases a:x=g<;>by_cases b:x=s
 ·exact⟨0,by decide,by rw[if_pos a,if_pos b,one,show ((0:Int):Rat)=0 by rfl];grind⟩
 ·exact⟨1,by decide,by rw[if_pos a,if_neg b,one];grind⟩
 ·exact⟨-1,by decide,by rw[if_neg a,if_pos b,one,show ((-1:Int):Rat)=-1 by rfl];grind⟩
 ·exact⟨0,by decide,by rw[if_neg a,if_neg b,one,show ((0:Int):Rat)=0 by rfl];grind⟩
abbrev Hk:Stmt:=top 68
theorem Lm:aT ["net","start","goal","matrix","right"] ["net","start","goal"] (aE Hk):=⟨rfl,rfl,rfl,by decide +kernel,rfl,by decide +kernel,by decide +kernel⟩
theorem Th {dV:Value}(F:bZ K "pushed_heights" "pushed_heights" Hk dV f fd){CN:Addr}(T:RT K mg CR CK)(ml:mg "len"=none){aN aO:Addr}(fN:∀H,Fq K H aN (0,1))(mNO:mg "NOUGHT"=some (.ref aN))(fO:∀H,Fq K H aO (1,1))(mON:mg "ONE"=some (.ref aO)){gI:Addr}{gdI:FuncData}(GI:aQ P w K mg base CX0 1 gI gdI ["self","start","goal","size"] (yF CK))(bI:aS K gdI ["self","start","goal","size"] [])(MK:∀k,Mk K (CK k) gI)(G1:aQ P w K mg base CX0 7 g1 gd1 ["net"] (Cr CN K))(b1:aS K gd1 ["net"] [])(k1:PySem.W.keepIn K (.ref g1)=true)(m1:mg "equations"=some (.ref g1))(G2:aQ P w K mg base CX0 5 g2 gd2 ["right","row"] (rY K CK))(b2:aS K gd2 ["right","row"] [])(k2:PySem.W.keepIn K (.ref g2)=true)(m2:mg "enter_push"=some (.ref g2))(G3:aQ P w K mg base CX0 6 g3 gd3 ["net","matrix","right"] (Bs CN K))(b3:aS K gd3 ["net","matrix","right"] [])(k3:PySem.W.keepIn K (.ref g3)=true)(m3:mg "heights_by"=some (.ref g3)) :
  aQ P w K mg base CX 8 f fd ["net","start","goal"] (Jm CN K):=by
 refine F.ok Lm (fun vs H Q E h=>?_) (fun cdv A outer s H vs Q E hr h=>?_)
 ·obtain⟨n,l,m,b,kb,L,ds,s,g,rfl,NB,hs,hg,q⟩:=h;rfl
 obtain⟨n,l,m,b,kb,L,ds,s,g,rfl,NB,hs,hg,q⟩:=h;have r2:=hr.mono (show 2<=7 by omega);have r5:=hr.mono (show 5<=7 by omega);have r6:=hr.mono (show 6<=7 by omega);have r7:=hr;refine⟨_,(aC (aW (i:=3) Lm.nd rfl (Or.inl rfl) (aP aX (aI G1 r7 rfl m1 k1 b1 .nil aM (aA (pv 0) aD)) aF (fun _ _=>rfl)))
  (aC (aW (i:=4) Lm.nd rfl (Or.inl rfl) (aY pC (cV (aA (dB (v:=.ref aN) rfl mNO rfl) aD)) (aY dH (bO bH rfl ml PySem.boot_len (aA (pv 3) aD)) aF)))
  (aC (bV (aI G2 r5 rfl m2 k2 b2 .nil aM (aA (pv 4) (aA (nT (MK .pu) GI r2 rfl (T.mK .pu) bI .nil aM (aA (pv 1) (aA (pv 2) (aA (dB (v:=.ref aO) rfl mON rfl) aD)))) aD))))
  (aG (bA (aI G3 r6 rfl m3 k3 b3 .nil aM (aA (pv 0) (aA (pv 3) (aA (fC gF (pv 4) (fK aF) gV) aD))))))))),?_⟩
 have EB:=NB.eb;have mo:=EB.o.m1;have w26:=EB.w26;refine⟨_,rfl,n,l,m,kb,ds,rfl,NB.nt,NB.ok,mo,NB.m20,NB.h40,NB.cu,fun tt p r us ys X Y H1 s1 et np nr ep er FM FY nx EO=>?_⟩;have lX:X.length=wd m ds:=EO.x.h;have lus:=FM.l;refine⟨tt,_,0,_,rfl,rfl,SqT.of et,rfl,?_⟩;obtain⟨W,hW⟩:∃W,W=wd m ds:=⟨_,rfl⟩
 rw[<- hW] at w26;have lusW:us.length=W:=by rw[lus,lX,hW]
 refine⟨by show 1<=sizeLine;decide,fun l1 hl1=>?_⟩;have s2:=aH hl1 (.lst [.ref aN]);have e2:upd H1 l1 (.lst [.ref aN]) l1=some (.lst [.ref aN]):=aB;generalize upd H1 l1 (.lst [.ref aN])=H2 at s2 e2 ⊢;have eW:(us.length:Int)+1=((W+1:Nat):Int):=by omega
 refine⟨_,rfl,p,us,rfl,.inl (SqL.of (s2 _ _ ep)),_,_,rfl,rfl,l1,_,[.ref aN],rfl,rfl,e2,by omega,by omega,?_,fun Rr hR=>?_⟩
 ·rw[eW,Int.toNat_natCast,sizeLine_eq];simp only[List.length_cons,List.length_nil];omega
 rw[eW,Int.toNat_natCast,jG];have nR1:H1 Rr=none:=s2.free hR;have s3:=aH hR (.lst (List.replicate (W+1) (.ref aN)));have e3:upd H2 Rr (.lst (List.replicate (W+1) (.ref aN))) Rr=some (.lst (List.replicate (W+1) (.ref aN))):=aB;generalize upd H2 Rr (.lst (List.replicate (W+1) (.ref aN)))=H3 at s3 e3 ⊢;refine⟨_,rfl,_,rfl,_,rfl,fun x dx hx hdx nxd=>?_⟩;refine⟨x,dx,.pu,_,_,_,rfl,aB,rfl,?_⟩;have s4:bG H3 (upd (upd (upd H3 dx (.own x)) x (.ins (CK .pu) dx [])) x (.ins (CK .pu) dx (jI (.int (s:Int)) (.int (g:Int)) (.ref aO)))):=(Qe (C:=CK .pu) hx hdx).change hx;have rw4:Rw CK (upd (upd (upd H3 dx (.own x)) x (.ins (CK .pu) dx [])) x (.ins (CK .pu) dx (jI (.int (s:Int)) (.int (g:Int)) (.ref aO)))) x .pu (.int (s:Int)) (.int (g:Int)) (.ref aO):=⟨dx,aB⟩
 generalize upd (upd (upd H3 dx (.own x)) x (.ins (CK .pu) dx [])) x (.ins (CK .pu) dx (jI (.int (s:Int)) (.int (g:Int)) (.ref aO)))=H4 at s4 rw4 ⊢;have ptW:cT ((W+1:Nat):Int) (s:Int) (g:Int):=by
  unfold wd at hW;exact⟨by omega,by omega,by omega,by omega⟩
 have ptm:cT (m:Int) (s:Int) (g:Int):=⟨by omega,by omega,by omega,by omega⟩
 refine⟨Rr,x,aO,_,List.replicate (W+1) (0,1),(.pu,(s:Int),(g:Int),(1,1)),W+1,1,1,rfl,s4 _ _ e3,jF (fN _) (W+1),yI (W+1),rw4,fO _,ptW,gG,gP,by omega,fun ys' H5 sx5 eR5 F5=>?_⟩;obtain⟨lb5,v5⟩:=Sm (d:=(.pu,(s:Int),(g:Int),(1,1))) (h:=0) (m:=m) (yI (W+1)) ptm (by unfold wd at hW;omega) rfl gG gP;have s15:bG H1 H5:=SX.same (s2.trans (s3.trans s4)) sx5 (fun c hc=>by rw[List.mem_singleton.mp hc];exact nR1);generalize pR (List.replicate (W+1) (0,1)) (.pu,(s:Int),(g:Int),(1,1))=rs at F5 lb5 v5;have v6:∀k,Mq.val (rs.getD k (0,1))=un g k - un s k:=fun k=>by
  rw[v5,pE,Mq.kM,<- Xr s g k];show 0 + - dl ((s:Int)).toNat ((g:Int)).toNat k*Mq.val (1,1)=_;rw[Int.toNat_natCast,Int.toNat_natCast];grind
 have lrs:=lb5.w;refine⟨_,rfl,_,rfl,_,rfl,1,rfl,Rr,_,rfl,SqL.of eR5,fun S hS=>?_⟩;rw[Do];have s6:=aH hS (.lst (ys'.drop 1));have e6:upd H5 S (.lst (ys'.drop 1)) S=some (.lst (ys'.drop 1)):=aB;generalize upd H5 S (.lst (ys'.drop 1))=H6 at s6 e6 ⊢;have s16:=s15.trans s6;have s06:=s1.trans s16;have gd:∀k,(rs.drop 1).getD k (0,1)=rs.getD (k+1) (0,1):=fun k=>by rw[List.getD_eq_getElem?_getD,List.getElem?_drop,Nat.add_comm,<- List.getD_eq_getElem?_getD]
 refine⟨n,l,p,S,p,H,m,b,_,L,ds,us,_,X,Y,rs.drop 1,rfl,NB.nt.same s06,SqL.of (s16 _ _ ep),(xG FM (fun x hx=>(nx x hx).1)).same s16,EO,EB,SqL.of e6,Fqs.drop1 (F5.same s6),by rw[List.length_drop,lrs,lX,<- hW];omega,fun pq hpq=>?_,fun t zs ps H7 nt7 s7 e7 F7 SU OV=>?_⟩
 ·obtain⟨k,hk⟩:=List.getElem?_of_mem hpq;rw[List.getElem?_drop] at hk;have lo:=(lb5.l pq (List.mem_of_getElem? hk)).1;have ev:=v6 (1+k);rw[List.getD_eq_getElem?_getD,hk] at ev;obtain⟨a0,ha0,ea⟩:=Vn g s (1+k);obtain⟨d1,t1⟩:=Mq.Am lo (show (1:Int)<=1 by decide) (ev.trans ea);have:=Int.le_of_dvd (by decide) d1;have:=lo.pos;exact⟨lo,by omega,by omega⟩
 ·have lps:ps.length=X.length:=SU.len;have lm:m - 1<=ps.length:=by rw[lps,lX];unfold wd;omega
  refine q t zs (lvS m ps) (uP ps) H7 (s06.free nt7) (s06.trans s7) e7 F7 (Ec mo lm) (En SU.low) (Ng OV) (EqB.sol EO SU fun i hi=>?_) (fun k hk=>Gb lm hk);show Mq.val ((rs.drop 1).getD i (0,1))=_;rw[gd,v6]
end
end K72
set_option maxHeartbeats 1000000
namespace L2
open PySem PySem.Spec PyProof.Rows Shp
abbrev Hn:=Option (Nat × Nat) × RD
def rot (m t k:Nat):Nat:=(k+t) % m
structure Ly (m t:Nat) (e:Hn):Prop where
 pt:cT (m:Int) e.2.2.1 e.2.2.2.1
 sl:Mq.Low e.2.2.2.2
 bd:Mq.Bd 7 e.2.2.2.2
 pc:e.2.1=.pc->0 < e.2.2.2.2.1/\Mq.Bd 4 e.2.2.2.2
 ho:e.2.1=.ho->e.1≠none
 tg:∀k j,e.1=some (k,j)->e.2.1≠.pu/\1<=k/\k < m/\j < k/\((e.2.2.1=(rot m t k:Int)/\e.2.2.2.1=(rot m t j:Int))\/(e.2.2.1=(rot m t j:Int)/\e.2.2.2.1=(rot m t k:Int)))
abbrev tgs (E:List Hn):List (Nat × Nat):=E.filterMap (·.1)
structure Hng (m t J:Nat) (E:List Hn):Prop where
 m1:1<=m
 tm:t < m
 en:∀e∈E,Ly m t e
 nd:((tgs E).map (·.1)).Nodup
 al:∀k,1<=k->k < J->∃j,(k,j)∈tgs E
 lt:∀p∈tgs E,p.1 < J
 ln:(tgs E).length+1=J
section
variable {m t J:Nat} {E:List Hn}
theorem Lp (m1:1<=m)(k:Nat):rot m t k < m:=Nat.mod_lt _ (by omega)
theorem lY (tm:t < m){j k:Nat}(hj:j < m)(hk:k < m)(h:rot m t j=rot m t k):j=k:=by
 unfold rot at h;have a:(j+t) % m=if j+t < m then j+t else j+t - m:=by
  split
  ·exact Nat.mod_eq_of_lt (by assumption)
  ·rw[Nat.mod_eq_sub_mod (by omega),Nat.mod_eq_of_lt (by omega)]
 have b:(k+t) % m=if k+t < m then k+t else k+t - m:=by
  split
  ·exact Nat.mod_eq_of_lt (by assumption)
  ·rw[Nat.mod_eq_sub_mod (by omega),Nat.mod_eq_of_lt (by omega)]
 rw[a,b] at h;split at h<;>split at h<;>omega
theorem xM (tm:t < m){p:Nat}(hp:p < m):∃k,k < m/\rot m t k=p:=by
 by_cases c:t<=p
 ·exact⟨p - t,by omega,by unfold rot;rw[show p - t+t=p by omega,Nat.mod_eq_of_lt hp]⟩
 ·exact⟨p+m - t,by omega,by unfold rot;rw[show p+m - t+t=p+m by omega,Nat.add_mod_right,Nat.mod_eq_of_lt hp]⟩
theorem Hng.ins (h:Hng m t J E){e:Hn}(he:Ly m t e)(e0:e.1=none)(i:Nat):Hng m t J (E.take i++e :: E.drop i):=by
 have et:tgs (E.take i++e :: E.drop i)=tgs E:=by
  unfold tgs;rw[List.filterMap_append,List.filterMap_cons_none e0,<- List.filterMap_append,List.take_append_drop]
 refine⟨h.m1,h.tm,fun x hx=>?_,by rw[et];exact h.nd,fun k a b=>by rw[et];exact h.al k a b,fun p hp=>h.lt p (by rw[et] at hp;exact hp),by rw[et];exact h.ln⟩;rcases Ez hx with z | z
 ·rw[z];exact he
 ·exact h.en x z
theorem Hng.tree (h:Hng m t J E){e:Hn}{j:Nat}(he:Ly m t e)(e0:e.1=some (J,j))(i:Nat):Hng m t (J+1) (E.take i++e :: E.drop i):=by
 have et:(tgs (E.take i++e :: E.drop i)).Perm ((J,j) :: tgs E):=by
  unfold tgs;rw[List.filterMap_append,List.filterMap_cons_some e0];refine List.perm_middle.trans ?_;rw[<- List.filterMap_append,List.take_append_drop]
 refine⟨h.m1,h.tm,fun x hx=>?_,?_,fun k a b=>?_,fun p hp=>?_,?_⟩
 ·rcases Ez hx with z | z
  ·rw[z];exact he
  ·exact h.en x z
 ·rw[(et.map (·.1)).nodup_iff,List.map_cons,List.nodup_cons];refine⟨fun z=>?_,h.nd⟩;obtain⟨p,hp,ep⟩:=List.mem_map.mp z;have:=h.lt p hp;omega
 ·by_cases c:k=J
  ·exact⟨j,et.mem_iff.mpr (by rw[c];simp)⟩
  ·obtain⟨j',hj'⟩:=h.al k a (by omega);exact⟨j',et.mem_iff.mpr (List.mem_cons_of_mem _ hj')⟩
 ·rcases List.mem_cons.mp (et.mem_iff.mp hp) with z | z
  ·rw[z];show J < J+1;omega
  ·have:=h.lt p z;omega
 ·rw[et.length_eq,List.length_cons,h.ln]
inductive rG (T:List (Nat × Nat)) (k:Nat):Nat->Prop where
 |self:rG T k k
 |up {p q:Nat} (h:(p,q)∈T) (u:rG T k q):rG T k p
theorem rG.ge {T:List (Nat × Nat)}{k p:Nat}(d:∀p q,(p,q)∈T->q < p)(h:rG T k p):k<=p:=by
 induction h with
 |self=>exact Nat.le_refl _
 |up h _ ih=>have:=d _ _ h;omega
theorem Pe {T:List (Nat × Nat)}(nd:(T.map (·.1)).Nodup){p q q':Nat}(h:(p,q)∈T)(h':(p,q')∈T):q=q':=by
 induction T with
 |nil=>cases h
 |cons x T ih=>
  rw[List.map_cons,List.nodup_cons] at nd;rcases List.mem_cons.mp h with z | z<;>rcases List.mem_cons.mp h' with z' | z'
  ·rw[<- z] at z';exact(Prod.ext_iff.mp z').2.symm
  ·exact absurd (List.mem_map.mpr ⟨_,z',by rw[<- z]⟩) nd.1
  ·exact absurd (List.mem_map.mpr ⟨_,z,by rw[<- z']⟩) nd.1
  ·exact ih nd.2 z z'
theorem rG.iff {T:List (Nat × Nat)}{k p q:Nat}(nd:(T.map (·.1)).Nodup)(h:(p,q)∈T)(ne:p≠k):rG T k p↔rG T k q:=by
 refine⟨fun u=>?_,fun u=>.up h u⟩
 cases u with
 |self=>exact absurd rfl ne
 |up h' u=>rw[Pe nd h h'];exact u
theorem Nk:∀{E:List Hn},((tgs E).map (·.1)).Nodup->∀{i i':Nat} {e e':Hn} {k j j':Nat},E[i]?=some e->E[i']?=some e'->e.1=some (k,j)->e'.1=some (k,j')->i=i'
 | [],_,i,_,_,_,_,_,_,h,_,_,_=>by simp at h
 |x :: E,nd,i,i',e,e',k,j,j',h,h',t,t'=>by
  have mem:∀{a:Nat} {y:Hn} {b:Nat},E[a]?=some y->y.1=some (k,b)->k∈(tgs E).map (·.1):=fun hy ty=>List.mem_map.mpr ⟨_,List.mem_filterMap.mpr ⟨_,List.mem_of_getElem? hy,ty⟩,rfl⟩;have nd':((tgs E).map (·.1)).Nodup:=by
   unfold tgs at nd;rw[List.filterMap_cons] at nd;split at nd
   ·exact nd
   ·rw[List.map_cons] at nd;exact(List.nodup_cons.mp nd).2
  have no:∀{b:Nat},x.1=some (k,b)->k∉(tgs E).map (·.1):=fun tx=>by
   unfold tgs at nd;rw[List.filterMap_cons_some tx,List.map_cons] at nd;exact(List.nodup_cons.mp nd).1
  match i,i',h,h' with
  |0,0,_,_=>rfl
  |0,a+1,h,h'=>
   have:x=e:=by simpa using h
   subst this;exact absurd (mem (by simpa using h') t') (no t)
  |a+1,0,h,h'=>
   have:x=e':=by simpa using h'
   subst this;exact absurd (mem (by simpa using h) t) (no t')
  |a+1,a' + 1,h,h'=>
   have:=Nk nd' (i:=a) (i':=a') (by simpa using h) (by simpa using h') t t';omega
abbrev rwH (E:List Hn):List RD:=E.map (·.2)
theorem Hng.pt (h:Hng m t J E):∀d∈rwH E,cT (m:Int) d.2.1 d.2.2.1:=fun d hd=>by
 obtain⟨e,he,rfl⟩:=List.mem_map.mp hd;exact(h.en e he).pt
theorem Hng.cn0 (h:Hng m t m E):∀n k,k<=n->k < m->Cn (rwH E) (rot m t 0) (rot m t k)
 |n,0,_,_=>.refl _
 |0,k+1,hk,_=>by omega
 |n+1,k+1,hk,hm=>by
  obtain⟨j,hj⟩:=h.al (k+1) (by omega) hm;obtain⟨e,he,te⟩:=List.mem_filterMap.mp hj;obtain⟨hp,_,_,jk,ends⟩:=(h.en e he).tg _ _ te;have ih:=Hng.cn0 h n j (by omega) (by omega);have r:Cn (rwH E) e.2.2.1.toNat e.2.2.2.1.toNat:=.row (List.mem_map.mpr ⟨e,he,rfl⟩) hp;rcases ends with ⟨a,b⟩ | ⟨a,b⟩
  ·rw[a,b,Int.toNat_natCast,Int.toNat_natCast] at r;exact ih.trans r.symm
  ·rw[a,b,Int.toNat_natCast,Int.toNat_natCast] at r;exact ih.trans r
theorem Hng.cn (h:Hng m t m E)(p:Nat)(hp:p < m):Cn (rwH E) 0 p:=by
 obtain⟨k,hk,rfl⟩:=xM h.tm hp;obtain⟨k0,hk0,e0⟩:=xM h.tm (show 0 < m by have:=h.m1;omega);have a:=h.cn0 k k (Nat.le_refl _) hk;have b:=h.cn0 k0 k0 (Nat.le_refl _) hk0;rw[e0] at b;exact b.symm.trans a
theorem Hng.frs (h:Hng m t J E):Frs (rwH E):=by
 intro A B d e hd cn;have at_:(rwH E)[A.length]?=some d:=by rw[e,List.getElem?_append_right (Nat.le_refl _),Nat.sub_self];rfl
 have atx:∀i x,i < A.length->A[i]?=some x->∃y:Hn,E[i]?=some y/\y.2=x:=fun i x hi hx=>by
  have:(rwH E)[i]?=some x:=by rw[e,List.getElem?_append_left hi];exact hx
  rw[List.getElem?_map] at this;obtain⟨y,hy,ey⟩:=Option.map_eq_some_iff.mp this;exact⟨y,hy,ey⟩
 rw[List.getElem?_map] at at_;obtain⟨y,hy,rfl⟩:=Option.map_eq_some_iff.mp at_;have oy:=h.en y (List.mem_of_getElem? hy);obtain⟨⟨k,j⟩,tk⟩:∃p,y.1=some p:=Option.ne_none_iff_exists'.mp (oy.ho hd);obtain⟨_,k1,km,jk,ends⟩:=oy.tg k j tk;have dec:∀p q,(p,q)∈tgs E->q < p:=fun p q hpq=>by
  obtain⟨z,hz,tz⟩:=List.mem_filterMap.mp hpq;exact((h.en z hz).tg _ _ tz).2.2.2.1
 have r:=Cn.ind (ds:=cZ .ho A) (R:=fun p q=>p=q\/(p < m/\q < m/\∀a b,a < m->b < m->rot m t a=p->rot m t b=q->(rG (tgs E) k a↔rG (tgs E) k b))) (fun p=>.inl rfl) (fun p q f=>by
  rcases f with f | ⟨x,y,f⟩
  ·exact .inl f.symm
  ·exact .inr ⟨y,x,fun a b ha hb e1 e2=>(f b a hb ha e2 e1).symm⟩) (fun p q x f g=>by
  rcases f with f | ⟨f1,f2,f⟩
  ·rw[f];exact g
  ·rcases g with g | ⟨g1,g2,g⟩
   ·rw[<- g];exact .inr ⟨f1,f2,f⟩
   ·refine .inr ⟨f1,g2,fun a b ha hb e1 e2=>?_⟩;obtain⟨c,hc,ec⟩:=xM h.tm f2;exact(f a c ha hc e1 ec).trans (g c b hc hb ec e2)) (fun x hx hk=>by
  obtain⟨xA,xk⟩:=List.mem_filter.mp hx;obtain⟨i,hi⟩:=List.getElem?_of_mem xA;have il:=(List.getElem?_eq_some_iff.mp hi).1;obtain⟨z,hz,rfl⟩:=atx i x il hi;have oz:=h.en z (List.mem_of_getElem? hz);obtain⟨⟨k',j'⟩,tk'⟩:∃p,z.1=some p:=Option.ne_none_iff_exists'.mp (oz.ho (of_decide_eq_true xk));obtain⟨_,a1,am,jk',ends'⟩:=oz.tg k' j' tk';have ne:k'≠k:=fun c=>by
   rw[c] at tk';have:=Nk h.nd hz hy tk' tk;omega
  have mem:(k',j')∈tgs E:=List.mem_filterMap.mpr ⟨z,List.mem_of_getElem? hz,tk'⟩;have iff:=rG.iff h.nd mem ne;obtain⟨q0,q1,q2,q3⟩:=oz.pt;refine .inr ⟨by omega,by omega,fun a b ha hb e1 e2=>?_⟩;rcases ends' with ⟨x,y⟩ | ⟨x,y⟩
  ·rw[x,Int.toNat_natCast] at e1;rw[y,Int.toNat_natCast] at e2;rw[lY h.tm ha am e1,lY h.tm hb (by omega) e2];exact iff
  ·rw[x,Int.toNat_natCast] at e1;rw[y,Int.toNat_natCast] at e2;rw[lY h.tm ha (by omega) e1,lY h.tm hb am e2];exact iff.symm) cn
 have no:¬rG (tgs E) k j:=fun c=>by
  have:=c.ge dec;omega
 rcases ends with ⟨a,b⟩ | ⟨a,b⟩
 ·rw[a,b,Int.toNat_natCast,Int.toNat_natCast] at r;rcases r with r | ⟨_,_,r⟩
  ·have:=lY h.tm km (by omega) r;omega
  ·exact no ((r k j km (by omega) rfl rfl).mp .self)
 ·rw[a,b,Int.toNat_natCast,Int.toNat_natCast] at r;rcases r with r | ⟨_,_,r⟩
  ·have:=lY h.tm (by omega) km r;omega
  ·exact no ((r j k (by omega) km rfl rfl).mpr .self)
end
abbrev Pr2:=RD × Mq.Q2
abbrev prE (E:List Ent):List Pr2:=E.map (·.2)
section
variable {m u:Nat} {hs:List Mq.Q2} {par:Nat->Nat} {E:List Ent}
abbrev M0 (u:Nat):Nat:=(2 ^ u+2 ^ u)*2 ^ u
theorem Ld {L:Int}{M x y:Nat}:∀{ds:List RD} (k:Nat),(∀d∈ds,∀k,Mq.Fr L M (cM d k x y))->Mq.Fr L (ds.length*M) (eqM k ds x y)
 | [],_,_=>Mq.Fr.zero.mono (Nat.zero_le _)
 |d :: ds,k,q=>by
  rw[List.length_cons,Nat.succ_mul,Nat.add_comm];exact(q d (by simp) k).add (Ld _ fun x hx=>q x (List.mem_cons_of_mem _ hx))
theorem Ks {L:Int}{M:Nat}{y:Rat}{c:Prop}[Decidable c](g:Mq.Fr L M y):Mq.Fr L M (if c then y else 0):=by
 split
 ·exact g
 ·exact Mq.Fr.zero.mono (Nat.zero_le _)
end
section
variable {m t J:Nat} {E:List Hn}
theorem Hng.hold_le (h:Hng m t J E):bS (rwH E)+1<=J:=by
 have:∀{E:List Hn},(∀e∈E,e.2.1=.ho->e.1≠none)->bS (rwH E)<=(tgs E).length:=fun {E}=>by
  induction E with
  |nil=>intro _;exact Nat.le_refl _
  |cons e E ih=>
   intro h;have ih:=ih fun x hx=>h x (List.mem_cons_of_mem _ hx);show bS (e.2 :: rwH E)<=_;rw[fZ];unfold tgs at ih ⊢;rw[List.filterMap_cons]
   by_cases c:e.2.1=.ho
   ·obtain⟨k,tk⟩:∃k,e.1=some k:=Option.ne_none_iff_exists'.mp (h e (by simp) c);rw[tk];have:bX e.2.1=1:=if_pos c;simp only[List.length_cons];omega
   ·have:bX e.2.1=0:=if_neg c;split<;>(try simp only[List.length_cons])<;>omega
 have a:=this fun e he hk=>(h.en e he).ho hk;have:=h.ln;omega
theorem Hng.nof (h:Hng m t m E):Nof m (rwH E):=by
 refine⟨h.m1,h.pt,fun d hd hk=>?_,h.cn,h.frs⟩;obtain⟨e,he,rfl⟩:=List.mem_map.mp hd;have p0:=((h.en e he).pc hk).1;have:=(h.en e he).sl.pos;unfold Mq.val;rw[Rat.div_def];exact Rat.mul_pos (by exact_mod_cast p0) (Rat.inv_pos.mpr (by exact_mod_cast (show 0 < e.2.2.2.2.2 by omega)))
def LH (E:List Hn):Int:=Mq.prB (E.map fun e=>if e.2.1=.pc then e.2.2.2.2.1 else 1)
theorem Hng.L (h:Hng m t J E):1<=LH E/\Mq.B (4*E.length+1) (LH E)/\∀d∈rwH E,d.1=.pc->0 < d.2.2.2.1/\d.2.2.2.1 ∣ LH E/\1<=d.2.2.2.2/\d.2.2.2.2.natAbs<=16:=by
 have al:∀a∈(E.map fun e=>if e.2.1=.pc then e.2.2.2.2.1 else 1),1<=a/\Mq.B 4 a:=fun a ha=>by
  obtain⟨e,he,rfl⟩:=List.mem_map.mp ha;split
  ·rename_i c
   obtain⟨p0,b⟩:=(h.en e he).pc c;exact⟨p0,b.a⟩
  ·exact⟨by decide,show (1:Nat) < 2 ^ 4 by decide⟩
 refine⟨Mq.Ft fun a ha=>(al a ha).1,?_,fun d hd hk=>?_⟩
 ·have:=Mq.Rz (u:=4) fun a ha=>(al a ha).2;rw[List.length_map] at this;exact this
 ·obtain⟨e,he,rfl⟩:=List.mem_map.mp hd;obtain⟨p0,b⟩:=(h.en e he).pc hk;refine⟨p0,Mq.Fp (List.mem_map.mpr ⟨e,he,if_pos hk⟩),(h.en e he).sl.pos,Nat.le_of_lt b.b⟩
end
abbrev sk3 (d:RD):Kd × Int × Int:=(d.1,d.2.1,d.2.2.1)
theorem Cn.sk {ds es:List RD}(h:ds.map sk3=es.map sk3){p q:Nat}(c:Cn ds p q):Cn es p q:=by
 refine Cn.ind (R:=fun p q=>Cn es p q) (fun p=>.refl p) (fun _ _=>.symm) (fun _ _ _=>.trans) (fun x hx hk=>?_) c;have:sk3 x∈es.map sk3:=by rw[<- h];exact List.mem_map.mpr ⟨x,hx,rfl⟩
 obtain⟨y,hy,e⟩:=List.mem_map.mp this;have e1:y.1=x.1:=congrArg (·.1) e;have e2:y.2.1=x.2.1:=congrArg (·.2.1) e;have e3:y.2.2.1=x.2.2.1:=congrArg (·.2.2) e;have:=Cn.row hy (by rw[e1];exact hk);rw[e2,e3] at this;exact this
theorem Nw (k:Kd){ds es:List RD}(h:ds.map sk3=es.map sk3):(cZ k ds).map sk3=(cZ k es).map sk3:=by
 have:∀l:List RD,(cZ k l).map sk3=(l.map sk3).filter fun x=>decide (x.1=k):=fun l=>by
  unfold cZ;rw[List.filter_map];rfl
 rw[this,this,h]
theorem xZ {ds es:List RD}(h:ds.map sk3=es.map sk3):bS ds=bS es:=by
 have:=congrArg List.length (Nw .ho h);rw[List.length_map,List.length_map] at this;exact this
theorem Frs.sk {ds es:List RD}(h:ds.map sk3=es.map sk3)(f:Frs ds):Frs es:=by
 intro A B d e hd cn;have hl:ds.length=es.length:=by have:=congrArg List.length h;rwa [List.length_map,List.length_map] at this
 have hn:A.length < ds.length:=by rw[hl,e,List.length_append,List.length_cons];omega
 have eA:(ds.take A.length).map sk3=A.map sk3:=by rw[List.map_take,h,<- List.map_take,e,List.take_left]
 have ed:sk3 ds[A.length]=sk3 d:=by
  have a1:(ds.map sk3)[A.length]?=some (sk3 ds[A.length]):=by rw[List.getElem?_map,List.getElem?_eq_getElem hn];rfl
  have a2:(es.map sk3)[A.length]?=some (sk3 d):=by rw[List.getElem?_map,e,List.getElem?_append_right (Nat.le_refl _),Nat.sub_self];rfl
  rw[h,a2] at a1;exact(Option.some.inj a1).symm
 have e1:(ds[A.length]).1=d.1:=congrArg (·.1) ed;have e2:(ds[A.length]).2.1=d.2.1:=congrArg (·.2.1) ed;have e3:(ds[A.length]).2.2.1=d.2.2.1:=congrArg (·.2.2) ed;refine f (ds.take A.length) (ds.drop (A.length+1)) ds[A.length] (by rw[List.getElem_cons_drop,List.take_append_drop]) (by rw[e1];exact hd) ?_;rw[e2,e3];exact Cn.sk (Nw .ho eA.symm) cn
theorem Nof.sk {m:Nat}{ds es:List RD}(h:ds.map sk3=es.map sk3)(o:Nof m ds)(pos:∀d∈es,d.1=.pc->0 < Mq.val d.2.2.2):Nof m es:=by
 refine⟨o.m1,fun d hd=>?_,pos,fun p hp=>Cn.sk h (o.cn p hp),Frs.sk h o.fr⟩;have:sk3 d∈ds.map sk3:=by rw[h];exact List.mem_map.mpr ⟨d,hd,rfl⟩
 obtain⟨y,hy,e⟩:=List.mem_map.mp this;have e2:y.2.1=d.2.1:=congrArg (·.2.1) e;have e3:y.2.2.1=d.2.2.1:=congrArg (·.2.2) e;have:=o.pt y hy
 rwa [e2,e3] at this
theorem Vc {ds:List RD}{i:Nat}{d d':RD}(h:ds[i]?=some d)(e:sk3 d'=sk3 d):ds.map sk3=(ds.set i d').map sk3:=by
 refine List.ext_getElem? fun j=>?_;rw[List.getElem?_map,List.getElem?_map,List.getElem?_set]
 by_cases c:i=j
 ·subst c;rw[if_pos rfl,h,if_pos (List.getElem?_eq_some_iff.mp h).1];show some (sk3 d)=some (sk3 d');rw[e]
 ·rw[if_neg c]
def shR (m:Nat)(ds:List RD)(k:Nat)(d:RD)(x:Nat):Rat:=if d.1=.ho then un (m+bS (ds.take k)) x else un d.2.1.toNat x - un d.2.2.1.toNat x
theorem Vp {ds:List RD}{i:Nat}{d:RD}(h:ds[i]?=some d):bS (ds.take (i+1))=bS (ds.take i)+bX d.1:=by
 rw[List.take_add_one,h];exact gW _ _
theorem Oe (ds:List RD)(i:Nat):bS (ds.take i)<=bS ds:=by
 have:ds=ds.take i++ds.drop i:=(List.take_append_drop i ds).symm;unfold bS cZ
 conv=>rhs;rw[this]
 rw[List.filter_append,List.length_append];omega
theorem Cw {ds:List RD}{k:Nat}{d:RD}(h:ds[k]?=some d)(hd:d.1=.ho):bS (ds.take k) < bS ds:=by
 have a:=Vp h;have b:=Oe ds (k+1);have:bX d.1=1:=by rw[hd];rfl
 omega
theorem Ev {ds:List RD}{i k:Nat}{d:RD}(h:ds[i]?=some d)(hd:d.1=.ho)(ik:i < k):bS (ds.take i) < bS (ds.take k):=by
 have h':(ds.take k)[i]?=some d:=by rw[List.getElem?_take_of_lt ik];exact h
 have:=Cw h' hd
 rwa [List.take_take,show min i k=i by omega] at this
theorem Rm (u:Nat->Rat):∀(ds:List RD) (h i:Nat) (d:RD),ds[i]?=some d->d.1=.ho->hw u h ds (h+bS (ds.take i))=u d.2.1.toNat - u d.2.2.1.toNat
 | [],_,_,_,e,_=>by cases e
 |c :: ds,h,0,d,e,hd=>by
  have e:c=d:=Option.some.inj e;subst e;show (if c.1=.ho/\h=h+0 then u c.2.1.toNat - u c.2.2.1.toNat else 0)+hw u (h+bX c.1) ds (h+0)=_;have h1:bX c.1=1:=by rw[hd];rfl
  rw[if_pos ⟨hd,rfl⟩,Ay ds _ (by omega)];grind
 |c :: ds,h,i+1,d,e,hd=>by
  have ih:=Rm u ds (h+bX c.1) i d e hd;have e1:h+bS ((c :: ds).take (i+1))=h+bX c.1+bS (ds.take i):=by
   rw[List.take_succ_cons,fZ];omega
  rw[e1];show (if c.1=.ho/\h=h+bX c.1+bS (ds.take i) then u c.2.1.toNat - u c.2.2.1.toNat else 0)+hw u (h+bX c.1) ds (h+bX c.1+bS (ds.take i))=_;rw[ih,if_neg (fun z=>?_)]
  ·grind
  ·have:bX c.1=1:=by rw[z.1];rfl
   omega
def pcS (u F:Nat->Rat):List RD->Rat
 | []=>0
 |d :: ds=>(if d.1=.pc then (u d.2.1.toNat - u d.2.2.1.toNat)*(1 / Mq.val d.2.2.2)*(F d.2.1.toNat - F d.2.2.1.toNat) else 0)+pcS u F ds
theorem Ej (u F:Nat->Rat):∀A B:List RD,pcS u F (A++B)=pcS u F A+pcS u F B
 | [],B=>by show pcS u F B=0+pcS u F B;grind
 |d :: A,B=>by
  show _+pcS u F (A++B)=_+pcS u F A+pcS u F B;rw[Ej u F A B];grind
theorem Tk (u F:Nat->Rat){ds:List RD}{i:Nat}{d:RD}(h:ds[i]?=some d):pcS u F (ds.take (i+1))=pcS u F (ds.take i)+(if d.1=.pc then (u d.2.1.toNat - u d.2.2.1.toNat)*(1 / Mq.val d.2.2.2)*(F d.2.1.toNat - F d.2.2.1.toNat) else 0):=by
 rw[List.take_add_one,h,Ej];show _+(_+0)=_;grind
theorem Lv {m:Nat}(u F:Nat->Rat):∀(ds:List RD) (h:Nat),(∀d∈ds,cT (m:Int) d.2.1 d.2.2.1)->(∀d∈ds,d.1=.ho->F d.2.1.toNat=F d.2.2.1.toNat)->Mq.rs m (fun p=>F p*nt u h ds p)=pcS u F ds
 | [],h,_,_=>by
  have:∀p,F p*nt u h [] p=0:=fun p=>by show F p*(0:Rat)=0;grind
  rw[Mq.aK fun p _=>this p,Mq.cW];rfl
 |d :: ds,h,pt,hF=>by
  have ih:=Lv u F ds (h+bX d.1) (fun e he=>pt e (List.mem_cons_of_mem _ he)) (fun e he=>hF e (List.mem_cons_of_mem _ he));obtain⟨a,b,c,e⟩:=pt d (by simp);have s:∀p,p < m->F p*nt u h (d :: ds) p=fw u d h*(F p*dl d.2.1.toNat d.2.2.1.toNat p)+F p*nt u (h+bX d.1) ds p:=fun p _=>by
   show F p*(fw u d h*dl d.2.1.toNat d.2.2.1.toNat p+nt u (h+bX d.1) ds p)=_;grind
  rw[Mq.aK s,Mq.dA,ih,Mq.eK,uU F (by omega) (by omega)];show _=(if d.1=.pc then _ else 0)+pcS u F ds;congr 1;unfold fw
  cases hk:d.1 with
  |pc=>rw[if_pos rfl]
  |pu=>rw[if_neg (fun z=>by cases z)];grind
  |ho=>rw[if_neg (fun z=>by cases z),hF d (by simp) hk];grind
section
variable {m k:Nat} {ds:List RD} {d:RD} {v:Nat->Rat}
theorem Sv.fallh (o:Nof m ds)(h:Sv m ds (shR m ds k d) v)(hk:ds[k]?=some d){i:Nat}{e:RD}(hi:ds[i]?=some e)(he:e.1=.ho):v e.2.1.toNat - v e.2.2.1.toNat=if i=k then 1 else 0:=by
 have m1:=o.m1;have lt:=Cw hi he;have w:=h.hold o (x:=m+bS (ds.take i)) (by omega) (by unfold wd;omega);rw[Rm v ds m i e hi he] at w;rw[w];unfold shR
 by_cases c:i=k
 ·subst c;have:e=d:=by rw[hi] at hk;exact Option.some.inj hk
  subst this;rw[if_pos he,if_pos rfl];unfold un;rw[if_pos rfl]
 ·rw[if_neg c]
  by_cases hd:d.1=.ho
  ·rw[if_pos hd];unfold un;rw[if_neg];rcases Nat.lt_or_gt_of_ne c with l | l
   ·have:=Ev hi he l;omega
   ·have:=Ev hk hd l;omega
  ·rw[if_neg hd];obtain⟨a0,a1,b0,b1⟩:=o.pt d (List.mem_of_getElem? hk);unfold un;rw[if_neg (by omega),if_neg (by omega)];grind
theorem Sv.group (o:Nof m ds)(h:Sv m ds (shR m ds k d) v)(hk:ds[k]?=some d)(F:Nat->Rat)(hF:∀d∈ds,d.1=.ho->F d.2.1.toNat=F d.2.2.1.toNat):pcS v F ds=if d.1=.ho then 0 else F d.2.1.toNat - F d.2.2.1.toNat:=by
 rw[<- Lv v F ds m o.pt hF];obtain⟨a0,a1,b0,b1⟩:=o.pt d (List.mem_of_getElem? hk);have m1:=o.m1
 by_cases hd:d.1=.ho
 ·rw[if_pos hd];have z1:∀p,1<=p->p < m->nt v m ds p=0:=fun p p1 pm=>by
   rw[h.pt o p1 pm];unfold shR;rw[if_pos hd];unfold un;rw[if_neg (by omega)]
  have z0:nt v m ds 0=0:=by
   have s:=Mw (v:=v) o;obtain⟨j,rfl⟩:∃j,m=j+1:=⟨m - 1,by omega⟩
   rw[Mq.kH,Mq.aK fun i hi=>z1 (i+1) (by omega) (by omega),Mq.cW] at s;grind
  have:∀p,p < m->F p*nt v m ds p=0:=fun p hp=>by
   by_cases c:p=0
   ·rw[c,z0];grind
   ·rw[z1 p (by omega) hp];grind
  rw[Mq.aK this,Mq.cW]
 ·rw[if_neg hd];have e0:shR m ds k d=fun x=>un d.2.1.toNat x - un d.2.2.1.toNat x:=funext fun x=>if_neg hd;rw[e0] at h;have al:=Pk.all o h (by omega) (by omega);have e:∀p,p < m->F p*nt v m ds p=F p*un d.2.1.toNat p + - (F p*un d.2.2.1.toNat p):=fun p hp=>by rw[al p hp];grind
  rw[Mq.aK e,Mq.dA,Mq.jU,Jg (by omega),Jg (by omega)];grind
end
end L2
set_option maxHeartbeats 4000000
namespace K72
open PySem L2 Shp
section
variable {P:Program} {w:World} {K:PySem.W.Frag} {mg:Str->Option Value} {base:Heap} {f g1 g2 g3 g4 g5 g6 g7 g8:Addr} {fd gd1 gd2 gd3 gd4 gd5 gd6 gd7 gd8:FuncData} {CX:CXT}
variable {CR:Addr} {CK:Kd->Addr} {fW fJ fT fS:Kd->Addr} {fdW fdJ fdT fdS:Kd->FuncData}
def Sg (CN:Addr)(K:PySem.W.Frag):Sp:=fun vs H Q _=>∃(n l:Addr) (m b:Nat) (kb:Nat->Nat) (L:Int) (ds:List RD) (k:Nat) (d:RD),vs=[.ref n,.int (k:Int)]/\Cz CN K H n l m b kb L ds/\ds[k]?=some d/\d.1=.ho/\
 ∀t zs hp v H',H t=none->bG H H'->H' t=some (.lst zs)->Fqs K H' zs hp->hp.length=m->Mq.gD hp->Ovr (bw b (wd m ds)) hp->Sv m ds (un (m+bS (ds.take k))) v->(∀p,p < m->Mq.val (hp.getD p (0,1))=v p)->Q (.ref t) H'
def yW (CN:Addr)(K:PySem.W.Frag):Sp:=fun vs H Q _=>∃(n l:Addr) (m b:Nat) (kb:Nat->Nat) (L:Int) (ds:List RD) (k:Nat) (d:RD),vs=[.ref n,.int (k:Int)]/\Cz CN K H n l m b kb L ds/\ds[k]?=some d/\
 ∀t zs hp v H',H t=none->bG H H'->H' t=some (.lst zs)->Fqs K H' zs hp->hp.length=m->Mq.gD hp->Ovr (bw b (wd m ds)) hp->Sv m ds (shR m ds k d) v->(∀p,p < m->Mq.val (hp.getD p (0,1))=v p)->Q (.ref t) H'
abbrev Ha:Stmt:=top 72
theorem Ex:aT ["net","k","matrix","right","ahead"] ["net","k"] (aE Ha):=⟨rfl,rfl,rfl,by decide +kernel,rfl,by decide +kernel,by decide +kernel⟩
theorem Uv {dV:Value}(F:bZ K "held_heights" "held_heights" Ha dV f fd){CN:Addr}(NTx:NT K mg CN)(T:RT K mg CR CK)(ml:mg "len"=none){aN aO:Addr}(fN:∀H,Fq K H aN (0,1))(mNO:mg "NOUGHT"=some (.ref aN))(fO:∀H,Fq K H aO (1,1))(mON:mg "ONE"=some (.ref aO))(GW:∀k,aQ P w K mg base CX0 1 (fW k) (fdW k) ["self"] (jV k))(bW:∀k,aS K (fdW k) ["self"] [])(mW:∀k,gH K (CK k) "word" (fW k)){gMa:Addr}{gdMa:FuncData}(GMa:aQ P w K mg base CX0 1 gMa gdMa ["self"] (sV CN K))(bMa:aS K gdMa ["self"] [])(mMa:gH K CN "many" gMa){gRo:Addr}{gdRo:FuncData}(GRo:aQ P w K mg base CX0 4 gRo gdRo ["self"] (pB CN K CK))(bRo:aS K gdRo ["self"] [])(mRo:gH K CN "rows" gRo)(G1:aQ P w K mg base CX0 7 g1 gd1 ["net"] (Cr CN K))(b1:aS K gd1 ["net"] [])(k1:PySem.W.keepIn K (.ref g1)=true)(m1:mg "equations"=some (.ref g1))(G3:aQ P w K mg base CX0 6 g3 gd3 ["net","matrix","right"] (Bs CN K))(b3:aS K gd3 ["net","matrix","right"] [])(k3:PySem.W.keepIn K (.ref g3)=true)(m3:mg "heights_by"=some (.ref g3)) :
  aQ P w K mg base CX 8 f fd ["net","k"] (Sg CN K):=by
 refine F.ok Ex (fun vs H Q E h=>?_) (fun cdv A outer s H vs Q E hr h=>?_)
 ·obtain⟨n,l,m,b,kb,L,ds,k,d0,rfl,NB,hk,hd0,q⟩:=h;rfl
 obtain⟨n,l,m,b,kb,L,ds,k,d0,rfl,NB,hk,hd0,q⟩:=h;have r1:=hr.mono (show 1<=7 by omega);have r4:=hr.mono (show 4<=7 by omega);have r6:=hr.mono (show 6<=7 by omega);have r7:=hr;refine⟨_,(aC (aW (i:=2) Ex.nd rfl (Or.inl rfl) (aP aX (aI G1 r7 rfl m1 k1 b1 .nil aM (aA (pv 0) aD)) aF (fun _ _=>rfl)))
  (aC (aW (i:=3) Ex.nd rfl (Or.inl rfl) (aY pC (cV (aA (dB (v:=.ref aN) rfl mNO rfl) aD)) (bO bH rfl ml PySem.boot_len (aA (pv 2) aD))))
  (aC (kB (i:=4) (nl:=1) (fr:=[]) (Nc:=["row"]) (cl:=[]) Ex.nd rfl rfl rfl ⟨rfl,rfl,by decide +kernel,by decide +kernel,fun x c h=>(by cases h),dS rfl,rfl,fun i n h=>(by simp at h)⟩
    (cS (fC gF (fM (pv 0) NTx.cl mRo GRo r4 bRo .nil aM) gV (fK (pv 1)))) (fun C s3 H3 fp pins=>(aZ (i:=0) Mf rfl (Or.inl rfl))) (fun C s3 H3 fp pins=>(nQ (bK eE (fV (pv 0) T.cl mW GW r1 bW .nil aM) cF (bM _))))
    (fun C s3 H3 fp pins=>(pv 0)) rfl)
  (aC (hV (dB (v:=.ref aO) rfl mON rfl) (iV (pv 3) (aY dH (aY iZ (fM (pv 0) NTx.cl mMa GMa r1 bMa .nil aM) aF) (bO bH rfl ml PySem.boot_len (aA (pv 4) aD))) gA))
  (aG (bA (aI G3 r6 rfl m3 k3 b3 .nil aM (aA (pv 0) (aA (pv 2) (aA (pv 3) aD)))))))))),?_⟩
 have EB:=NB.eb;have mo:=EB.o.m1;have w26:=EB.w26;have h40:=NB.h40;have hkl:=(List.getElem?_eq_some_iff.mp hk).1;have hcl:=Cw hk hd0;refine⟨_,rfl,n,l,m,kb,ds,rfl,NB.nt,NB.ok,mo,NB.m20,NB.h40,NB.cu,fun tt p r us ys X Y H1 s1 et np nr ep er FM FY nx EO=>?_⟩;have lX:X.length=wd m ds:=EO.x.h;have lus:=FM.l;refine⟨tt,_,0,_,rfl,rfl,SqT.of et,rfl,?_⟩;obtain⟨W,hW⟩:∃W,W=wd m ds:=⟨_,rfl⟩
 rw[<- hW] at w26;have lusW:us.length=W:=by rw[lus,lX,hW]
 refine⟨by show 1<=sizeLine;decide,fun l1 hl1=>?_⟩;have s2:=aH hl1 (.lst [.ref aN]);have e2:upd H1 l1 (.lst [.ref aN]) l1=some (.lst [.ref aN]):=aB;generalize upd H1 l1 (.lst [.ref aN])=H2 at s2 e2 ⊢;have eW:(us.length:Int)=((W:Nat):Int):=by omega
 refine⟨_,rfl,p,us,rfl,.inl (SqL.of (s2 _ _ ep)),l1,_,[.ref aN],rfl,rfl,e2,by omega,by omega,?_,fun Rr hR=>?_⟩
 ·rw[eW,Int.toNat_natCast,sizeLine_eq];simp only[List.length_cons,List.length_nil];omega
 rw[eW,Int.toNat_natCast,jG];have nR1:H1 Rr=none:=s2.free hR;have s3:=aH hR (.lst (List.replicate W (.ref aN)));have e3:upd H2 Rr (.lst (List.replicate W (.ref aN))) Rr=some (.lst (List.replicate W (.ref aN))):=aB;generalize upd H2 Rr (.lst (List.replicate W (.ref aN)))=H3 at s3 e3 ⊢;have s13:=s2.trans s3;have s03:=s1.trans s13;obtain⟨dn,hn⟩:=(NB.nt.same s03).ob;refine⟨_,rfl,n,dn,_,rfl,hn,dM _ _ (by decide +kernel) (by decide +kernel),n,l,_,ds,rfl,NB.nt.same s03,by omega,fun ra xs H4 s4 na ea Rb=>?_⟩;have lxs:=Rb.length;refine⟨_,rfl,(k:Int),rfl,ra,xs,rfl,SqL.of ea,fun S hS=>?_⟩;rw[yG];have s5:=aH hS (.lst (xs.take k));have e5:upd H4 S (.lst (xs.take k)) S=some (.lst (xs.take k)):=aB;generalize upd H4 S (.lst (xs.take k))=H5 at s5 e5 ⊢;refine⟨S,rfl,⟨_,SqL.of e5⟩,fun C0 hC0=>?_⟩;have sC0:=aH hC0 (.lst []);refine dE (xs:=xs.take k) (fun i zs H'=>bG H5 H'/\H' C0=some (.lst zs)/\zs.length=bS (ds.take i)) ⟨sC0,aB,rfl⟩ (fun i zs H' h=>h.2.1) (fun i zs H' _ h=>h.1.seq (SqL.of e5)) ?_ ?_
 ·rintro i zs x H6 hx ⟨s6,e6,lz⟩ C hC;have hi:i < ds.length:=by
   have:=(List.getElem?_eq_some_iff.mp hx).1;rw[List.length_take] at this;omega
  have ik:i < k:=by
   have:=(List.getElem?_eq_some_iff.mp hx).1;rw[List.length_take] at this;omega
  rw[List.getElem?_take_of_lt ik] at hx;obtain⟨⟨k0,u,v,p⟩,hd⟩:∃d,ds[i]?=some d:=⟨_,List.getElem?_eq_getElem hi⟩
  obtain⟨y,z,ey,rw,fz⟩:=Rb.at hd;have ex:x=.ref y:=by rw[ey] at hx;exact(Option.some.inj hx).symm
  subst ex;obtain⟨dr,hy⟩:=id (rw.same (s5.trans s6));have et:ds.take (i+1)=ds.take i++[(k0,u,v,p)]:=by rw[List.take_add_one,hd];rfl
  have lh:=Ba (ds:=ds) i;have lh2:bS ds<=ds.length:=List.length_filter_le _ _;refine⟨dC.1,dC.2,?_⟩;refine⟨_,rfl,k0,y,dr,_,rfl,hy,(eP _ _ _ (by decide +kernel) (by decide +kernel) (by decide +kernel)),_,rfl,rfl,_,rfl,?_⟩
  by_cases hk:k0=.ho
  ·refine L2.ifT (by show decide (V.str k0.wd=V.str Kd.ho.wd)=true;rw[dG];exact decide_eq_true hk) ⟨_,rfl,e6,bF (by omega),hC _ _ ⟨s6.change hC0,aB,?_⟩⟩;rw[et,gW,List.length_append,lz];show _+1=_+bX k0;unfold bX;rw[if_pos hk]
  ·refine L2.ifF (by show decide (V.str k0.wd=V.str Kd.ho.wd)=false;rw[dG];exact decide_eq_false hk) (hC _ _ ⟨s6,e6,?_⟩);rw[et,gW,lz];show _=_+bX k0;unfold bX;rw[if_neg hk];rfl
 ·rintro zs H6 ⟨s6,e6,lz⟩;have lz:zs.length=bS (ds.take k):=by rw[lz,List.length_take,show min k xs.length=k by omega]
  have s36:=s4.trans (s5.trans s6);have s06:=s03.trans s36;obtain⟨dn6,hn6⟩:=(NB.nt.same s06).ob;obtain⟨ix,hix⟩:∃ix,ix=m - 1+bS (ds.take k):=⟨_,rfl⟩
  have ixW:ix < W:=by unfold wd at hW;omega
  have eR6:=s36 _ _ e3;have eix:(m:Int) - 1+(zs.length:Int)=(ix:Int):=by omega
  refine⟨_,rfl,_,rfl,n,dn6,_,rfl,hn6,dM _ _ (by decide +kernel) (by decide +kernel),n,l,_,ds,rfl,NB.nt.same s06,_,_,rfl,rfl,_,rfl,C0,zs,rfl,.inl (SqL.of e6),_,_,rfl,rfl,?_⟩;refine⟨Rr,_,(ix:Int),ix,rfl,congrArg V.int eix,eR6,gR (by rw[List.length_replicate];exact ixW),?_⟩;have s17:bG H1 (upd H6 Rr (.lst ((List.replicate W (V.ref aN)).set ix (.ref aO)))):=(s13.trans s36).change nR1;have F6:Fqs K H6 ((List.replicate W (V.ref aN)).set ix (.ref aO)) ((List.replicate W (0,1)).set ix (1,1)):=Fqs.set (fO _) ix (jF (fN _) W);have F7:=Fqs.upd (o:=.lst ((List.replicate W (V.ref aN)).set ix (.ref aO))) eR6 F6;have e7:upd H6 Rr (.lst ((List.replicate W (V.ref aN)).set ix (.ref aO))) Rr=some (.lst ((List.replicate W (V.ref aN)).set ix (.ref aO))):=aB;generalize upd H6 Rr (.lst ((List.replicate W (V.ref aN)).set ix (.ref aO)))=H7 at s17 F7 e7 ⊢;have s07:=s1.trans s17;refine⟨_,rfl,_,rfl,_,rfl,n,l,p,Rr,p,H,m,b,_,L,ds,us,_,X,Y,(List.replicate W (0,1)).set ix (1,1),rfl,NB.nt.same s07,SqL.of (s17 _ _ ep),(xG FM (fun x hx=>(nx x hx).1)).same s17,EO,EB,SqL.of e7,F7,by rw[List.length_set,List.length_replicate,lX,hW],fun pq hpq=>?_,fun t zs ps H8 nt8 s8 e8 F8 SU OV=>?_⟩
  ·rcases List.mem_or_eq_of_mem_set hpq with z | z
   ·rw[List.eq_of_mem_replicate z];exact⟨⟨by decide,by decide⟩,rfl,by decide⟩
   ·rw[z];exact⟨gG,rfl,by decide⟩
  ·have lps:ps.length=X.length:=SU.len;have lm:m - 1<=ps.length:=by rw[lps,lX];unfold wd;omega
   refine q t zs (lvS m ps) (uP ps) H8 (s07.free nt8) (s07.trans s8) e8 F8 (Ec mo lm) (En SU.low) (Ng OV) (EqB.sol EO SU fun i hi=>?_) (fun k hk=>Gb lm hk);unfold un;rw[List.getD_eq_getElem?_getD,List.getElem?_set]
   by_cases c:ix=i
   ·rw[if_pos c,if_pos (by rw[List.length_replicate];exact ixW),if_pos (by omega)];exact Mq.rX
   ·rw[if_neg c,if_neg (by omega),List.getElem?_replicate,if_pos (by omega)];exact Mq.kM
abbrev pK:Stmt:=top 71
theorem Fw:aT ["net","k","row"] ["net","k"] (aE pK):=⟨rfl,rfl,rfl,by decide +kernel,rfl,by decide +kernel,by decide +kernel⟩
theorem Kh {dV:Value}(F:bZ K "shape_of" "shape_of" pK dV f fd){CN:Addr}(NTx:NT K mg CN)(T:RT K mg CR CK)(GW:∀k,aQ P w K mg base CX0 1 (fW k) (fdW k) ["self"] (jV k))(bW:∀k,aS K (fdW k) ["self"] [])(mW:∀k,gH K (CK k) "word" (fW k)){gCo:Addr}{gdCo:FuncData}(GCo:aQ P w K mg base CX0 1 gCo gdCo ["self"] (Dz CN K))(bCo:aS K gdCo ["self"] [])(mCo:gH K CN "count" gCo){gRo:Addr}{gdRo:FuncData}(GRo:aQ P w K mg base CX0 4 gRo gdRo ["self"] (pB CN K CK))(bRo:aS K gdRo ["self"] [])(mRo:gH K CN "rows" gRo)(G1:aQ P w K mg base CX0 3 g1 gd1 ["k","count"] Tx)(b1:aS K gd1 ["k","count"] [])(k1:PySem.W.keepIn K (.ref g1)=true)(m1:mg "refuse_number"=some (.ref g1))(G2:aQ P w K mg base CX0 7 g2 gd2 ["net"] (Rx CN K))(b2:aS K gd2 ["net"] [])(k2:PySem.W.keepIn K (.ref g2)=true)(m2:mg "refuse_unanswered"=some (.ref g2))(G3:aQ P w K mg base CX0 8 g3 gd3 ["net","k"] (Sg CN K))(b3:aS K gd3 ["net","k"] [])(k3:PySem.W.keepIn K (.ref g3)=true)(m3:mg "held_heights"=some (.ref g3))(G4:aQ P w K mg base CX0 8 g4 gd4 ["net","start","goal"] (Jm CN K))(b4:aS K gd4 ["net","start","goal"] [])(k4:PySem.W.keepIn K (.ref g4)=true)(m4:mg "pushed_heights"=some (.ref g4)) :
  aQ P w K mg base CX 9 f fd ["net","k"] (yW CN K):=by
 refine F.ok Fw (fun vs H Q E h=>?_) (fun cdv A outer s H vs Q E hr h=>?_)
 ·obtain⟨n,l,m,b,kb,L,ds,k,⟨kd,u,v,p⟩,rfl,NB,hk,q⟩:=h;rfl
 obtain⟨n,l,m,b,kb,L,ds,k,⟨kd,u,v,p⟩,rfl,NB,hk,q⟩:=h;have r1:=hr.mono (show 1<=8 by omega);have r3:=hr.mono (show 3<=8 by omega);have r4:=hr.mono (show 4<=8 by omega);have r7:=hr.mono (show 7<=8 by omega);refine⟨_,(aC (bV (aI G1 r3 rfl m1 k1 b1 .nil aM (aA (pv 1) (aA (fM (pv 0) NTx.cl mCo GCo r1 bCo .nil aM) aD))))
  (aC (bV (aI G2 r7 rfl m2 k2 b2 .nil aM (aA (pv 0) aD)))
  (aC (aW (i:=2) Fw.nd rfl (Or.inl rfl) (aP bL (fM (pv 0) NTx.cl mRo GRo r4 bRo .nil aM) (pv 1) (fun _ _=>rfl)))
  (aC (cE (bK eE (fV (pv 2) T.cl mW GW r1 bW .nil aM) cF (bM _)) (aG (bA (aI G3 hr rfl m3 k3 b3 .nil aM (aA (pv 0) (aA (pv 1) aD))))) bN)
  (aG (bA (aI G4 hr rfl m4 k4 b4 .nil aM (aA (pv 0) (aA (cG (pv 2) rfl) (aA (cG (pv 2) rfl) aD)))))))))),?_⟩
 have EB:=NB.eb;have mo:=EB.o.m1;have m20:=NB.m20;have h40:=NB.h40;have hkl:=(List.getElem?_eq_some_iff.mp hk).1;obtain⟨u0,u1,v0,v1⟩:cT (m:Int) u v:=EB.o.pt _ (List.mem_of_getElem? hk);obtain⟨uN,rfl⟩:∃uN:Nat,u=(uN:Int):=⟨u.toNat,by omega⟩
 obtain⟨vN,rfl⟩:∃vN:Nat,v=(vN:Int):=⟨v.toNat,by omega⟩
 obtain⟨dn,hn⟩:=NB.nt.ob;refine⟨_,rfl,_,rfl,n,dn,_,rfl,hn,dM _ _ (by decide +kernel) (by decide +kernel),n,l,_,ds,rfl,NB.nt,(k:Int),(ds.length:Int),rfl,by omega,by omega,?_⟩;refine⟨_,rfl,n,l,m,ds,rfl,NB.nt,EB.o.pt,mo,m20,NB.h40,uZ Ow EB.o.pt m20 EB.o.fr _ (Nat.le_refl _),Nz EB.o,fun H1 s1=>?_⟩;obtain⟨dn1,hn1⟩:=(NB.nt.same s1).ob;refine⟨_,rfl,n,dn1,_,rfl,hn1,dM _ _ (by decide +kernel) (by decide +kernel),n,l,_,ds,rfl,NB.nt.same s1,by omega,fun ra xs H2 s2 na ea Rb=>?_⟩;have s02:=s1.trans s2;obtain⟨y,z,ey,rw,fz⟩:=Rb.at hk;refine⟨_,rfl,ra,xs,_,_,rfl,rfl,SqL.of ea,bQ ey,?_⟩;obtain⟨dy,hy⟩:=rw
 by_cases hh:kd=.ho
 ·refine⟨_,rfl,kd,y,dy,_,rfl,hy,(eP _ _ _ (by decide +kernel) (by decide +kernel) (by decide +kernel)),_,rfl,rfl,_,rfl,L2.ifT (by show decide (V.str kd.wd=V.str Kd.ho.wd)=true;rw[dG];exact decide_eq_true hh) ?_⟩;refine⟨_,rfl,_,rfl,n,l,m,b,kb,L,ds,k,_,rfl,NB.same s02,hk,hh,fun t zs hp v H3 nt3 s3 e3 F3 lh lo OV SV hv=>?_⟩;exact q t zs hp v H3 (s02.free nt3) (s02.trans s3) e3 F3 lh lo OV (by rw[show shR m ds k (kd,(uN:Int),(vN:Int),p)=un (m+bS (ds.take k)) from funext fun x=>if_pos hh];exact SV) hv
 ·refine⟨_,rfl,kd,y,dy,_,rfl,hy,(eP _ _ _ (by decide +kernel) (by decide +kernel) (by decide +kernel)),_,rfl,rfl,_,rfl,L2.ifF (by show decide (V.str kd.wd=V.str Kd.ho.wd)=false;rw[dG];exact decide_eq_false hh) ?_⟩;refine⟨_,rfl,_,rfl,y,CK _,_,_,_,rfl,hy,T.cl _,T.nG _,dR _ _ _,_,rfl,y,CK _,_,_,_,rfl,hy,T.cl _,T.nS _,dD _ _ _,?_⟩;refine⟨n,l,m,b,kb,L,ds,vN,uN,rfl,NB.same s02,by omega,by omega,fun t zs hp v H3 nt3 s3 e3 F3 lh lo OV SV hv=>?_⟩;exact q t zs hp v H3 (s02.free nt3) (s02.trans s3) e3 F3 lh lo OV (by rw[show shR m ds k (kd,(uN:Int),(vN:Int),p)=fun x=>un uN x - un vN x from funext fun x=>if_neg hh];exact SV) hv
abbrev wX:Stmt:=top 74
theorem No:aT ["_law_script","_law_k","_law_found"] ["_law_script","_law_k"] (aE wX):=⟨rfl,rfl,rfl,by decide +kernel,rfl,by decide +kernel,by decide +kernel⟩
def Bu (K:PySem.W.Frag):Sp:=fun vs H Q _=>∃(a:Addr) (ns:List Int) (j:Int) (k:Nat),vs=[.ref a,.int j]/\j=(k:Int)/\SqL K H a (ns.map V.int)/\ns.length<=63/\∀i H',bG H H'->Q (.int i) H'
theorem Rc {dV:Value}(F:bZ K "_law_draw" "_law_draw" wX dV f fd) :
  aQ P w K mg base CX 1 f fd ["_law_script","_law_k"] (Bu K):=by
 refine F.ok No (fun vs H Q E h=>?_) (fun cdv A outer s H vs Q E hr h=>?_)
 ·obtain⟨a,ns,j,k,rfl,hj,hS,h63,q⟩:=h;rfl
 obtain⟨a,ns,j,k,rfl,hj,hS,h63,q⟩:=h;have hu:=hr.units;refine⟨_,(aC (aW (i:=2) No.nd rfl (Or.inl rfl) (fC gF (pv 0) (fK (pv 1)) (fK (aY dH (pv 1) aF))))
  (aC (cE (bK (uL hu) (pv 2) (cV aD) (bM _)) (aG (bA aF)) bN)
  (aG (bA (aP bL (pv 2) aF (fun _ _=>rfl)))))),?_⟩
 refine⟨_,rfl,_,rfl,j,rfl,_,rfl,_,_,rfl,rfl,j+1,rfl,a,_,rfl,hS,fun l hl=>?_⟩;have s1:=aH hl (.lst (iU (ns.map V.int) (some j) (some (j+1))));have e1:upd H l (.lst (iU (ns.map V.int) (some j) (some (j+1)))) l=some (.lst (iU (ns.map V.int) (some j) (some (j+1)))):=aB;obtain⟨ms,em,lm⟩:=yY ns (some j) (some (j+1));rw[em] at e1 s1 ⊢;generalize upd H l (.lst (ms.map V.int))=H1 at e1 s1 ⊢;refine⟨_,rfl,by show 0<=sizeLine;decide,fun e he=>?_⟩;have s2:=aH he (.lst []);refine As (s2.seq (SqL.of e1)) (SqL.of aB) ⟨_,rfl,?_⟩;rcases ms with _ | ⟨m,ms⟩
 ·exact fY (q 0 _ (s1.trans s2))
 ·refine eV ⟨_,rfl,l,_,_,_,rfl,rfl,s2.seq (SqL.of e1),bQ (j:=0) rfl,q m _ (s1.trans s2)⟩
abbrev rE:Stmt:=top 75
theorem tU:aT ["_law_cell","_law_turn","_law_many","_law_left","_law_k","_law_by_here","_law_prime","_law_x"] ["_law_cell","_law_turn","_law_many"] (aE rE):=⟨rfl,rfl,rfl,by decide +kernel,rfl,by decide +kernel,by decide +kernel⟩
def uE:Sp:=fun vs H Q _=>∃c t m:Int,vs=[.int c,.int t,.int m]/\0<=t/\t<=9/\0 < m/\∀r H',0<=r->r < m->bG H H'->Q (.int r) H'
theorem Vt {a0 a1 a2 a3 a4 a5 a6 a7 a8 a9:Int}(hp:0 < a0/\0 < a1/\0 < a2/\0 < a3/\0 < a4/\0 < a5/\0 < a6/\0 < a7/\0 < a8/\0 < a9)(hm:a0 < 1000000/\a1 < 1000000/\a2 < 1000000/\a3 < 1000000/\a4 < 1000000/\a5 < 1000000/\a6 < 1000000/\a7 < 1000000/\a8 < 1000000/\a9 < 1000000){t:Int}(h0:0<=t)(h9:t<=9) :
  ∃v,atI [V.int a0,.int a1,.int a2,.int a3,.int a4,.int a5,.int a6,.int a7,.int a8,.int a9] t=some (.int v)/\0 < v/\v < 1000000:=by
 have:t=0\/t=1\/t=2\/t=3\/t=4\/t=5\/t=6\/t=7\/t=8\/t=9:=by omega
 rcases this with rfl | rfl | rfl | rfl | rfl | rfl | rfl | rfl | rfl | rfl
 all_goals exact⟨_,rfl,by omega,by omega⟩
abbrev l48:List Int:=[48271,69621,16807,40692,39373,30269,27183,60013,51749,35969]
abbrev l99:List Int:=[999983,999979,999961,999959,999953,999931,999917,999907,999883,999863]
@[irreducible] def md1:Stmt:=(aL rE).getD 1 (.Pass ⟨0,0,0,0⟩)
@[irreducible] def md2:Stmt:=(aL rE).getD 2 (.Pass ⟨0,0,0,0⟩)
def md0:Stmt:=(aL rE).getD 0 (.Pass ⟨0,0,0,0⟩)
def md3:Stmt:=(aL rE).getD 3 (.Pass ⟨0,0,0,0⟩)
def md4:Stmt:=(aL rE).getD 4 (.Pass ⟨0,0,0,0⟩)
theorem Xq:aL rE=[md0,md1,md2,md3,md4]:=by unfold md1 md2;rfl
theorem Tu:∃(q q2 p2 p3 p:Pos) (l:List (Int × _ × Pos)),md1=.Assign [.Name "_law_by_here" q] (.Subscript (.List (l.map fun q=>Expr.Constant (.int q.1) q.2.1 q.2.2) p2) (.Name "_law_turn" q2) p3) p/\l.map (fun q=>V.int q.1)=l48.map V.int:=by
 unfold md1;exact⟨_,_,_,_,_,[(48271,_,_),(69621,_,_),(16807,_,_),(40692,_,_),(39373,_,_),(30269,_,_),(27183,_,_),(60013,_,_),(51749,_,_),(35969,_,_)],rfl,rfl⟩
theorem Vm:∃(q q2 p2 p3 p:Pos) (l:List (Int × _ × Pos)),md2=.Assign [.Name "_law_prime" q] (.Subscript (.List (l.map fun q=>Expr.Constant (.int q.1) q.2.1 q.2.2) p2) (.Name "_law_turn" q2) p3) p/\l.map (fun q=>V.int q.1)=l99.map V.int:=by
 unfold md2;exact⟨_,_,_,_,_,[(999983,_,_),(999979,_,_),(999961,_,_),(999959,_,_),(999953,_,_),(999931,_,_),(999917,_,_),(999907,_,_),(999883,_,_),(999863,_,_)],rfl,rfl⟩
theorem Ta {dV:Value}(F:bZ K "_law_mix" "_law_mix" rE dV f fd)(mr:mg "range"=none) :
  aQ P w K mg base CX 1 f fd ["_law_cell","_law_turn","_law_many"] uE:=by
 refine F.ok tU (fun vs H Q E h=>?_) (fun cdv A outer s H vs Q E hr h=>?_)
 ·obtain⟨c,t,m,rfl,h0,h9,hm,q⟩:=h;rfl
 obtain⟨c,t,m,rfl,h0,h9,hm,q⟩:=h;rw[Xq];obtain⟨q1,q2,q3,q4,q5,l1,e1,eo1⟩:=Tu;obtain⟨r1,r2,r3,r4,r5,l2,e2,eo2⟩:=Vm;rw[e1,e2];refine⟨_,(aC (cE (bK eE (aY tI (pv 0) aF) aF (bM _)) (aC (aW (i:=3) tU.nd rfl (Or.inl rfl) (aY nY (pv 0) aF))
  (aC (eU PassesOwn.never rfl (fU rfl mr (aA (pv 1) aD)) (aZ (i:=4) tU.nd rfl (Or.inl rfl))
   (aG (aW (i:=3) tU.nd rfl (Or.inl rfl) (aY nY (pv 3) (aY Ct aF aF)))))
  (aG (bA (aY kA (pv 3) (pv 2)))))) bN)
  (aC (aW (i:=5) tU.nd rfl (Or.inl rfl) (aP bL (cV (xR _ l1)) (pv 1) (fun _ _=>rfl)))
  (aC (aW (i:=6) tU.nd rfl (Or.inl rfl) (aP bL (cV (xR _ l2)) (pv 1) (fun _ _=>rfl)))
  (aC (aW (i:=7) tU.nd rfl (Or.inl rfl) (aY tI (pv 0) aF))
  (aG (bA (aY kA (aY nY (aY kA (aY dH (aY dH (aY cN (aY tK aF (pv 7)) (pv 7)) (aY cN (pv 5) (pv 7))) (aY tK aF (aY dH (pv 1) aF))) (pv 6)) aF) (pv 2)))))))),?_⟩
 rw[eo1,eo2];have hf:∀u:Int,0<=u.fmod m/\u.fmod m < m:=fun u=>⟨Int.fmod_nonneg_of_pos u hm,Int.fmod_lt_of_pos u hm⟩
 have m0:m≠0:=by omega
 refine⟨_,rfl,_,_,rfl,rfl,(show (0:Int) < 2 by decide),rfl,_,rfl,rD (fun _=>?_) (fun _=>?_)⟩
 ·refine⟨_,rfl,_,_,rfl,rfl,⟨by decide,by decide⟩,?_⟩;refine⟨_,rfl,t,rfl,by omega,by omega,?_⟩;refine gO (n:=t.toNat) (fun i σ H'=>H'=H/\∃u z,σ=[some (.int c),some (.int t),some (.int m),some (.int u),z,none,none,none]) ⟨rfl,_,none,rfl⟩ ?_ ?_
  ·rintro i σ H' hi ⟨rfl,u,z,rfl⟩;exact⟨_,rfl,_,_,rfl,rfl,⟨by decide,by decide,by decide⟩,_,_,rfl,rfl,⟨by decide,by decide⟩,rfl,_,_,rfl⟩
  ·rintro σ H' ⟨rfl,u,z,rfl⟩;exact⟨_,rfl,_,rfl,_,_,rfl,rfl,m0,q _ _ (hf u).1 (hf u).2 (bG.refl _)⟩
 ·refine⟨by show 10<=sizeLine;decide,fun l1 hl1=>?_⟩;obtain⟨by_,eb,b1,b2⟩:=Vt (a0:=48271) (a1:=69621) (a2:=16807) (a3:=40692) (a4:=39373) (a5:=30269) (a6:=27183) (a7:=60013) (a8:=51749) (a9:=35969) (by decide) (by decide) h0 h9;have s1:=aH hl1 (.lst (l48.map V.int));have g1:upd H l1 (.lst (l48.map V.int)) l1=some (.lst (l48.map V.int)):=aB;generalize upd H l1 (.lst (l48.map V.int))=H1 at s1 g1 ⊢;refine⟨_,rfl,l1,_,_,_,rfl,rfl,SqL.of g1,eb,?_⟩;refine⟨by show 10<=sizeLine;decide,fun l2 hl2=>?_⟩;obtain⟨pr,ep,p1,p2⟩:=Vt (a0:=999983) (a1:=999979) (a2:=999961) (a3:=999959) (a4:=999953) (a5:=999931) (a6:=999917) (a7:=999907) (a8:=999883) (a9:=999863) (by decide) (by decide) h0 h9;have s2:=aH hl2 (.lst (l99.map V.int));have g2:upd H1 l2 (.lst (l99.map V.int)) l2=some (.lst (l99.map V.int)):=aB;generalize upd H1 l2 (.lst (l99.map V.int))=H2 at s2 g2 ⊢;refine⟨_,rfl,l2,_,_,_,rfl,rfl,SqL.of g2,ep,?_⟩;refine⟨_,rfl,_,_,rfl,rfl,(show (0:Int) < 2147483647 by decide),?_⟩;have x1:=Int.emod_nonneg c (show (2147483647:Int)≠0 by decide);have x2:=Int.emod_lt_of_pos c (show (0:Int) < 2147483647 by decide);generalize c % 2147483647=x at x1 x2 ⊢;refine⟨_,rfl,_,_,rfl,rfl,Or.inl ⟨by decide,by decide⟩,_,rfl,cO (n:=40) (m:=40) (qY (by omega) (by omega)) (qY (by omega) (by omega)) (by omega) (by omega) ?_⟩;refine⟨_,rfl,_,rfl,cO (n:=40) (m:=40) (qY (by omega) (by omega)) (qY (by omega) (by omega)) (by omega) (by omega) ⟨_,_,rfl,rfl,?_⟩⟩;refine⟨_,rfl,_,_,rfl,rfl,_,_,rfl,rfl,Or.inl ⟨by decide,by decide⟩,_,_,rfl,rfl,_,rfl,_,_,rfl,rfl,by omega,_,_,rfl,rfl,⟨by decide,by decide⟩,_,rfl,_,_,rfl,rfl,m0,?_⟩;exact q _ _ (hf _).1 (hf _).2 (s1.trans s2)
abbrev xD:Stmt:=top 76
theorem yL:aT ["_law_cell","_law_k","_law_left","_law_j"] ["_law_cell","_law_k"] (aE xD):=⟨rfl,rfl,rfl,by decide +kernel,rfl,by decide +kernel,by decide +kernel⟩
def Cg:Sp:=fun vs H Q _=>∃c k:Int,vs=[.int c,.int k]/\0<=k/\k<=63/\∀r,Q (.int r) H
theorem Pb {dV:Value}(F:bZ K "_law_part" "_law_part" xD dV f fd)(mr:mg "range"=none) :
  aQ P w K mg base CX 1 f fd ["_law_cell","_law_k"] Cg:=by
 refine F.ok yL (fun vs H Q E h=>?_) (fun cdv A outer s H vs Q E hr h=>?_)
 ·obtain⟨c,k,rfl,h0,h9,q⟩:=h;rfl
 obtain⟨c,k,rfl,h0,h9,q⟩:=h;refine⟨_,(aC (cE (bK eE (aY tI (pv 0) aF) aF (bM _)) (aG (bA (aY dH (aY tI (pv 0) (aY Ct aF aF)) (aY cN (aY tK aF (pv 1)) (pv 1))))) bN)
  (aC (aW (i:=2) yL.nd rfl (Or.inl rfl) (aY nY (pv 0) aF))
  (aC (eU PassesOwn.never rfl (fU rfl mr (aA (aY tK aF (pv 1)) aD)) (aZ (i:=3) yL.nd rfl (Or.inl rfl))
   (aG (aW (i:=2) yL.nd rfl (Or.inl rfl) (aY nY (pv 2) (aY Ct aF aF)))))
  (aG (bA (aY dH (aY tK aF (pv 2)) aF)))))),?_⟩
 refine⟨_,rfl,_,_,rfl,rfl,(show (0:Int) < 2 by decide),rfl,_,rfl,rD (fun _=>?_) (fun _=>?_)⟩
 ·refine⟨_,rfl,_,_,rfl,rfl,⟨by decide,by decide,by decide⟩,_,_,rfl,rfl,(show (0:Int) < 10 ^ (15:Int).toNat by decide),?_⟩;refine⟨_,rfl,_,_,rfl,rfl,Or.inl ⟨by decide,by decide⟩,_,rfl,cO (n:=40) (m:=40) (qY (by omega) (by omega)) (qY (by omega) (by omega)) (by omega) (by omega) ⟨_,_,rfl,rfl,q _⟩⟩
 ·refine⟨_,rfl,_,_,rfl,rfl,⟨by decide,by decide⟩,?_⟩;refine⟨_,rfl,_,_,rfl,rfl,Or.inl ⟨by decide,by decide⟩,_,rfl,by omega,by omega,?_⟩;refine gO (n:=(12*k).toNat) (fun i σ H'=>H'=H/\∃u z,σ=[some (.int c),some (.int k),some (.int u),z]) ⟨rfl,_,none,rfl⟩ ?_ ?_
  ·rintro i σ H' hi ⟨rfl,u,z,rfl⟩;exact⟨_,rfl,_,_,rfl,rfl,⟨by decide,by decide,by decide⟩,_,_,rfl,rfl,⟨by decide,by decide⟩,rfl,_,_,rfl⟩
  ·rintro σ H' ⟨rfl,u,z,rfl⟩;exact⟨_,rfl,_,_,rfl,rfl,Or.inl ⟨by decide,by decide⟩,_,_,rfl,rfl,q _⟩
abbrev lK:Stmt:=top 77
theorem oY:aT ["_law_top","_law_bottom","_law_one","_law_other"] ["_law_top","_law_bottom"] (aE lK):=⟨rfl,rfl,rfl,by decide +kernel,rfl,by decide +kernel,by decide +kernel⟩
theorem Gi {dV:Value}(F:bZ K "_law_lowest" "_law_lowest" lK dV f fd)(b:Bl mg) :
  aQ P w K mg base CX 1 f fd ["_law_top","_law_bottom"] gL:=by
 refine F.ok oY (fun vs H Q E h=>?_) (fun cdv A outer s H vs Q E hr h=>?_)
 ·obtain⟨t,b',n,rfl,hb,hB,hn,q⟩:=h;rfl
 obtain⟨t,b',n,rfl,hb,hB,hn,q⟩:=h;refine⟨_,(aC (Jh (i:=2) (j:=3) rfl oY.nd rfl rfl (by decide) rfl rfl (aA (bO tV rfl b.abs PyProof.Rows.boot_abs (aA (pv 0) aD)) (aA (bO tV rfl b.abs PyProof.Rows.boot_abs (aA (pv 1) aD)) aD)) rfl)
  (aC (rS PassesOwn.never (bK kY (pv 3) aF (bM _)) (aG (Jh (i:=2) (j:=3) rfl oY.nd rfl rfl (by decide) rfl rfl (aA (pv 3) (aA (aY kA (pv 2) (pv 3)) aD)) rfl)))
  (aC (cE (bK wG (pv 1) aF (bM _)) (aG (aW (i:=2) oY.nd rfl (Or.inl rfl) (aY iZ aF (pv 2)))) bN)
  (aG (bA (cX (aA (aY iK (pv 0) (pv 2)) (aA (aY iK (pv 1) (pv 2)) aD)))))))),?_⟩
 refine⟨_,rfl,_,rfl,_,rfl,_,rfl,_,_,rfl,?_⟩;have g0:=Mq.Vl t b';have n0:0<=(if t < 0 then -t else t):=by split<;>omega
 have n1:0<=(if b' < 0 then -b' else b'):=by split<;>omega
 generalize (if t < 0 then -t else t)=x' at *
 generalize (if b' < 0 then -b' else b')=y' at *
 have hd:=Mq.pJ (t:=t) hb;have hdB:Mq.B n (Mq.dvr t b'):=hB.le (Mq.Cj hb);refine tY (fun σ H'=>H'=H/\∃u v,σ=[some (.int t),some (.int b'),some (.int u),some (.int v)]/\Mq.gc u v=Mq.gc t b'/\0<=u/\0<=v) (fun σ _=>match σ with | [_,_,_,some (.int v)]=>v.natAbs | _=>0) ⟨rfl,x',y',rfl,g0,n0,n1⟩ ?_ ?_
 ·rintro σ H' ⟨rfl,u,v,rfl,e,hu,hv0⟩;refine⟨_,rfl,rfl,_,rfl,?_⟩;refine rD (fun c=>?_) (fun c=>?_)
  ·have hv:v≠0:=by intro q;subst q;simp at c
   refine⟨_,rfl,_,rfl,_,rfl,_,_,rfl,rfl,hv,_,_,rfl,⟨rfl,v,Int.fmod u v,rfl,(Mq.Em u v).trans e,hv0,Int.fmod_nonneg_of_pos u (by omega)⟩,Mq.vH hv⟩
  ·have hv:v=0:=by
    simp at c;exact c
   subst hv;have eu:u=Mq.gc t b':=by rw[<- e,Mq.Fe,if_neg (by omega)]
   subst eu;refine⟨_,rfl,_,_,rfl,rfl,_,rfl,rD (fun c=>?_) (fun c=>?_)⟩
   ·have hlt:b' < 0:=of_decide_eq_true c;have e:Mq.dvr t b'=0 - Mq.gc t b':=by unfold Mq.dvr;rw[if_pos hlt];omega
    rw[e] at hd hdB;have q':rC H' Q (t.fdiv (0 - Mq.gc t b'),b'.fdiv (0 - Mq.gc t b')):=by
     have z:=q;unfold Mq.red at z;rw[e] at z;exact z
    refine⟨_,rfl,_,_,rfl,rfl,?_⟩;refine⟨_,rfl,_,rfl,fR hd hdB hn ⟨_,rfl,_,rfl,fR hd hdB hn ⟨by show 2<=sizeLine;decide,fun p hp=>?_⟩⟩⟩;exact q' p _ (aH hp _) aB
   ·have hlt:¬b' < 0:=fun z=>c (decide_eq_true z);have e:Mq.dvr t b'=Mq.gc t b':=by unfold Mq.dvr;rw[if_neg hlt]
    rw[e] at hd hdB;have q':rC H' Q (t.fdiv (Mq.gc t b'),b'.fdiv (Mq.gc t b')):=by
     have z:=q;unfold Mq.red at z;rw[e] at z;exact z
    refine⟨_,rfl,_,rfl,fR hd hdB hn ⟨_,rfl,_,rfl,fR hd hdB hn ⟨by show 2<=sizeLine;decide,fun p hp=>?_⟩⟩⟩;exact q' p _ (aH hp _) aB
 ·rintro σ H Q Q' m ⟨v,h1,h2,k,h3,h4⟩;exact⟨v,h1,h2,k,h3,m _ _ h4⟩
abbrev pQ:Stmt:=top 78
theorem Oa:aT ["_law_one","_law_other"] ["_law_one","_law_other"] (aE pQ):=⟨rfl,rfl,rfl,by decide +kernel,rfl,by decide +kernel,by decide +kernel⟩
theorem Jq {dV:Value}(F:bZ K "_law_plus" "_law_plus" pQ dV f fd)(G1:aQ P w K mg base CX0 1 g1 gd1 ["_law_top","_law_bottom"] gL)(b1:aS K gd1 ["_law_top","_law_bottom"] [])(k1:PySem.W.keepIn K (.ref g1)=true)(m1:mg "_law_lowest"=some (.ref g1)) :
  aQ P w K mg base CX 2 f fd ["_law_one","_law_other"] (kL K Mq.plus):=by
 refine F.ok Oa (fun vs H Q E h=>?_) (fun cdv A outer s H vs Q E hr h=>?_)
 ·obtain⟨a,b,p,q,n,m,rfl,fa,fb,hp,hq,bp,bq,hnm,z⟩:=h;rfl
 obtain⟨a,b,p,q,n,m,rfl,fa,fb,hp,hq,bp,bq,hnm,z⟩:=h;refine⟨_,(aG (bA (aI G1 hr rfl m1 k1 b1 .nil aM (aA (aY dH (aY cN (aP aX (pv 0) aF (fun _ _=>rfl)) (aP aX (pv 1) aF (fun _ _=>rfl))) (aY cN (aP aX (pv 1) aF (fun _ _=>rfl)) (aP aX (pv 0) aF (fun _ _=>rfl)))) (aA (aY cN (aP aX (pv 0) aF (fun _ _=>rfl)) (aP aX (pv 1) aF (fun _ _=>rfl))) aD))))),?_⟩;refine dY rfl fa (cL rfl fb (cO bp.a bq.b (by omega) (by omega) ?_));refine dY rfl fb (cL rfl fa (cO bq.a bp.b (by omega) (by omega) ⟨_,_,rfl,rfl,?_⟩));refine cL rfl fa (cL rfl fb (cO bp.b bq.b (by omega) (by omega) ?_));exact⟨_,_,n+m,rfl,Mq.jB hp hq,bp.b.mul bq.b,by omega,z⟩
abbrev pV:Stmt:=top 79
theorem Rf:aT ["_law_one","_law_other"] ["_law_one","_law_other"] (aE pV):=⟨rfl,rfl,rfl,by decide +kernel,rfl,by decide +kernel,by decide +kernel⟩
theorem Jy {dV:Value}(F:bZ K "_law_less" "_law_less" pV dV f fd)(G1:aQ P w K mg base CX0 1 g1 gd1 ["_law_top","_law_bottom"] gL)(b1:aS K gd1 ["_law_top","_law_bottom"] [])(k1:PySem.W.keepIn K (.ref g1)=true)(m1:mg "_law_lowest"=some (.ref g1)) :
  aQ P w K mg base CX 2 f fd ["_law_one","_law_other"] (kL K Mq.minus):=by
 refine F.ok Rf (fun vs H Q E h=>?_) (fun cdv A outer s H vs Q E hr h=>?_)
 ·obtain⟨a,b,p,q,n,m,rfl,fa,fb,hp,hq,bp,bq,hnm,z⟩:=h;rfl
 obtain⟨a,b,p,q,n,m,rfl,fa,fb,hp,hq,bp,bq,hnm,z⟩:=h;refine⟨_,(aG (bA (aI G1 hr rfl m1 k1 b1 .nil aM (aA (aY iZ (aY cN (aP aX (pv 0) aF (fun _ _=>rfl)) (aP aX (pv 1) aF (fun _ _=>rfl))) (aY cN (aP aX (pv 1) aF (fun _ _=>rfl)) (aP aX (pv 0) aF (fun _ _=>rfl)))) (aA (aY cN (aP aX (pv 0) aF (fun _ _=>rfl)) (aP aX (pv 1) aF (fun _ _=>rfl))) aD))))),?_⟩;refine dY rfl fa (cL rfl fb (cO bp.a bq.b (by omega) (by omega) ?_));refine dY rfl fb (cL rfl fa (cO bq.a bp.b (by omega) (by omega) ⟨_,_,rfl,rfl,?_⟩));refine cL rfl fa (cL rfl fb (cO bp.b bq.b (by omega) (by omega) ?_));exact⟨_,_,n+m,rfl,Mq.jB hp hq,bp.b.mul bq.b,by omega,z⟩
theorem rC.same {H H':Hp}{Q:VK}{p:Mq.Q2}(s:bG H H')(h:rC H Q p):rC H' Q p:=fun a H2 s2 e=>h a H2 (s.trans s2) e
abbrev Gp:Stmt:=top 80
theorem Wj:aT ["_law_one","_law_other"] ["_law_one","_law_other"] (aE Gp):=⟨rfl,rfl,rfl,by decide +kernel,rfl,by decide +kernel,by decide +kernel⟩
theorem So {dV:Value}(F:bZ K "_law_by" "_law_by" Gp dV f fd)(G1:aQ P w K mg base CX0 1 g1 gd1 ["_law_top","_law_bottom"] gL)(b1:aS K gd1 ["_law_top","_law_bottom"] [])(k1:PySem.W.keepIn K (.ref g1)=true)(m1:mg "_law_lowest"=some (.ref g1)) :
  aQ P w K mg base CX 2 f fd ["_law_one","_law_other"] (yU K):=by
 refine F.ok Wj (fun vs H Q E h=>?_) (fun cdv A outer s H vs Q E hr h=>?_)
 ·obtain⟨a,b,p,q,n,m,rfl,fa,fb,hp,hq,h0,bp,bq,hnm,z⟩:=h;rfl
 obtain⟨a,b,p,q,n,m,rfl,fa,fb,hp,hq,h0,bp,bq,hnm,z⟩:=h;refine⟨_,(aG (bA (aI G1 hr rfl m1 k1 b1 .nil aM (aA (aY cN (aP aX (pv 0) aF (fun _ _=>rfl)) (aP aX (pv 1) aF (fun _ _=>rfl))) (aA (aY cN (aP aX (pv 0) aF (fun _ _=>rfl)) (aP aX (pv 1) aF (fun _ _=>rfl))) aD))))),?_⟩;refine dY rfl fa (cL rfl fb (cO bp.a bq.b (by omega) (by omega) ?_));refine cL rfl fa (dY rfl fb (cO bp.b bq.a (by omega) (by omega) ?_));exact⟨_,_,n+m,rfl,Mq.nU hp (by omega),bp.b.mul bq.a,by omega,z⟩
abbrev vA:Stmt:=top 81
theorem Nt:aT ["_law_found","_law_due","_law_number"] ["_law_found","_law_due"] (aE vA):=⟨rfl,rfl,rfl,by decide +kernel,rfl,by decide +kernel,by decide +kernel⟩
def Js (K:PySem.W.Frag):Sp:=fun vs H Q _=>∃(a b:Addr) (p:Mq.Q2),vs=[.ref a,.ref b]/\Fq K H a p/\Fq K H b p/\Q (.bl true) H
theorem Od {dV:Value}(F:bZ K "_law_told" "_law_told" vA dV f fd)(b:Bl mg)(ml:mg "len"=none)(mt:mg "tuple"=none) :
  aQ P w K mg base CX 1 f fd ["_law_found","_law_due"] (Js K):=by
 refine F.ok Nt (fun vs H Q E h=>?_) (fun cdv A outer s H vs Q E hr h=>?_)
 ·obtain⟨a,d,p,rfl,fa,fd',q⟩:=h;rfl
 obtain⟨a,d,p,rfl,fa,fd',q⟩:=h;have hu:=hr.units;refine⟨_,(aC (cE (PW.pt (mP (gC (eO (gQ (i:=0) rfl (Or.inl rfl) b.isi mt rfl rfl PyProof.Rows.boot_tuple))) (mU (bK kY (bO bH rfl ml PySem.boot_len (aA (pv 0) aD)) aF (bM _))))) (aG (bA iQ)) bN)
  (aC (eU PassesOwn.never rfl (Tz (pv 0)) (aZ (i:=2) Nt.nd rfl (Or.inl rfl))
   (aG (cE (PW.pt (mP (gC (eO (gQ (i:=2) rfl (Or.inl rfl) b.isi b.int rfl rfl PyProof.Rows.boot_int))) (mU (eO (gQ (i:=2) rfl (Or.inl rfl) b.isi b.bool rfl rfl PyProof.Rows.boot_bool))))) (aG (bA iQ)) bN)))
  (aG (bA (iC (uL hu) (pv 0) (pv 1) (bM _)))))),?_⟩
 refine⟨_,_,true,rfl,.tup fa,rfl,_,rfl,eV ⟨_,rfl,a,_,rfl,.inr fa,rfl,_,rfl,eV ?_⟩⟩;refine⟨_,rfl,a,rfl,⟨_,fa⟩,?_⟩;refine Pj (xs:=[.int p.1,.int p.2]) (fun i σ H'=>H'=H/\∃z,σ=[some (.ref a),some (.ref d),z]) ⟨rfl,none,rfl⟩ (fun i σ H' _ h=>by rw[h.1];exact fa) ?_ ?_
 ·rintro i x σ H' hx ⟨rfl,z,rfl⟩;have hint:∃j,x=.int j:=by
   match i,hx with
   |0,h=>exact⟨p.1,by simpa using h.symm⟩
   |1,h=>exact⟨p.2,by simpa using h.symm⟩
   |n+2,h=>simp at h
  obtain⟨j,rfl⟩:=hint;refine⟨_,_,true,rfl,.of (.int j),rfl,_,rfl,eV ⟨_,_,false,rfl,.of (.int j),(by with_unfolding_all rfl),_,rfl,eV ⟨rfl,_,rfl⟩⟩⟩
 ·rintro σ H' ⟨rfl,z,rfl⟩;refine⟨_,rfl,_,rfl,yB fa fd' ?_⟩;show Q (.bl (decide (p=p))) H';rw[decide_eq_true rfl];exact q
def Ma:Sp:=fun vs H Q _=>∃c:Int,vs=[.int c]/\∀p,Mq.Low p/\0 < p.1/\Mq.Bd 4 p->rC H Q p
abbrev vL:Stmt:=top 82
theorem Ss:aT ["_law_cell"] ["_law_cell"] (aE vL):=⟨rfl,rfl,rfl,by decide +kernel,rfl,by decide +kernel,by decide +kernel⟩
theorem Po {dV:Value}(F:bZ K "_law_size" "_law_size" vL dV f fd)(G1:aQ P w K mg base CX0 1 g1 gd1 ["_law_cell","_law_turn","_law_many"] uE)(b1:aS K gd1 ["_law_cell","_law_turn","_law_many"] [])(k1:PySem.W.keepIn K (.ref g1)=true)(m1:mg "_law_mix"=some (.ref g1))(G3:aQ P w K mg base CX0 1 g3 gd3 ["_law_top","_law_bottom"] gL)(b3:aS K gd3 ["_law_top","_law_bottom"] [])(k3:PySem.W.keepIn K (.ref g3)=true)(m3:mg "_law_lowest"=some (.ref g3)) :
  aQ P w K mg base CX 2 f fd ["_law_cell"] Ma:=by
 refine F.ok Ss (fun vs H Q E h=>?_) (fun cdv A outer s H vs Q E hr h=>?_)
 ·obtain⟨c,rfl,q⟩:=h;rfl
 obtain⟨c,rfl,q⟩:=h;refine⟨_,(aG (bA (aI G3 hr rfl m3 k3 b3 .nil aM (aA (aY dH aF (aI G1 hr rfl m1 k1 b1 .nil aM (aA (pv 0) (aA aF (aA aF aD))))) (aA (aY dH aF (aI G1 hr rfl m1 k1 b1 .nil aM (aA (pv 0) (aA aF (aA aF aD))))) aD))))),?_⟩;refine⟨_,rfl,c,3,12,rfl,by decide,by decide,by decide,fun r H1 r1 r2 s1=>⟨_,_,rfl,rfl,?_⟩⟩;refine⟨_,rfl,c,4,6,rfl,by decide,by decide,by decide,fun b H3 b1 b2 s3=>⟨_,_,rfl,rfl,?_⟩⟩;have b0:1+b≠0:=by omega
 have le:=Mq.kZ (t:=1+r) b0;have bT:Mq.B 4 (1+r):=qY (by omega) (by omega);have bB:Mq.B 4 (1+b):=qY (by omega) (by omega);exact⟨1+r,1+b,4,rfl,b0,bB,by omega,rC.same (s1.trans s3) (q _ ⟨Mq.gU b0,Mq.Fc (by omega) (by omega),⟨bT.le le.1,bB.le le.2⟩⟩)⟩
def Ge (CN:Addr)(K:PySem.W.Frag):Sp:=fun vs H Q _=>∃(m:Int) (r:Addr) (us:List V) (ds:List RD),vs=[.int m,.ref r]/\1<=m/\m<=20/\SqL K H r us/\Rts K H us ds/\(∀d∈ds,Hg m d)/\ds.length<=40/\∀n l H',bG H H'->H l=none->eJ CN K H' n l m ds->Q (.ref n) H'
abbrev pI:Stmt:=top 83
theorem yH:aT ["_law_many","_law_rows","_law_net_here","_law_row"] ["_law_many","_law_rows"] (aE pI):=⟨rfl,rfl,rfl,by decide +kernel,rfl,by decide +kernel,by decide +kernel⟩
theorem Jr {dV:Value}(F:bZ K "_law_net" "_law_net" pI dV f fd){CN:Addr}(NTx:NT K mg CN){gAd:Addr}{gdAd:FuncData}(GAd:aQ P w K mg base CX0 5 gAd gdAd ["self","row"] (Sj CN K CK))(bAd:aS K gdAd ["self","row"] [])(mAd:gH K CN "add" gAd){gNI:Addr}{gdNI:FuncData}(GNI:aQ P w K mg base CX0 2 gNI gdNI ["self","many"] (Ep CN))(bNI:aS K gdNI ["self","many"] [])(MN:Mk K CN gNI)(G1:aQ P w K mg base CX0 3 g1 gd1 ["told"] (tD K CK))(b1:aS K gd1 ["told"] [])(k1:PySem.W.keepIn K (.ref g1)=true)(m1:mg "row_of"=some (.ref g1)) :
  aQ P w K mg base CX 6 f fd ["_law_many","_law_rows"] (Ge CN K):=by
 refine F.ok yH (fun vs H Q E h=>?_) (fun cdv A outer s H vs Q E hr h=>?_)
 ·obtain⟨m,r,us,ds,rfl,hm1,hm20,hU,hR,hK,h40,q⟩:=h;rfl
 obtain⟨m,r,us,ds,rfl,hm1,hm20,hU,hR,hK,h40,q⟩:=h;have r3:=hr.mono (show 3<=5 by omega);refine⟨_,(aC (aW (i:=2) yH.nd rfl (Or.inl rfl) (nT MN GNI r3 rfl NTx.mN bNI .nil aM (aA (pv 0) aD)))
  (aC (eU PassesOwn.never rfl (cS (pv 1)) (aZ (i:=3) yH.nd rfl (Or.inl rfl))
   (aG (bV (xV (pv 2) NTx.cl mAd GAd hr bAd .nil aM (aA (aI G1 r3 rfl m1 k1 b1 .nil aM (aA (pv 3) aD)) aD)))))
  (aG (bA (pv 2))))),?_⟩
 have lus:=hR.length;refine⟨_,rfl,fun n dx h1 h2 ne=>⟨n,dx,m,rfl,aB,hm1,hm20,fun l H2 nl keep hn hl=>⟨rfl,?_⟩⟩⟩;have s2:bG H H2:=fun b o e=>keep b o (by rw[bC (aU e h1),bC (aU e h2)];exact e) (aU e h1);have hl0:H l=none:=by
  cases o:H l with
  |none=>rfl
  |some o'=>
   have:(upd (upd H dx (.own n)) n (.ins CN dx [])) l=some o':=by rw[bC (aU o h1),bC (aU o h2)];exact o
   rw[this] at nl;cases nl
 refine⟨_,rfl,r,rfl,⟨_,s2.seq hU⟩,?_⟩;refine gB (xs:=us) (fun i σ H'=>bG H H'/\eJ CN K H' n l m (ds.take i)/\∃z,σ=[some (.int m),some (.ref r),some (.ref n),z]) ⟨s2,⟨⟨dx,hn⟩,[],hl,.nil⟩,none,rfl⟩ (fun i σ H' _ h=>h.1.seq hU) ?_ ?_
 ·rintro i x σ H3 hx ⟨s3,N3,z,rfl⟩;have hi:i < ds.length:=by
   have:=(List.getElem?_eq_some_iff.mp hx).1;omega
  obtain⟨⟨k,u,v,p⟩,hd⟩:∃d,ds[i]?=some d:=⟨_,List.getElem?_eq_getElem hi⟩
  obtain⟨t,z',et,hT,fz⟩:=hR.at hd;have ex:x=.ref t:=by rw[et] at hx;exact(Option.some.inj hx).symm
  subst ex;obtain⟨dn,hn3⟩:=N3.ob;have lt:(ds.take i).length<=ds.length:=by rw[List.length_take];omega
  refine⟨_,rfl,n,dn,_,rfl,hn3,dM _ _ (by decide +kernel) (by decide +kernel),_,rfl,t,_,_,_,_,rfl,s3.seqT hT,k,rfl,fun y H4 s4 ny rw=>?_⟩;refine⟨n,l,y,z',m,ds.take i,k,u,v,p,rfl,N3.same s4,rw,(s3.trans s4).fq fz,hK _ (List.mem_of_getElem? hd),by rw[List.length_take];omega,fun H5 x5 N5=>?_⟩;refine⟨fun b o e=>x5 _ _ ((s3.trans s4) _ _ e) (aU e hl0),?_,_,rfl⟩;rw[List.take_add_one,hd];exact N5
 ·rintro σ H3 ⟨s3,N3,z,rfl⟩;rw[lus,List.take_length] at N3;exact⟨_,rfl,q n l H3 s3 hl0 N3⟩
theorem Fz {α β:Type}(f:α->β)(l:List α)(i:Nat)(e:α):(l.take i++e :: l.drop i).map f=(l.map f).take i++f e :: (l.map f).drop i:=by
 rw[List.map_append,List.map_cons,List.map_take,List.map_drop]
theorem Rts.take {K:PySem.W.Frag}{H:Hp}:∀{xs:List V} {ds:List RD} (n:Nat),Rts K H xs ds->Rts K H (xs.take n) (ds.take n)
 |_,_,0,_=>.nil
 |_,_,_+1,.nil=>.nil
 |_,_,n+1,.cons h f q=>.cons h f (Rts.take n q)
theorem Rts.drop {K:PySem.W.Frag}{H:Hp}:∀{xs:List V} {ds:List RD} (n:Nat),Rts K H xs ds->Rts K H (xs.drop n) (ds.drop n)
 |_,_,0,h=>h
 |_,_,_+1,.nil=>.nil
 |_,_,n+1,.cons _ _ q=>Rts.drop n q
theorem Fd {α:Type}(l:List α)(i:Nat)(e:α):(l.take i++e :: l.drop i).length=l.length+1:=by
 rw[List.length_append,List.length_cons,List.length_take,List.length_drop];omega
theorem nE (k:Kd):decide (V.str k.wd=V.str "piece")=decide (k=.pc):=dG k .pc
theorem oC (k:Kd):decide (V.str k.wd=V.str "hold")=decide (k=.ho):=dG k .ho
def Ro (K:PySem.W.Frag):Sp:=fun vs H Q _=>∃(r e:Addr) (c:Int) (k:Kd) (us:List V) (ds:List RD) (i j:Int),vs=[.ref r,.int c,.str k.wd,.ref e]/\H r=some (.lst us)/\Rts K H us ds/\ds.length<=60/\SqT K H e [.int i,.int j]/\
 ∀y t (d:RD) H' H'',y<=us.length->bG H H'->d.1=k->((d.2.1=i/\d.2.2.1=j)\/(d.2.1=j/\d.2.2.1=i))->Mq.Low d.2.2.2->Mq.Bd 7 d.2.2.2->(k=.pc->0 < d.2.2.2.1/\Mq.Bd 4 d.2.2.2)->H''=upd H' r (.lst (us.take y++.ref t :: us.drop y))->Rts K H'' (us.take y++.ref t :: us.drop y) (ds.take y++d :: ds.drop y)->Q .non H''
abbrev Hj:Stmt:=top 84
theorem Dw:aT ["_law_rows","_law_cell","_law_word","_law_ends","_law_size_here"] ["_law_rows","_law_cell","_law_word","_law_ends"] (aE Hj):=⟨rfl,rfl,rfl,by decide +kernel,rfl,by decide +kernel,by decide +kernel⟩
theorem Tv {dV:Value}(F:bZ K "_law_put" "_law_put" Hj dV f fd)(ml:mg "len"=none)(G1:aQ P w K mg base CX0 1 g1 gd1 ["_law_cell","_law_turn","_law_many"] uE)(b1:aS K gd1 ["_law_cell","_law_turn","_law_many"] [])(k1:PySem.W.keepIn K (.ref g1)=true)(m1:mg "_law_mix"=some (.ref g1))(G2:aQ P w K mg base CX0 1 g2 gd2 ["_law_top","_law_bottom"] gL)(b2:aS K gd2 ["_law_top","_law_bottom"] [])(k2:PySem.W.keepIn K (.ref g2)=true)(m2:mg "_law_lowest"=some (.ref g2))(G3:aQ P w K mg base CX0 2 g3 gd3 ["_law_cell"] Ma)(b3:aS K gd3 ["_law_cell"] [])(k3:PySem.W.keepIn K (.ref g3)=true)(m3:mg "_law_size"=some (.ref g3)) :
  aQ P w K mg base CX 3 f fd ["_law_rows","_law_cell","_law_word","_law_ends"] (Ro K):=by
 refine F.ok Dw (fun vs H Q E h=>?_) (fun cdv A outer s H vs Q E hr h=>?_)
 ·obtain⟨r,e,c,k,us,ds,i,j,rfl,er,hR,h60,he,q⟩:=h;rfl
 obtain⟨r,e,c,k,us,ds,i,j,rfl,er,hR,h60,he,q⟩:=h;have r1:=hr.mono (show 1<=2 by omega);refine⟨_,(aC (aW (i:=4) Dw.nd rfl (Or.inl rfl) (aI G3 hr rfl m3 k3 b3 .nil aM (aA (pv 1) aD)))
  (aC (cE (bK kY (pv 2) cF (bM _)) (aG (aW (i:=4) Dw.nd rfl (Or.inl rfl) (aI G2 r1 rfl m2 k2 b2 .nil aM (aA (aY iZ (aI G1 r1 rfl m1 k1 b1 .nil aM (aA (pv 1) (aA aF (aA aF aD)))) aF) (aA (aY dH aF (aI G1 r1 rfl m1 k1 b1 .nil aM (aA (pv 1) (aA aF (aA aF aD))))) aD))))) bN)
  (aC (cE (bK eE (aI G1 r1 rfl m1 k1 b1 .nil aM (aA (pv 1) (aA aF (aA aF aD)))) aF (bM _)) (aG (aW (i:=3) Dw.nd rfl (Or.inl rfl) (cX (aA (aP aX (pv 3) aF (fun _ _=>rfl)) (aA (aP aX (pv 3) aF (fun _ _=>rfl)) aD))))) bN)
  (aG (bV (nX PySem.F.plainAttrs_list PySem.F.slot_list_insert PySem.F.type_list_insert He (pv 0) (aA (aI G1 r1 rfl m1 k1 b1 .nil aM (aA (pv 1) (aA aF (aA (aY dH (bO bH rfl ml PySem.boot_len (aA (pv 0) aD)) aF) aD)))) (aA (cX (aA (pv 2) (aA (aP aX (pv 3) aF (fun _ _=>rfl)) (aA (aP aX (pv 3) aF (fun _ _=>rfl)) (aA (pv 4) aD))))) aD)))))))),?_⟩
 have lu:=hR.length
 try dsimp only
 refine Xl (fun σ' H'=>bG H H'/\∃(z:Addr) (p:Mq.Q2),σ'=[some (.ref r),some (.int c),some (.str k.wd),some (.ref e),some (.ref z)]/\Fq K H' z p/\Mq.Low p/\Mq.Bd 7 p/\(k=.pc->0 < p.1/\Mq.Bd 4 p)) (fun X hX=>?_) ?_
 ·refine⟨_,rfl,c,rfl,fun p hp z H1 s1 e1=>?_⟩
  by_cases hk:k=.pc
  ·refine⟨_,rfl,rfl,_,rfl,L2.ifF (by show (!decide (V.str k.wd=V.str "piece"))=false;rw[nE,decide_eq_true hk];rfl) ?_⟩;exact hX _ _ ⟨s1,z,p,rfl,Fq.of e1,hp.1,hp.2.2.mono (by omega),fun _=>⟨hp.2.1,hp.2.2⟩⟩
  ·refine⟨_,rfl,rfl,_,rfl,L2.ifT (by show (!decide (V.str k.wd=V.str "piece"))=true;rw[nE,decide_eq_false hk];rfl) ?_⟩;refine⟨_,rfl,c,5,121,rfl,by decide,by decide,by decide,fun a H2 a1 a2 s2=>⟨_,_,rfl,rfl,?_⟩⟩;refine⟨_,rfl,c,6,12,rfl,by decide,by decide,by decide,fun b H3 b1 b2 s3=>⟨_,_,rfl,rfl,?_⟩⟩;have b0:1+b≠0:=by omega
   have le:=Mq.kZ (t:=a - 60) b0;have bT:Mq.B 7 (a - 60):=qY (by omega) (by omega);have bB:Mq.B 7 (1+b):=qY (by omega) (by omega);exact⟨a - 60,1+b,7,rfl,b0,bB,by omega,fun z2 H4 s4 e4=>hX _ _ ⟨s1.trans (s2.trans (s3.trans s4)),z2,_,rfl,Fq.of e4,Mq.gU b0,⟨bT.le le.1,bB.le le.2⟩,fun h=>absurd h hk⟩⟩
 rintro σ1 H1 ⟨s1,z,p,rfl,fz,lp,bp,hpc⟩
 try dsimp only
 refine Cd (fun σ' H'=>bG H1 H'/\∃(e':Addr) (i' j':Int),σ'=[some (.ref r),some (.int c),some (.str k.wd),some (.ref e'),some (.ref z)]/\SqT K H' e' [.int i',.int j']/\((i'=i/\j'=j)\/(i'=j/\j'=i))) (fun X hX=>?_) ?_
 ·refine⟨_,rfl,c,2,2,rfl,by decide,by decide,by decide,fun a H2 a1 a2 s2=>⟨rfl,_,rfl,rD (fun _=>?_) (fun _=>?_)⟩⟩
  ·refine⟨_,rfl,e,_,_,_,rfl,rfl,(s1.trans s2).seqT he,rfl,_,rfl,e,_,_,_,rfl,rfl,(s1.trans s2).seqT he,rfl,by show 2<=sizeLine;decide,fun e2 he2=>?_⟩;have s3:=aH he2 (.tup [.int j,.int i]);exact hX _ _ ⟨s2.trans s3,e2,j,i,rfl,SqT.of aB,.inr ⟨rfl,rfl⟩⟩
  ·exact hX _ _ ⟨s2,e,i,j,rfl,(s1.trans s2).seqT he,.inl ⟨rfl,rfl⟩⟩
 rintro σ2 H2 ⟨s2,e',i',j',rfl,he',hij⟩;have s02:=s1.trans s2;have er2:=s02 _ _ er;refine⟨_,rfl,.inl ⟨rfl,_,SqL.of er2⟩,_,rfl,_,rfl,r,us,rfl,.inl (SqL.of er2),_,_,rfl,rfl,c,8,(us.length:Int)+1,rfl,by decide,by decide,by omega,fun y' H3 y0 y1 s3=>?_⟩;obtain⟨y,rfl⟩:∃y:Nat,y'=(y:Int):=⟨y'.toNat,by omega⟩
 have he3:=s3.seqT he';refine⟨_,rfl,_,rfl,e',_,_,_,rfl,rfl,he3,rfl,_,rfl,e',_,_,_,rfl,rfl,he3,rfl,_,rfl,by show 4<=sizeLine;decide,fun t4 ht4=>?_⟩;have s4:=aH ht4 (.tup [.str k.wd,.int i',.int j',.ref z]);have e4:upd H3 t4 (.tup [.str k.wd,.int i',.int j',.ref z]) t4=some (.tup [.str k.wd,.int i',.int j',.ref z]):=aB;generalize upd H3 t4 (.tup [.str k.wd,.int i',.int j',.ref z])=H4 at s4 e4 ⊢;have s04:=s02.trans (s3.trans s4);have er4:=s04 _ _ er;refine⟨r,us,y,_,.ref t4,rfl,rfl,rfl,by omega,er4,bF (by omega),?_⟩;refine q y t4 (k,i',j',p) H4 _ (by omega) s04 rfl hij lp bp hpc rfl ?_;exact Rts.upd er4 ((Rts.take y (hR.same s04)).app (.cons (SqT.of e4) ((s2.trans (s3.trans s4)).fq fz) (Rts.drop y (hR.same s04))))
def kws (ks:List Kd):List V:=ks.map fun k=>V.str k.wd
theorem Vh {ks:List Kd}{r:Int}(h0:0<=r)(h:r < (ks.length:Int)):∃k,k∈ks/\atI (kws ks) r=some (.str (Kd.wd k)):=by
 obtain⟨n,rfl⟩:∃n:Nat,r=(n:Int):=⟨r.toNat,by omega⟩
 have hn:n < ks.length:=by omega
 refine⟨ks[n],List.getElem_mem hn,bQ ?_⟩;unfold kws;rw[List.getElem?_map,List.getElem?_eq_getElem hn];rfl
theorem Al {m t k:Nat}(m1:1<=m):Int.fmod ((k:Int)+(t:Int)) (m:Int)=((rot m t k:Nat):Int):=by
 rw[Int.fmod_eq_emod_of_nonneg _ (by omega)];show ((k:Int)+(t:Int)) % (m:Int)=(((k+t) % m:Nat):Int)
 rw[Int.natCast_emod,Int.natCast_add]
theorem Zj (xs:List V)(j:Nat):(iU xs (some 8) (some (8+(j:Int)))).length<=j:=by
 unfold iU;have h1:HT.sIx xs.length xs.length (some (8+(j:Int)))=min (8+j) xs.length:=by
  simp only[HT.sIx];split<;>omega
 have h2:HT.sIx xs.length 0 (some 8)=min 8 xs.length:=by simp[HT.sIx]
 rw[h1,h2,List.length_take,List.length_drop];omega
theorem Qn {m t k j:Nat}{d:RD}(m1:1<=m)(k1:1<=k)(km:k < m)(jk:j < k)(npu:d.1≠.pu)(lp:Mq.Low d.2.2.2)(bp:Mq.Bd 7 d.2.2.2)(hpc:d.1=.pc->0 < d.2.2.2.1/\Mq.Bd 4 d.2.2.2)(hij:(d.2.1=((rot m t k:Nat):Int)/\d.2.2.1=((rot m t j:Nat):Int))\/(d.2.1=((rot m t j:Nat):Int)/\d.2.2.1=((rot m t k:Nat):Int))):Ly m t (some (k,j),d):=by
 have a:=Lp (t:=t) m1 k;have b:=Lp (t:=t) m1 j;refine⟨?_,lp,bp,hpc,(fun _ z=>by cases z),fun k' j' e=>?_⟩
 ·rcases hij with ⟨x,y⟩ | ⟨x,y⟩<;>(show cT (m:Int) d.2.1 d.2.2.1;rw[x,y];exact⟨by omega,by omega,by omega,by omega⟩)
 ·have e:=Option.some.inj e;injection e with e1 e2
  subst e1 e2;exact⟨npu,k1,km,jk,hij⟩
theorem Qa {m t:Nat}{d:RD}(pt:cT (m:Int) d.2.1 d.2.2.1)(nho:d.1≠.ho)(lp:Mq.Low d.2.2.2)(bp:Mq.Bd 7 d.2.2.2)(hpc:d.1=.pc->0 < d.2.2.2.1/\Mq.Bd 4 d.2.2.2):Ly m t (none,d):=⟨pt,lp,bp,hpc,fun h=>absurd h nho,fun k j e=>by cases e⟩
def Kg (K:PySem.W.Frag):Sp:=fun vs H Q _=>∃(a w:Addr) (ns:List Int) (m ms:Nat) (ks:List Kd),vs=[.ref a,.int (m:Int),.int (ms:Int),.ref w]/\SqL K H a (ns.map V.int)/\ns.length<=63/\1<=m/\m<=20/\ms<=20/\SqL K H w (kws ks)/\1<=ks.length/\(∀k∈ks,k≠.pu)/\
 ∀r us t E H',bG H H'->H r=none->H' r=some (.lst us)->Rts K H' us (rwH E)->Hng m t m E->E.length<=m - 1+ms->Q (.ref r) H'
abbrev wP:Stmt:=top 85
theorem kK:aT ["_law_script","_law_many","_law_most","_law_words","_law_rows","_law_turn","_law_k","_law_cell","_law_ends"] ["_law_script","_law_many","_law_most","_law_words"] (aE wP):=⟨rfl,rfl,rfl,by decide +kernel,rfl,by decide +kernel,by decide +kernel⟩
theorem Re {dV:Value}(F:bZ K "_law_hanging" "_law_hanging" wP dV f fd)(mr:mg "range"=none)(ml:mg "len"=none)(G1:aQ P w K mg base CX0 1 g1 gd1 ["_law_script","_law_k"] (Bu K))(b1:aS K gd1 ["_law_script","_law_k"] [])(k1:PySem.W.keepIn K (.ref g1)=true)(m1:mg "_law_draw"=some (.ref g1))(G2:aQ P w K mg base CX0 1 g2 gd2 ["_law_cell","_law_turn","_law_many"] uE)(b2:aS K gd2 ["_law_cell","_law_turn","_law_many"] [])(k2:PySem.W.keepIn K (.ref g2)=true)(m2:mg "_law_mix"=some (.ref g2))(G3:aQ P w K mg base CX0 3 g3 gd3 ["_law_rows","_law_cell","_law_word","_law_ends"] (Ro K))(b3:aS K gd3 ["_law_rows","_law_cell","_law_word","_law_ends"] [])(k3:PySem.W.keepIn K (.ref g3)=true)(m3:mg "_law_put"=some (.ref g3)) :
  aQ P w K mg base CX 4 f fd ["_law_script","_law_many","_law_most","_law_words"] (Kg K):=by
 refine F.ok kK (fun vs H Q E h=>?_) (fun cdv A outer s H vs Q E hr h=>?_)
 ·obtain⟨a,w,ns,m,ms,ks,rfl,hS,h63,hm1,hm20,hms,hW,hks1,hks,q⟩:=h;rfl
 obtain⟨a,w,ns,m,ms,ks,rfl,hS,h63,hm1,hm20,hms,hW,hks1,hks,q⟩:=h;have r1:=hr.mono (show 1<=3 by omega);refine⟨_,(aC (aW (i:=4) kK.nd rfl (Or.inl rfl) (cV aD))
  (aC (aW (i:=5) kK.nd rfl (Or.inl rfl) (aI G2 r1 rfl m2 k2 b2 .nil aM (aA (aI G1 r1 rfl m1 k1 b1 .nil aM (aA (pv 0) (aA aF aD))) (aA aF (aA (pv 1) aD)))))
  (aC (eU PassesOwn.never rfl (vP rfl mr (aA aF (aA (pv 1) aD))) (aZ (i:=6) kK.nd rfl (Or.inl rfl))
   (aC (aW (i:=7) kK.nd rfl (Or.inl rfl) (aI G1 r1 rfl m1 k1 b1 .nil aM (aA (pv 0) (aA (aY dH aF (pv 6)) aD))))
  (aC (aW (i:=8) kK.nd rfl (Or.inl rfl) (cX (aA (aY kA (aY dH (pv 6) (pv 5)) (pv 1)) (aA (aY kA (aY dH (aI G2 r1 rfl m2 k2 b2 .nil aM (aA (pv 7) (aA aF (aA (pv 6) aD)))) (pv 5)) (pv 1)) aD))))
  (aG (bV (aI G3 hr rfl m3 k3 b3 .nil aM (aA (pv 4) (aA (pv 7) (aA (aP bL (pv 3) (aI G2 r1 rfl m2 k2 b2 .nil aM (aA (pv 7) (aA aF (aA (bO bH rfl ml PySem.boot_len (aA (pv 3) aD)) aD)))) (fun _ _=>rfl)) (aA (pv 8) aD))))))))))
  (aC (eU PassesOwn.never rfl (cS (fC gF (pv 0) (fK aF) (fK (aY dH aF (pv 2))))) (aZ (i:=7) kK.nd rfl (Or.inl rfl))
   (aC (aW (i:=8) kK.nd rfl (Or.inl rfl) (cX (aA (aI G2 r1 rfl m2 k2 b2 .nil aM (aA (pv 7) (aA aF (aA (pv 1) aD)))) (aA (aI G2 r1 rfl m2 k2 b2 .nil aM (aA (pv 7) (aA aF (aA (pv 1) aD)))) aD))))
  (aG (bV (aI G3 hr rfl m3 k3 b3 .nil aM (aA (pv 4) (aA (pv 7) (aA (aP bL (cV (aA cF (aA cF (aA cF aD)))) (aI G2 r1 rfl m2 k2 b2 .nil aM (aA (pv 7) (aA aF (aA aF aD)))) (fun _ _=>rfl)) (aA (pv 8) aD)))))))))
  (aG (bA (pv 4))))))),?_⟩
 refine⟨by show 0<=sizeLine;decide,fun r hr0=>?_⟩;have s1:=aH hr0 (.lst []);have e1:upd H r (.lst []) r=some (.lst []):=aB;generalize upd H r (.lst [])=H1 at s1 e1 ⊢;refine⟨_,rfl,a,ns,2,2,rfl,rfl,s1.seq hS,h63,fun c0 H2 s2=>?_⟩;refine⟨_,rfl,c0,1,(m:Int),rfl,by decide,by decide,by omega,fun t' H3 t0 tm s3=>?_⟩;obtain⟨t,rfl⟩:∃t:Nat,t'=(t:Int):=⟨t'.toNat,by omega⟩
 have s03:=s1.trans (s2.trans s3);have e3:=(s2.trans s3) _ _ e1
 try dsimp only
 refine Cd (fun σ' H'=>bG H H'/\∃(us:List V) (E:List Hn) (z6 z7 z8:Option V),σ'=[some (.ref a),some (.int (m:Int)),some (.int (ms:Int)),some (.ref w),some (.ref r),some (.int (t:Int)),z6,z7,z8]/\H' r=some (.lst us)/\Rts K H' us (rwH E)/\Hng m t m E/\E.length=m - 1) (fun X hX=>?_) ?_
 ·refine⟨_,rfl,1,(m:Int),rfl,by omega,?_⟩;refine gO (lo:=1) (n:=((m:Int) - 1).toNat) (fun i σ H'=>bG H H'/\∃(us:List V) (E:List Hn) (z6 z7 z8:Option V),σ=[some (.ref a),some (.int (m:Int)),some (.int (ms:Int)),some (.ref w),some (.ref r),some (.int (t:Int)),z6,z7,z8]/\H' r=some (.lst us)/\Rts K H' us (rwH E)/\Hng m t (i+1) E/\E.length=i) ⟨s03,[],[],none,none,none,rfl,e3,.nil,⟨hm1,by omega,(fun e he=>by cases he),List.nodup_nil,(fun k a b=>by omega),(fun p hp=>by cases hp),rfl⟩,rfl⟩ ?_ ?_
  ·rintro i σ H4 hi ⟨s4,us,E,z6,z7,z8,rfl,er,hR,hg,le⟩;obtain⟨k,hk⟩:∃k:Nat,k=i+1:=⟨_,rfl⟩
   have ek:(1:Int)+(i:Int)=(k:Int):=by omega
   rw[ek];have lE:(rwH E).length=E.length:=List.length_map ..;refine⟨_,rfl,_,rfl,_,_,rfl,rfl,a,ns,_,2+k,rfl,by omega,s4.seq hS,h63,fun c H5 s5=>?_⟩;have s45:=s4.trans s5;refine⟨_,rfl,_,rfl,_,_,rfl,rfl,_,rfl,_,_,rfl,rfl,(show (m:Int)≠0 by omega),_,rfl,_,rfl,c,1,(k:Int),rfl,by decide,by decide,by omega,fun j' H6 j0 j1 s6=>?_⟩;obtain⟨j,rfl⟩:∃j:Nat,j'=(j:Int):=⟨j'.toNat,by omega⟩
   refine⟨_,rfl,_,_,rfl,rfl,_,rfl,_,_,rfl,rfl,(show (m:Int)≠0 by omega),by show 2<=sizeLine;decide,fun e he=>?_⟩;have s7:=aH he (.tup [.int (Int.fmod ((k:Int)+(t:Int)) (m:Int)),.int (Int.fmod ((j:Int)+(t:Int)) (m:Int))]);have e7:upd H6 e (.tup [.int (Int.fmod ((k:Int)+(t:Int)) (m:Int)),.int (Int.fmod ((j:Int)+(t:Int)) (m:Int))]) e=some (.tup [.int (Int.fmod ((k:Int)+(t:Int)) (m:Int)),.int (Int.fmod ((j:Int)+(t:Int)) (m:Int))]):=aB;generalize upd H6 e (.tup [.int (Int.fmod ((k:Int)+(t:Int)) (m:Int)),.int (Int.fmod ((j:Int)+(t:Int)) (m:Int))])=H7 at s7 e7 ⊢;rw[Al hm1,Al hm1] at e7;have s47:=s5.trans (s6.trans s7);have s07:=s4.trans s47;have er7:=s47 _ _ er;refine⟨_,rfl,_,rfl,_,rfl,_,rfl,_,rfl,w,_,rfl,.inl (s07.seq hW),c,0,_,rfl,by decide,by decide,by unfold kws;rw[List.length_map];omega,fun x H8 x0 x1 s8=>?_⟩;have x1:x < (ks.length:Int):=by unfold kws at x1;rwa [List.length_map] at x1
   obtain⟨kd,hkd,ekd⟩:=Vh x0 x1;refine⟨w,_,_,_,rfl,rfl,(s07.trans s8).seq hW,ekd,_,rfl,?_⟩;have s48:=s47.trans s8;refine⟨r,e,c,kd,us,rwH E,_,_,rfl,s48 _ _ er,hR.same s48,by omega,SqT.of (s8 _ _ e7),fun y t9 d H9 H10 hy s9 dk hij lp bp hpc e10 R10=>?_⟩;subst e10;have ho:=Qn (m:=m) (t:=t) (k:=k) (j:=j) (d:=d) hm1 (by omega) (by omega) (by omega) (by rw[dk];exact hks kd hkd) lp bp (by rw[dk];exact hpc) hij;have hg':=Hng.tree hg ho (j:=j) (by rw[hk]) y;have ee:rwH (E.take y++(some (k,j),d) :: E.drop y)=(rwH E).take y++d :: (rwH E).drop y:=Fz ..;rw[<- ee] at R10;exact⟨((s4.trans s48).trans s9).change hr0,us.take y++.ref t9 :: us.drop y,E.take y++(some (k,j),d) :: E.drop y,some (.int (k:Int)),some (.int c),some (.ref e),rfl,aB,R10,hg',by rw[Fd,le]⟩
  ·rintro σ H4 ⟨s4,us,E,z6,z7,z8,rfl,er,hR,hg,le⟩;rw[show ((m:Int) - 1).toNat+1=m by omega] at hg;exact hX _ _ ⟨s4,us,E,z6,z7,z8,rfl,er,hR,hg,by omega⟩
 rintro σ2 H2 ⟨s2,us0,E0',z6,z7,z8,rfl,er0,hR0,hg0,le0⟩;refine⟨_,rfl,8,rfl,_,rfl,_,_,rfl,rfl,8+(ms:Int),rfl,a,_,rfl,s2.seq hS,fun C hC=>?_⟩;have cl:=Zj (ns.map V.int) ms;obtain⟨cs,em,_⟩:=yY ns (some 8) (some (8+(ms:Int)));rw[em] at cl ⊢;rw[List.length_map] at cl;have nCr:C≠r:=Ne.symm (aU er0 hC);have s3:=aH hC (.lst (cs.map V.int));have eC:upd H2 C (.lst (cs.map V.int)) C=some (.lst (cs.map V.int)):=aB;generalize upd H2 C (.lst (cs.map V.int))=H3 at s3 eC ⊢;refine⟨C,rfl,⟨_,SqL.of eC⟩,?_⟩;refine gB (xs:=cs.map V.int) (fun n σ H'=>bG H H'/\H' C=some (.lst (cs.map V.int))/\∃(us:List V) (E:List Hn) (z7 z8:Option V),σ=[some (.ref a),some (.int (m:Int)),some (.int (ms:Int)),some (.ref w),some (.ref r),some (.int (t:Int)),z6,z7,z8]/\H' r=some (.lst us)/\Rts K H' us (rwH E)/\Hng m t m E/\E.length=m - 1+n) ⟨s2.trans s3,eC,us0,E0',z7,z8,rfl,s3 _ _ er0,hR0.same s3,hg0,le0⟩ (fun n σ H' _ h=>SqL.of h.2.1) ?_ ?_
 ·rintro n x σ H4 hx ⟨s4,eC4,us,E,z7,z8,rfl,er,hR,hg,le⟩;have hn:n < cs.length:=by
   have:=(List.getElem?_eq_some_iff.mp hx).1
   rwa [List.length_map] at this
  obtain⟨c,rfl⟩:∃c,x=.int c:=by
   rw[List.getElem?_map] at hx
   cases hm:cs[n]? with
   |none=>rw[hm] at hx;cases hx
   |some c=>rw[hm] at hx;cases hx;exact⟨c,rfl⟩
  have lE:(rwH E).length=E.length:=List.length_map ..;refine⟨_,rfl,_,rfl,c,1,(m:Int),rfl,by decide,by decide,by omega,fun i H5 i0 i1 s5=>?_⟩;refine⟨_,rfl,_,rfl,c,9,(m:Int),rfl,by decide,by decide,by omega,fun j H6 j0 j1 s6=>?_⟩;refine⟨by show 2<=sizeLine;decide,fun e he=>?_⟩;have s7:=aH he (.tup [.int i,.int j]);have e7:upd H6 e (.tup [.int i,.int j]) e=some (.tup [.int i,.int j]):=aB;generalize upd H6 e (.tup [.int i,.int j])=H7 at s7 e7 ⊢;have s47:=s5.trans (s6.trans s7);refine⟨_,rfl,_,rfl,by show 3<=sizeLine;decide,fun W2 hW2=>?_⟩;have s8:=aH hW2 (.lst [.str "piece",.str "push",.str "piece"]);have e8:upd H7 W2 (.lst [.str "piece",.str "push",.str "piece"]) W2=some (.lst [.str "piece",.str "push",.str "piece"]):=aB;generalize upd H7 W2 (.lst [.str "piece",.str "push",.str "piece"])=H8 at s8 e8 ⊢;refine⟨_,rfl,c,0,3,rfl,by decide,by decide,by decide,fun x H9 x0 x1 s9=>?_⟩;obtain⟨kd,hkd,ekd⟩:∃k:Kd,k≠.ho/\atI [V.str "piece",.str "push",.str "piece"] x=some (.str (Kd.wd k)):=by
   have:x=0\/x=1\/x=2:=by omega
   rcases this with rfl | rfl | rfl
   ·exact⟨.pc,(fun z=>by cases z),rfl⟩
   ·exact⟨.pu,(fun z=>by cases z),rfl⟩
   ·exact⟨.pc,(fun z=>by cases z),rfl⟩
  refine⟨W2,_,_,_,rfl,rfl,SqL.of (s9 _ _ e8),ekd,_,rfl,?_⟩;have s49:=s47.trans (s8.trans s9);refine⟨r,e,c,kd,us,rwH E,_,_,rfl,s49 _ _ er,hR.same s49,by omega,SqT.of ((s8.trans s9) _ _ e7),fun y t9 d HA HB hy sA dk hij lp bp hpc eB RB=>?_⟩;subst eB;have pt:cT (m:Int) d.2.1 d.2.2.1:=by
   rcases hij with ⟨x,y⟩ | ⟨x,y⟩<;>(rw[x,y];exact⟨by omega,by omega,by omega,by omega⟩)
  have ho:=Qa (m:=m) (t:=t) (d:=d) pt (by rw[dk];exact hkd) lp bp (by rw[dk];exact hpc);have hg':=Hng.ins hg ho rfl y;have ee:rwH (E.take y++(none,d) :: E.drop y)=(rwH E).take y++d :: (rwH E).drop y:=Fz ..;rw[<- ee] at RB;exact⟨((s4.trans s49).trans sA).change hr0,by rw[bC nCr];exact(s49.trans sA) _ _ eC4,us.take y++.ref t9 :: us.drop y,E.take y++(none,d) :: E.drop y,some (.int c),some (.ref e),rfl,aB,RB,hg',by rw[Fd,le];omega⟩
 ·rintro σ H4 ⟨s4,_,us,E,z7,z8,rfl,er,hR,hg,le⟩;rw[List.length_map] at le;exact⟨_,rfl,q r us t E H4 s4 hr0 er hR hg (by omega)⟩
def Ll (K:PySem.W.Frag):Sp:=fun vs H Q _=>∃(r:Addr) (us:List V) (m:Nat) (ds:List RD),vs=[.ref r,.int (m:Int)]/\SqL K H r us/\Rts K H us ds/\(∀d∈ds,cT (m:Int) d.2.1 d.2.2.1)/\m<=20/\∀c H',bG H H'->H c=none->H' c=some (.lst ((mks m (cZ .ho ds)).map V.int))->Q (.ref c) H'
theorem qX:(["_law_mark","_law_old","_law_new"]:List Str).Nodup:=by decide +kernel
abbrev wO:Stmt:=top 86
theorem jN:aT ["_law_rows","_law_many","_law_marks","_law_word","_law_start","_law_goal","_law_size_here","_law_old","_law_new"] ["_law_rows","_law_many"] (aE wO):=⟨rfl,rfl,rfl,by decide +kernel,rfl,by decide +kernel,by decide +kernel⟩
theorem Qt {dV:Value}(F:bZ K "_law_held" "_law_held" wO dV f fd)(mli:mg "list"=none)(mr:mg "range"=none) :
  aQ P w K mg base CX 1 f fd ["_law_rows","_law_many"] (Ll K):=by
 refine F.ok jN (fun vs H Q E h=>?_) (fun cdv A outer s H vs Q E hr h=>?_)
 ·obtain⟨r,us,m,ds,rfl,hS,hR,pt,hm20,q⟩:=h;rfl
 obtain⟨r,us,m,ds,rfl,hS,hR,pt,hm20,q⟩:=h;refine⟨_,(aC (aW (i:=2) jN.nd rfl (Or.inl rfl) (oS rfl rfl mli rfl mr (aA (pv 1) aD)))
  (aC (eU PassesOwn.never rfl (cS (pv 0)) (jA rfl (bU (aZ (i:=3) jN.nd rfl (Or.inl rfl)) (bU (aZ (i:=4) jN.nd rfl (Or.inl rfl)) (bU (aZ (i:=5) jN.nd rfl (Or.inl rfl)) (bU (aZ (i:=6) jN.nd rfl (Or.inl rfl)) gS)))))
   (aG (cE (bK eE (pv 3) cF (bM _)) (aC (aW (i:=7) jN.nd rfl (Or.inr rfl) (aP bL (pv 2) (pv 5) (fun _ _=>rfl)))
  (aC (aW (i:=8) jN.nd rfl (Or.inr rfl) (aP bL (pv 2) (pv 4) (fun _ _=>rfl)))
  (aG (kB (i:=2) (nl:=1) (fr:=[7,8]) (Nc:=["_law_mark","_law_old","_law_new"]) (cl:=[("_law_old",s.heap.objs.size+1),("_law_new",s.heap.objs.size+2)]) jN.nd rfl rfl rfl ⟨rfl,rfl,by decide +kernel,by decide +kernel,(cP rfl (cP rfl (iB))),dS rfl,rfl,fun i n h=>match i,h with | 0,h=>by cases h;exact⟨7,rfl,rfl,rfl,rfl,.inl rfl⟩ | 1,h=>by cases h;exact⟨8,rfl,rfl,rfl,rfl,.inl rfl⟩ | k+2,h=>by rw[show 1+(k+2)=k+3 by omega] at h;cases h⟩
    (cS (pv 2)) (fun C s3 H3 fp pins=>(aZ (i:=0) qX rfl (Or.inl rfl))) (fun C s3 H3 fp pins=>dX)
    (fun C s3 H3 fp pins=>(oV (bK eE (pv 0) (pv 1) (bM _)) (pv 2) (pv 0))) rfl)))) bN)))
  (aG (bA (pv 2))))),?_⟩
 have lus:=hR.length;refine⟨_,rfl,m,rfl,by omega,fun D hD=>?_⟩;have sD:=aH hD (.lst ((List.range m).map fun (i:Nat)=>V.int (i:Int)));have eD:upd H D (.lst ((List.range m).map fun (i:Nat)=>V.int (i:Int))) D=some (.lst ((mks m (cZ .ho (ds.take 0))).map V.int)):=by
  rw[aB];show some (HO.lst _)=some (HO.lst ((Ac m).map V.int));unfold Ac;rw[List.map_map];rfl
 generalize upd H D (.lst ((List.range m).map fun (i:Nat)=>V.int (i:Int)))=H1 at sD eD ⊢;refine⟨_,rfl,r,rfl,⟨_,sD.seq hS⟩,?_⟩;refine gB (xs:=us) (fun i σ H'=>bG H H'/\∃(c:Addr) (z4 z5 z6 z7 z8 z9:Option V),σ=[some (.ref r),some (.int (m:Int)),some (.ref c),z4,z5,z6,z7,z8,z9]/\H c=none/\H' c=some (.lst ((mks m (cZ .ho (ds.take i))).map V.int))) ⟨sD,D,none,none,none,none,none,none,rfl,hD,eD⟩ (fun i σ H' _ h=>h.1.seq hS) ?_ ?_
 ·rintro i w σ H2 hw ⟨s2,c,z4,z5,z6,z7,z8,z9,rfl,nc,ec⟩;have hi:i < ds.length:=by have:=(List.getElem?_eq_some_iff.mp hw).1;omega
  obtain⟨⟨kd,u,v,p⟩,hd⟩:∃d,ds[i]?=some d:=⟨_,List.getElem?_eq_getElem hi⟩
  obtain⟨t,z,et,ht,fz⟩:=hR.at hd;have ew:w=.ref t:=by rw[et] at hw;exact(Option.some.inj hw).symm
  subst ew;obtain⟨i0,i1,j0,j1⟩:cT (m:Int) u v:=pt _ (List.mem_of_getElem? hd);refine⟨t,_,rfl,s2.seqT ht,rfl,_,_,rfl,_,_,rfl,_,_,rfl,_,_,rfl,rfl,?_⟩;have eT:cZ .ho (ds.take (i+1))=cZ .ho (ds.take i)++(if kd=.ho then [(kd,u,v,p)] else []):=by
   rw[List.take_add_one,hd];unfold cZ;rw[List.filter_append];congr 1;show List.filter _ [(kd,u,v,p)]=_
   by_cases h:kd=.ho
   ·rw[if_pos h,List.filter_cons_of_pos (by exact decide_eq_true h)];rfl
   ·rw[if_neg h,List.filter_cons_of_neg (by simpa using h)];rfl
  rw[eT];have lm:=jR m (cZ .ho (ds.take i))
  by_cases hk:kd=.ho
  rotate_left
  ·rw[if_neg hk,List.append_nil];refine⟨_,rfl,rfl,_,rfl,L2.ifF (by show decide (V.str kd.wd=V.str "hold")=false;rw[oC];exact decide_eq_false hk) ?_⟩;exact⟨s2,c,_,_,_,_,z8,z9,rfl,nc,ec⟩
  ·rw[if_pos hk,lG];generalize mks m (cZ .ho (ds.take i))=ms at ec lm ⊢;have sk:gY ms (kd,u,v,p)=jn ms u.toNat v.toNat:=by
    unfold gY;rw[if_neg (by show ¬kd=.pu;rw[hk];exact fun z=>by cases z)]
   rw[sk];refine⟨_,rfl,rfl,_,rfl,L2.ifT (by show decide (V.str kd.wd=V.str "hold")=true;rw[oC];exact decide_eq_true hk) ?_⟩;have gi:∀{j:Int},0<=j->j < (m:Int)->atI (ms.map V.int) j=some (.int (ms.getD j.toNat 0)):=fun {j} h0 h1=>by
    have hj:j.toNat < ms.length:=by omega
    have:=bQ (xs:=ms.map V.int) (j:=j.toNat) (v:=.int (ms.getD j.toNat 0)) (by rw[List.getElem?_map,List.getElem?_eq_getElem hj,List.getD_eq_getElem?_getD,List.getElem?_eq_getElem hj];rfl)
    rwa [show ((j.toNat:Nat):Int)=j by omega] at this
   refine⟨_,rfl,_,rfl,c,_,_,_,rfl,rfl,SqL.of ec,gi j0 j1,?_⟩;refine⟨_,rfl,_,rfl,c,_,_,_,rfl,rfl,SqL.of ec,gi i0 i1,?_⟩;refine⟨_,rfl,c,rfl,⟨_,SqL.of ec⟩,fun D2 hD2=>?_⟩;have sD2:=aH hD2 (.lst []);have lj:(jn ms u.toNat v.toNat).length=ms.length:=by unfold jn;rw[List.length_map]
   refine dE (xs:=ms.map V.int) (fun i zs H'=>bG H2 H'/\H' D2=some (.lst zs)/\zs=((jn ms u.toNat v.toNat).take i).map V.int) ⟨sD2,aB,rfl⟩ (fun i zs H' h=>h.2.1) (fun i zs H' _ h=>h.1.seq (SqL.of ec)) ?_ ?_
   ·rintro i' zs x H3 hx' ⟨s3,e3,rfl⟩ C hC;rw[List.getElem?_map] at hx';obtain⟨cc,hc,rfl⟩:=Option.map_eq_some_iff.mp hx';have hi':i' < ms.length:=(List.getElem?_eq_some_iff.mp hc).1;have ej:(jn ms u.toNat v.toNat)[i']?=some (if cc=ms.getD v.toNat 0 then ms.getD u.toNat 0 else cc):=by unfold jn;rw[List.getElem?_map,hc];rfl
    refine⟨dC.1,dC.2,fY ?_⟩;refine⟨_,rfl,_,rfl,rfl,_,rfl,?_⟩
    by_cases h:cc=ms.getD v.toNat 0
    ·rw[if_pos h] at ej;refine L2.ifT (decide_eq_true (by rw[h])) ⟨_,rfl,e3,bF (by rw[List.length_map,List.length_take];omega),hC _ _ ⟨s3.change hD2,aB,?_⟩⟩;rw[List.take_add_one,ej,List.map_append];rfl
    ·rw[if_neg h] at ej;refine L2.ifF (decide_eq_false (fun z=>h (by injection z))) ⟨_,rfl,e3,bF (by rw[List.length_map,List.length_take];omega),hC _ _ ⟨s3.change hD2,aB,?_⟩⟩;rw[List.take_add_one,ej,List.map_append];rfl
   ·rintro zs H3 ⟨s3,e3,rfl⟩;rw[List.length_map,<- lj,List.take_length] at e3;exact⟨s2.trans s3,D2,_,_,_,_,_,_,rfl,s2.free hD2,e3⟩
 ·rintro σ H2 ⟨s2,c,z4,z5,z6,z7,z8,z9,rfl,nc,ec⟩;rw[show us.length=ds.length by omega,List.take_length] at ec;exact⟨_,rfl,q c H2 s2 nc ec⟩
end
end K72
set_option maxHeartbeats 1000000
namespace L2
open PySem PySem.Spec PyProof.Rows Shp
theorem Jx {m:Nat}:∀(n:Nat) (ds:List RD),ds.length=n->(∀d∈ds,cT (m:Int) d.2.1 d.2.2.1)->∀p,p < m->0<=mk m ds p/\mk m ds p < (m:Int)
 |0,ds,hl,_,p,hp=>by
  have:ds=[]:=List.length_eq_zero_iff.mp hl;rw[this,Bj hp];omega
 |n+1,ds,hl,pt,p,hp=>by
  obtain⟨es,d,rfl⟩:∃es d,ds=es++[d]:=⟨ds.dropLast,ds.getLast (by intro z;rw[z] at hl;cases hl),(List.dropLast_concat_getLast _).symm⟩
  have le:es.length=n:=by rw[List.length_append] at hl;simpa using hl
  have ih:=Jx n es le (fun y hy=>pt y (List.mem_append_left _ hy));obtain⟨i0,i1,j0,j1⟩:=pt d (by simp)
  by_cases hk:d.1=.pu
  ·rw[oX hk];exact ih p hp
  ·rw[nC hk hp];split
   ·exact ih _ (by omega)
   ·exact ih p hp
structure Lf (E:Int) (M m:Nat) (f:Nat->Rat) (qs:List Mq.Q2):Prop where
 len:qs.length=m
 low:Mq.gD qs
 v:∀c,c < m->Mq.val (qs.getD c (0,1))=f c/\Mq.Fr E M (f c)
section
variable {E:Int} {M N m c0:Nat} {f:Nat->Rat} {qs:List Mq.Q2} {p:Mq.Q2}
theorem Lf.at (h:Lf E M m f qs)(hc:c0 < m):qs[c0]?=some (qs.getD c0 (0,1))/\Mq.Low (qs.getD c0 (0,1)):=by
 have hl:c0 < qs.length:=by rw[h.len];exact hc
 have e:qs[c0]?=some (qs.getD c0 (0,1)):=by rw[List.getD_eq_getElem?_getD,List.getElem?_eq_getElem hl];rfl
 exact⟨e,h.low _ (List.mem_of_getElem? e)⟩
theorem Lf.bd (h:Lf E M m f qs)(hc:c0 < m)(E1:1<=E){a b:Nat}(hM:M < 2 ^ a)(EB:Mq.B b E):Mq.Bd (a+b) (qs.getD c0 (0,1)):=by
 obtain⟨e,l⟩:=h.at hc;obtain⟨ev,fr⟩:=h.v c0 hc;obtain⟨x,bx,ex⟩:=fr.get hM EB (Nat.le_refl _);exact(uI l E1 (EB.mono (by omega)) bx (ev.trans ex)).1
theorem Lf.put (h:Lf E M m f qs)(hc:c0 < m){q:Mq.Q2}{x:Rat}(l:Mq.Low q)(ev:Mq.val q=f c0+x)(fr:Mq.Fr E N x):Lf E (M+N) m (fun c=>f c+if c=c0 then x else 0) (qs.set c0 q):=by
 refine⟨by rw[List.length_set,h.len],fun r hr=>?_,fun c hm=>?_⟩
 ·rcases List.mem_or_eq_of_mem_set hr with z | z
  ·exact h.low r z
  ·rw[z];exact l
 ·obtain⟨e1,f1⟩:=h.v c hm;rw[List.getD_eq_getElem?_getD,List.getElem?_set]
  by_cases cc:c0=c
  ·subst cc;rw[if_pos rfl,if_pos (by rw[h.len];exact hc)];rw[if_pos rfl];exact⟨ev,f1.add fr⟩
  ·rw[if_neg cc,<- List.getD_eq_getElem?_getD,e1];rw[if_neg (fun z=>cc z.symm)];exact⟨by grind,by rw[show f c+0=f c by grind];exact f1.mono (by omega)⟩
theorem Lf.plus (h:Lf E M m f qs)(hc:c0 < m)(l:Mq.Low p)(fr:Mq.Fr E N (Mq.val p)):Lf E (M+N) m (fun c=>f c+if c=c0 then Mq.val p else 0) (qs.set c0 (Mq.plus (qs.getD c0 (0,1)) p)):=by
 obtain⟨_,lo⟩:=h.at hc;exact h.put hc (Mq.rT lo.pos l.pos) (by rw[Mq.tF lo.pos l.pos,(h.v c0 hc).1]) fr
theorem Lf.less (h:Lf E M m f qs)(hc:c0 < m)(l:Mq.Low p)(fr:Mq.Fr E N (Mq.val p)):Lf E (M+N) m (fun c=>f c+if c=c0 then - Mq.val p else 0) (qs.set c0 (Mq.minus (qs.getD c0 (0,1)) p)):=by
 obtain⟨_,lo⟩:=h.at hc;exact h.put hc (Mq.mD lo.pos l.pos) (by rw[Mq.mC lo.pos l.pos,(h.v c0 hc).1];grind) fr.neg
theorem Lf.congr (h:Lf E M m f qs){g:Nat->Rat}(e:∀c,c < m->f c=g c):Lf E M m g qs:=⟨h.len,h.low,fun c hc=>by rw[<- e c hc];exact h.v c hc⟩
theorem Lf.zero (E:Int)(m:Nat):Lf E 0 m (fun _=>0) (List.replicate m (0,1)):=by
 refine⟨List.length_replicate,fun p hp=>by rw[List.eq_of_mem_replicate hp];exact⟨by decide,by decide⟩,fun c hc=>?_⟩;rw[List.getD_eq_getElem?_getD,List.getElem?_replicate,if_pos hc];exact⟨Mq.kM,Mq.Fr.zero⟩
end
theorem Lf.null {E:Int}{M m:Nat}{f:Nat->Rat}{qs:List Mq.Q2}(h:Lf E M m f qs)(z:∀c,f c=0):qs=List.replicate m (0,1):=by
 refine List.ext_getElem? fun i=>?_;rw[List.getElem?_replicate]
 by_cases c:i < m
 ·obtain⟨e,l⟩:=h.at c;rw[if_pos c,e];congr 1;exact Mq.oJ l ⟨by decide,by decide⟩ (by rw[(h.v i c).1,z,Mq.kM])
 ·rw[if_neg c,List.getElem?_eq_none (by rw[h.len];omega)]
def Fm (m:Nat)(ds:List RD)(c p:Nat):Rat:=if mk m ds p=(c:Int) then 1 else 0
theorem Eg {m:Nat}{ds:List RD}{p x:Nat}(hx:mk m ds p=(x:Int))(c:Nat)(y:Rat):(if c=x then y else 0)=y*Fm m ds c p:=by
 unfold Fm;rw[hx]
 by_cases h:c=x
 ·rw[if_pos h,if_pos (by rw[h])];grind
 ·rw[if_neg h,if_neg (by omega)];grind
structure Dq (m:Nat) (L:Int) (ds:List RD):Prop where
 o:Nof m ds
 m5:m<=5
 w8:wd m ds<=8
 L1:1<=L
 LB:Mq.B 61 L
 dv:∀d∈ds,d.1=.pc->0 < d.2.2.2.1/\d.2.2.2.1 ∣ L/\1<=d.2.2.2.2/\d.2.2.2.2.natAbs<=16
 ok:∀d∈ds,Hg (m:Int) d/\Mq.Bd 10 d.2.2.2
 len:ds.length<=40
section
variable {CN:Addr} {K:PySem.W.Frag} {H:Hp} {n l:Addr} {m:Nat} {L:Int} {ds:List RD}
theorem Ae (a:Nat):∀n,jT (fun _=>a) n=(4*a+20)*n
 |0=>rfl
 |n+1=>by show jT _ n+(4*a+20)=_;rw[Ae a n,Nat.mul_succ]
theorem Dq.eqb (h:Dq m L ds):EqB m 77 L ds:=by
 have w8:=h.w8;have L1:=h.L1;refine⟨h.o,by omega,by omega,by omega,?_,L1,h.LB.mono (by omega),fun i j=>?_⟩
 ·show (77+5)*(wd m ds+1)+8<=4000;omega
 have one:=Mq.Fr.one L1;have c:∀d∈ds,∀k,Mq.Fr L 18 (cM d k (i+1) (j+1)):=fun d hd k=>by
  unfold cM
  cases hk:d.1 with
  |pu=>exact Mq.Fr.zero.mono (Nat.zero_le _)
  |ho=>
   dsimp only;refine(Mq.Fr.add (Dj (Ks one) _ _ _) (N:=1) ?_).mono (by decide);rw[Rat.mul_comm];exact Dj (Ks one) _ _ _
  |pc=>
   obtain⟨p0,dvd,p1,le⟩:=h.dv d hd hk;dsimp only;rw[Rat.mul_assoc];have:1 / Mq.val d.2.2.2=((d.2.2.2.2:Int):Rat) / ((d.2.2.2.1:Int):Rat):=by
    have:=Mq.lF p1;have:=Mq.lF (show 1<=d.2.2.2.1 by omega);unfold Mq.val;grind
   rw[this];exact(Dj (Dj (Mq.Fr.of L1 (by omega) dvd le) _ _ _) _ _ _).mono (by decide)
 refine Mq.Fr.get (m:=10) (n:=61) (Ld m c) ?_ h.LB (by omega)
 calc ds.length*18<=40*18:=Nat.mul_le_mul_right _ h.len
  _ < 2 ^ 10:=by decide
theorem Dq.net (h:Dq m L ds)(nt:eJ CN K H n l (m:Int) ds):Cz CN K H n l m 77 (fun _=>10) L ds:=by
 have m5:=h.m5;have len:=h.len;refine⟨nt,fun i d hd=>h.ok d (List.mem_of_getElem? hd),by omega,h.len,?_,h.eqb⟩;rw[Ae];omega
theorem Dq.bwle (h:Dq m L ds):bw 77 (wd m ds)<=746:=by
 have w8:=h.w8;show (77+5)*(wd m ds+1)+8<=746;omega
theorem Ovr.mono {n k:Nat}{ps:List Mq.Q2}(h:Ovr n ps)(l:n<=k):Ovr k ps:=by
 obtain⟨D,D1,bD,al⟩:=h.e;exact⟨D,D1,bD.mono l,fun p hp=>by obtain⟨t,bt,et⟩:=al p hp;exact⟨t,bt.mono l,et⟩⟩
theorem Ki {D:Int}{n:Nat}{p q z:Mq.Q2}(D1:1<=D)(L1:1<=L){t s:Int}(bt:Mq.B n t)(bs:Mq.B n s)(et:Mq.val p=(t:Rat) / (D:Rat))(es:Mq.val q=(s:Rat) / (D:Rat))(z0:0 < z.1)(dvd:z.1 ∣ L)(z1:1<=z.2)(le:z.2.natAbs<=16):Mq.Fr (D*L) ((2 ^ n+2 ^ n)*16) ((Mq.val p - Mq.val q)*(1 / Mq.val z)):=by
 have fr:∀{x:Int},Mq.B n x->Mq.Fr D (2 ^ n) ((x:Rat) / (D:Rat)):=fun {x} bx=>⟨x,rfl,by
  calc x.natAbs<=2 ^ n*1:=by rw[Nat.mul_one];exact Nat.le_of_lt bx
   _<=2 ^ n*D.natAbs:=Nat.mul_le_mul_left _ (by omega)⟩
 have:1 / Mq.val z=((z.2:Int):Rat) / ((z.1:Int):Rat):=by
  have:=Mq.lF z1;have:=Mq.lF (show 1<=z.1 by omega);unfold Mq.val;grind
 rw[this,et,es,show (t:Rat) / (D:Rat) - (s:Rat) / (D:Rat)=(t:Rat) / (D:Rat) + - ((s:Rat) / (D:Rat)) by grind];exact Mq.Fr.mul D1 L1 ((fr bt).add (fr bs).neg) (Mq.Fr.of L1 (by omega) dvd le)
end
end L2
set_option maxHeartbeats 4000000
namespace K72
open PySem L2 Shp
section
variable {P:Program} {w:World} {K:PySem.W.Frag} {mg:Str->Option Value} {base:Heap} {f g1 g2 g3 g4 g5 g6 g7 g8:Addr} {fd gd1 gd2 gd3 gd4 gd5 gd6 gd7 gd8:FuncData} {CX:CXT}
variable {CR:Addr} {CK:Kd->Addr} {fW fJ fT fS:Kd->Addr} {fdW fdJ fdT fdS:Kd->FuncData}
def uF (K:PySem.W.Frag):Sp:=fun vs H Q _=>∃(r f:Addr) (us zs:List V) (m at_:Nat) (L:Int) (ds:List RD) (d:RD) (hp:List Mq.Q2) (v:Nat->Rat),vs=[.ref r,.int (m:Int),.int (at_:Int),.ref f]/\SqL K H r us/\Rts K H us ds/\Dq m L ds/\ds[at_]?=some d/\SqL K H f zs/\Fqs K H zs hp/\hp.length=m/\Mq.gD hp/\Ovr 746 hp/\Sv m ds (shR m ds at_ d) v/\(∀p,p < m->Mq.val (hp.getD p (0,1))=v p)/\∀H',bG H H'->Q (.bl true) H'
theorem Sq:Mq.Low (0,1):=⟨by decide,by decide⟩
theorem Mu:Mq.Low (1,1):=⟨by decide,by decide⟩
theorem Nj:(["_law_one"]:List Str).Nodup:=by decide +kernel
abbrev lU:Stmt:=top 87
theorem dZ:aT ["_law_rows","_law_many","_law_at","_law_found","_law_marks","_law_left","_law_k","_law_word","_law_start","_law_goal","_law_size_here","_law_fall"] ["_law_rows","_law_many","_law_at","_law_found"] (aE lU):=⟨rfl,rfl,rfl,by decide +kernel,rfl,by decide +kernel,by decide +kernel⟩
theorem Gq {dV:Value}(F:bZ K "_law_shaped" "_law_shaped" lU dV f fd)(b:Bl mg)(ml:mg "len"=none)(mli:mg "list"=none)(ma:mg "all"=none)(mr:mg "range"=none)(G1:aQ P w K mg base CX0 1 g1 gd1 ["_law_found","_law_due"] (Js K))(b1:aS K gd1 ["_law_found","_law_due"] [])(k1:PySem.W.keepIn K (.ref g1)=true)(m1:mg "_law_told"=some (.ref g1))(G2:aQ P w K mg base CX0 1 g2 gd2 ["_law_rows","_law_many"] (Ll K))(b2:aS K gd2 ["_law_rows","_law_many"] [])(k2:PySem.W.keepIn K (.ref g2)=true)(m2:mg "_law_held"=some (.ref g2))(G3:aQ P w K mg base CX0 2 g3 gd3 ["_law_one","_law_other"] (kL K Mq.minus))(b3:aS K gd3 ["_law_one","_law_other"] [])(k3:PySem.W.keepIn K (.ref g3)=true)(m3:mg "_law_less"=some (.ref g3))(G4:aQ P w K mg base CX0 2 g4 gd4 ["_law_one","_law_other"] (kL K Mq.plus))(b4:aS K gd4 ["_law_one","_law_other"] [])(k4:PySem.W.keepIn K (.ref g4)=true)(m4:mg "_law_plus"=some (.ref g4))(G5:aQ P w K mg base CX0 2 g5 gd5 ["_law_one","_law_other"] (yU K))(b5:aS K gd5 ["_law_one","_law_other"] [])(k5:PySem.W.keepIn K (.ref g5)=true)(m5:mg "_law_by"=some (.ref g5)) :
  aQ P w K mg base CX 3 f fd ["_law_rows","_law_many","_law_at","_law_found"] (uF K):=by
 refine F.ok dZ (fun vs H Q E h=>?_) (fun cdv A outer s H vs Q E hr h=>?_)
 ·obtain⟨r,f,us,zs,m,at_,L,ds,d,hp,v,rfl,hS,hR,DQ,hat,hf,hF,lh,lo,OV,SV,hv,q⟩:=h;rfl
 obtain⟨r,f,us,zs,m,at_,L,ds,d,hp,v,rfl,hS,hR,DQ,hat,hf,hF,lh,lo,OV,SV,hv,q⟩:=h;have hu:=hr.units;have r1:=hr.mono (show 1<=2 by omega);refine⟨_,(aC (cE (PW.pt (mP (gC (eO (gQ (i:=3) rfl (Or.inl rfl) b.isi mli rfl rfl PyProof.Rows.boot_list))) (mP (bK kY (bO bH rfl ml PySem.boot_len (aA (pv 3) aD)) (pv 1) (bM _)) (mU (gC (eO (bO (oU rfl) rfl ma PyProof.Rows.boot_all (aA (fH (nl:=1) (fr:=[]) (Nc:=["_law_one"]) (cl:=[]) rfl ⟨rfl,rfl,by decide +kernel,by decide +kernel,fun x c h=>(by cases h),dS rfl,rfl,fun i n h=>(by simp at h)⟩
    (cS (pv 3)) (fun C s3 H3 fp pins=>(aZ (i:=0) Nj rfl (Or.inl rfl))) (fun C s3 H3 fp pins=>dX)
    (fun C s3 H3 fp pins=>(aI G1 r1 rfl m1 k1 b1 .nil aM (aA (pv 0) (aA (pv 0) aD))))) aD)))))))) (aG (bA iQ)) bN)
  (aC (aW (i:=4) dZ.nd rfl (Or.inl rfl) (aI G2 r1 rfl m2 k2 b2 .nil aM (aA (pv 0) (aA (pv 1) aD))))
  (aC (aW (i:=5) dZ.nd rfl (Or.inl rfl) (aY pC (cV (aA (cX (aA aF (aA aF aD))) aD)) (pv 1)))
  (aC (eU PassesOwn.never rfl (fU rfl mr (aA (bO bH rfl ml PySem.boot_len (aA (pv 0) aD)) aD)) (aZ (i:=6) dZ.nd rfl (Or.inl rfl))
   (aC (hV (aP bL (pv 0) (pv 6) (fun _ _=>rfl)) (jA rfl (bU (aZ (i:=7) dZ.nd rfl (Or.inl rfl)) (bU (aZ (i:=8) dZ.nd rfl (Or.inl rfl)) (bU (aZ (i:=9) dZ.nd rfl (Or.inl rfl)) (bU (aZ (i:=10) dZ.nd rfl (Or.inl rfl)) gS))))))
  (aC (aW (i:=11) dZ.nd rfl (Or.inl rfl) (aI G3 hr rfl m3 k3 b3 .nil aM (aA (aP bL (pv 3) (pv 8) (fun _ _=>rfl)) (aA (aP bL (pv 3) (pv 9) (fun _ _=>rfl)) aD))))
  (aC (cE (PW.pt (uK (bK eE (pv 7) cF (bM _)) (oB (bK (yJ hu) (pv 11) (cX (aA (lL Hm rfl b.int PyProof.Rows.boot_int (aA (iC eE (pv 6) (pv 2) (bM _)) aD)) (aA aF aD))) (bM _))))) (aG (bA iQ)) bN)
  (aG (cE (bK eE (pv 7) cF (bM _)) (aC (hV (aI G4 hr rfl m4 k4 b4 .nil aM (aA (aP bL (pv 5) (aP bL (pv 4) (pv 8) (fun _ _=>rfl)) (fun _ _=>rfl)) (aA (aI G5 hr rfl m5 k5 b5 .nil aM (aA (pv 11) (aA (pv 10) aD))) aD))) (iV (pv 5) (aP bL (pv 4) (pv 8) (fun _ _=>rfl)) gA))
  (aG (hV (aI G3 hr rfl m3 k3 b3 .nil aM (aA (aP bL (pv 5) (aP bL (pv 4) (pv 9) (fun _ _=>rfl)) (fun _ _=>rfl)) (aA (aI G5 hr rfl m5 k5 b5 .nil aM (aA (pv 11) (aA (pv 10) aD))) aD))) (iV (pv 5) (aP bL (pv 4) (pv 9) (fun _ _=>rfl)) gA)))) bN))))))
  (aC (hV (aP bL (pv 0) (pv 2) (fun _ _=>rfl)) (jA rfl (bU (aZ (i:=7) dZ.nd rfl (Or.inl rfl)) (bU (aZ (i:=8) dZ.nd rfl (Or.inl rfl)) (bU (aZ (i:=9) dZ.nd rfl (Or.inl rfl)) (bU (aZ (i:=10) dZ.nd rfl (Or.inl rfl)) gS))))))
  (aC (cE (bK kY (pv 7) cF (bM _)) (aC (hV (aI G3 hr rfl m3 k3 b3 .nil aM (aA (aP bL (pv 5) (aP bL (pv 4) (pv 8) (fun _ _=>rfl)) (fun _ _=>rfl)) (aA (cX (aA aF (aA aF aD))) aD))) (iV (pv 5) (aP bL (pv 4) (pv 8) (fun _ _=>rfl)) gA))
  (aG (hV (aI G4 hr rfl m4 k4 b4 .nil aM (aA (aP bL (pv 5) (aP bL (pv 4) (pv 9) (fun _ _=>rfl)) (fun _ _=>rfl)) (aA (cX (aA aF (aA aF aD))) aD))) (iV (pv 5) (aP bL (pv 4) (pv 9) (fun _ _=>rfl)) gA)))) bN)
  (aG (bA (pO (iC (uL hu) (aP bL (pv 3) aF (fun _ _=>rfl)) (cX (aA aF (aA aF aD))) (bM _)) (uH (bO (oU rfl) rfl ma PyProof.Rows.boot_all (aA (fH (nl:=1) (fr:=[]) (Nc:=["_law_one"]) (cl:=[]) rfl ⟨rfl,rfl,by decide +kernel,by decide +kernel,fun x c h=>(by cases h),dS rfl,rfl,fun i n h=>(by simp at h)⟩
    (cS (pv 5)) (fun C s3 H3 fp pins=>(aZ (i:=0) Nj rfl (Or.inl rfl))) (fun C s3 H3 fp pins=>dX)
    (fun C s3 H3 fp pins=>(iC (Pu (K:=K) rfl hu) (pv 0) (cX (aA aF (aA aF aD))) (bM _)))) aD)))))))))))),?_⟩
 have o:=DQ.o;have m1:=o.m1;have m5:=DQ.m5;have len:=DQ.len;have lus:=hR.length;have lzs:=hF.length;refine⟨_,_,true,rfl,.lst hf,rfl,_,rfl,eV ⟨_,rfl,f,zs,rfl,.inl hf,_,rfl,rfl,_,rfl,L2.ifF (by show (!decide (V.int (zs.length:Int)=V.int (m:Int)))=false;rw[lzs,lh,decide_eq_true rfl];rfl) ?_⟩⟩;refine⟨_,rfl,f,rfl,⟨_,hf⟩,fun D hD=>?_⟩;have sD:=aH hD (.lst []);refine dE (xs:=zs) (fun i ws H'=>bG H H'/\H' D=some (.lst ws)/\ws=(List.replicate i true).map V.bl) ⟨sD,aB,rfl⟩ (fun i ws H' h=>h.2.1) (fun i ws H' _ h=>h.1.seq hf) ?_ ?_
 ·rintro i ws x H1 hx ⟨s1,e1,rfl⟩ C hC;obtain⟨u,p,rfl,ep,fu⟩:=hF.get hx;have hi:i < hp.length:=(List.getElem?_eq_some_iff.mp ep).1;refine⟨dC.1,dC.2,fY ?_⟩;refine⟨_,rfl,_,rfl,u,u,p,rfl,s1.fq fu,s1.fq fu,?_⟩;refine⟨e1,bF (by rw[List.length_map,List.length_replicate];omega),hC _ _ ⟨s1.change hD,aB,?_⟩⟩;rw[List.replicate_succ',List.map_append];rfl
 rintro ws H1 ⟨s1,e1,rfl⟩;refine⟨D,_,rfl,SqL.of e1,?_⟩;rw[show (List.replicate zs.length true).all id=true by simp];refine⟨_,rfl,eV ?_⟩;refine⟨_,rfl,_,rfl,r,us,m,ds,rfl,s1.seq hS,hR.same s1,o.pt,by omega,fun mk0 H2 s2 nm em=>?_⟩;refine⟨by show 2<=sizeLine;decide,fun t3 ht3=>?_⟩;have s3:=aH ht3 (.tup [.int 0,.int 1]);have f3:Fq K (upd H2 t3 (.tup [.int 0,.int 1])) t3 (0,1):=Fq.of aB;generalize upd H2 t3 (.tup [.int 0,.int 1])=H3 at s3 f3 ⊢;refine⟨by show 1<=sizeLine;decide,fun l4 hl4=>?_⟩;have s4:=aH hl4 (.lst [.ref t3]);have e4:upd H3 l4 (.lst [.ref t3]) l4=some (.lst [.ref t3]):=aB;generalize upd H3 l4 (.lst [.ref t3])=H4 at s4 e4 ⊢;refine⟨_,rfl,l4,(m:Int),[.ref t3],rfl,rfl,e4,by omega,by omega,?_,fun Lr hLr=>?_⟩
 ·rw[Int.toNat_natCast,sizeLine_eq];simp only[List.length_cons,List.length_nil];omega
 rw[Int.toNat_natCast,jG];have nLr:=hLr;have s14:=s1.trans (s2.trans (s3.trans s4));have em2:=(s3.trans s4) _ _ em;have s5:=aH hLr (.lst (List.replicate m (.ref t3)));have e5:upd H4 Lr (.lst (List.replicate m (.ref t3))) Lr=some (.lst (List.replicate m (.ref t3))):=aB;have F5:Fqs K (upd H4 Lr (.lst (List.replicate m (.ref t3)))) (List.replicate m (.ref t3)) (List.replicate m (0,1)):=(jF (s4.fq f3) m).same s5;generalize upd H4 Lr (.lst (List.replicate m (.ref t3)))=H5 at s5 e5 F5 ⊢;obtain⟨Nn,hNn⟩:∃Nn:Nat,Nn=746:=⟨_,rfl⟩
 rw[<- hNn] at OV;obtain⟨Dn,D1,bD,al⟩:=OV.e;have L1:=DQ.L1;have E1:1<=Dn*L:=Int.mul_pos (by omega) (by omega);have EB:Mq.B (Nn+61) (Dn*L):=bD.mul DQ.LB;obtain⟨hs,ehs⟩:∃hs,hs=cZ .ho ds:=⟨_,rfl⟩
 have pth:∀d∈hs,cT (m:Int) d.2.1 d.2.2.1:=fun d hd=>o.pt d (by rw[ehs] at hd;exact(List.mem_filter.mp hd).1);have lm:=jR m hs;have hFm:∀c,∀d∈ds,d.1=.ho->Fm m hs c d.2.1.toNat=Fm m hs c d.2.2.1.toNat:=fun c d hd hk=>by
  unfold Fm;rw[oW _ hs rfl pth d (by rw[ehs];exact List.mem_filter.mpr ⟨hd,decide_eq_true hk⟩) (by rw[hk];exact fun z=>by cases z)]
 rw[<- ehs] at em2;have mkat:∀{p:Nat},p < m->∃c:Nat,c < m/\mk m hs p=(c:Int)/\atI ((mks m hs).map V.int) (p:Int)=some (.int (c:Int)):=fun {p} hpm=>by
  obtain⟨a,b⟩:=Jx _ hs rfl pth p hpm;refine⟨(mk m hs p).toNat,by omega,by omega,?_⟩;have hj:p < (mks m hs).length:=by omega
  rw[show (((mk m hs p).toNat:Nat):Int)=mk m hs p by omega];exact bQ (by unfold mk;rw[List.getElem?_map,List.getElem?_eq_getElem hj,List.getD_eq_getElem?_getD,List.getElem?_eq_getElem hj];rfl)
 obtain⟨P,hP⟩:∃P:Nat,P=2 ^ Nn:=⟨_,rfl⟩
 have P1:1<=P:=by rw[hP];exact Nat.two_pow_pos _
 have hP2:2 ^ (Nn+12)=P*4096:=by rw[Nat.pow_add,<- hP]
 obtain⟨Xb,hXb⟩:∃X:Nat,X=(P+P)*16:=⟨_,rfl⟩
 have b11:Mq.Bd 1 (1,1):=⟨show (1:Nat) < 2 ^ 1 by decide,show (1:Nat) < 2 ^ 1 by decide⟩
 have fr1:Mq.Fr (Dn*L) 1 (Mq.val (1,1)):=by rw[Mq.rX];exact Mq.Fr.one E1
 try dsimp only
 refine Cd (fun σ' H'=>bG H4 H'/\∃(ys:List V) (qs:List Mq.Q2) (z6 z7 z8 z9 z10 z11:Option V),σ'=[some (.ref r),some (.int (m:Int)),some (.int (at_:Int)),some (.ref f),some (.ref mk0),some (.ref Lr),z6,z7,z8,z9,z10,z11]/\H' Lr=some (.lst ys)/\Fqs K H' ys qs/\Lf (Dn*L) (ds.length*(Xb+Xb)) m (fun c=>pcS v (Fm m hs c) ds) qs) (fun X hX=>?_) ?_
 ·refine⟨_,rfl,r,us,rfl,.inl ((s14.trans s5).seq hS),(us.length:Int),rfl,by omega,by omega,?_⟩;refine gO (n:=(us.length:Int).toNat) (fun i σ H'=>bG H4 H'/\∃(ys:List V) (qs:List Mq.Q2) (z6 z7 z8 z9 z10 z11:Option V),σ=[some (.ref r),some (.int (m:Int)),some (.int (at_:Int)),some (.ref f),some (.ref mk0),some (.ref Lr),z6,z7,z8,z9,z10,z11]/\H' Lr=some (.lst ys)/\Fqs K H' ys qs/\Lf (Dn*L) (i*(Xb+Xb)) m (fun c=>pcS v (Fm m hs c) (ds.take i)) qs) ⟨s5,_,_,none,none,none,none,none,none,rfl,e5,F5,by rw[Nat.zero_mul];exact Lf.zero _ m⟩ ?_ ?_
  ·rintro i σ H6 hi ⟨s6,ys,qs,z6,z7,z8,z9,z10,z11,rfl,eL,FL,LF⟩;have hi:i < ds.length:=by omega
   obtain⟨⟨kd,u,w,sz⟩,hd⟩:∃d,ds[i]?=some d:=⟨_,List.getElem?_eq_getElem hi⟩
   obtain⟨t,z,et,ht,fz0⟩:=hR.at hd;have mem:=List.mem_of_getElem? hd;obtain⟨i0,i1,j0,j1⟩:cT (m:Int) u w:=o.pt _ mem;obtain⟨uN,rfl⟩:∃uN:Nat,u=(uN:Int):=⟨u.toNat,by omega⟩
   obtain⟨wN,rfl⟩:∃wN:Nat,w=(wN:Int):=⟨w.toNat,by omega⟩
   have lz:Mq.Low sz:=(DQ.ok _ mem).1.2.2.2.2.1;have bz:Mq.Bd 10 sz:=(DQ.ok _ mem).2;have s06:=s14.trans s6;have ea:atI us (0+(i:Int))=some (.ref t):=by rw[Int.zero_add];exact bQ et
   refine⟨_,rfl,_,rfl,r,us,_,_,rfl,rfl,s06.seq hS,ea,t,_,rfl,s06.seqT ht,rfl,_,_,rfl,_,_,rfl,_,_,rfl,_,_,rfl,rfl,?_⟩;have ax:=oM (ps:=hp) (j:=uN) (by omega);have ay:=oM (ps:=hp) (j:=wN) (by omega);obtain⟨w1,ew1,fw1⟩:=hF.at ax;obtain⟨w2,ew2,fw2⟩:=hF.at ay;have mx:=List.mem_of_getElem? ax;have my:=List.mem_of_getElem? ay;obtain⟨bm,bb1,bb2⟩:=L2.Ovr.minus OV lo mx my;have l1:=lo _ mx;have l2:=lo _ my;obtain⟨t1,bt1,et1⟩:=al _ mx;obtain⟨t2,bt2,et2⟩:=al _ my;refine⟨_,rfl,_,rfl,f,zs,_,_,rfl,rfl,s06.seq hf,bQ ew1,_,rfl,_,rfl,f,zs,_,_,rfl,rfl,s06.seq hf,bQ ew2,?_⟩;refine⟨w1,w2,_,_,Nn,Nn,rfl,s06.fq fw1,s06.fq fw2,l1.pos,l2.pos,bb1,bb2,by omega,fun r6 H7 s7 e7=>?_⟩;have f6:Fq K H7 r6 _:=Fq.of e7;have lf6:=Mq.mD l1.pos l2.pos;have vf6:=Mq.mC l1.pos l2.pos;have sh:=fun (z0:0 < sz.1) dvd z1 le=>Ki (n:=Nn) (z:=sz) D1 L1 bt1 bt2 et1 et2 z0 dvd z1 le;rw[<- vf6,<- hP,<- hXb] at sh;rw[hv uN (by omega),hv wN (by omega)] at vf6;have bf6:Mq.Bd 747 (Mq.minus (hp.getD uN (0,1)) (hp.getD wN (0,1))):=bm.mono (by omega);generalize Mq.minus (hp.getD uN (0,1)) (hp.getD wN (0,1))=pf at f6 lf6 vf6 sh bf6;clear e7;have s67:=s6.trans s7;have eL7:=s7 _ _ eL;have FL7:=FL.same s7;have fz:=(s14.trans s67).fq fz0;have stp:=fun c=>Tk v (Fm m hs c) hd
   cases kd with
   |pu=>
    refine⟨_,rfl,rfl,_,rfl,L2.ifF (by show decide (V.str Kd.pu.wd=V.str "hold")=false;rw[oC];rfl) ?_⟩;refine eV ?_;refine⟨_,rfl,rfl,_,rfl,L2.ifF (by show decide (V.str Kd.pu.wd=V.str "piece")=false;rw[nE];rfl) ?_⟩;refine⟨s67,ys,qs,_,_,_,_,_,_,rfl,eL7,FL7,?_⟩;have:=LF.congr (g:=fun c=>pcS v (Fm m hs c) (ds.take (i+1))) fun c _=>by rw[stp c,if_neg (fun z=>by cases z)];grind
    exact⟨this.len,this.low,fun c hc=>⟨(this.v c hc).1,(this.v c hc).2.mono (by rw[Nat.succ_mul];omega)⟩⟩
   |ho=>
    refine⟨_,rfl,rfl,_,rfl,L2.ifT (by show decide (V.str Kd.ho.wd=V.str "hold")=true;rw[oC];rfl) ?_⟩;have ek:(if decide (V.int (0+(i:Int))=V.int (at_:Int))=true then (1:Int) else 0)=if i=at_ then 1 else 0:=by
     by_cases c:i=at_
     ·rw[if_pos c,c,Int.zero_add,decide_eq_true rfl,if_pos rfl]
     ·rw[if_neg c,decide_eq_false (fun z=>c (by injection z with z;omega)),if_neg (by decide)]
    have epf:pf=(if i=at_ then 1 else 0,1):=by
     have fh:v ((uN:Int)).toNat - v ((wN:Int)).toNat=_:=SV.fallh o hat hd rfl;rw[Int.toNat_natCast,Int.toNat_natCast,<- vf6] at fh
     by_cases c:i=at_
     ·rw[if_pos c] at fh ⊢;exact Mq.oJ lf6 Mu (by rw[fh,Mq.rX])
     ·rw[if_neg c] at fh ⊢;exact Mq.oJ lf6 Sq (by rw[fh,Mq.kM])
    refine⟨_,rfl,_,rfl,_,rfl,rfl,.inr ⟨_,rfl,by show 2<=sizeLine;decide,fun t8 ht8=>?_⟩⟩;rw[ek];have s8:=aH ht8 (.tup [.int (if i=at_ then 1 else 0),.int 1]);have f8:Fq K (upd H7 t8 (.tup [.int (if i=at_ then 1 else 0),.int 1])) t8 (if i=at_ then 1 else 0,1):=Fq.of aB;generalize upd H7 t8 (.tup [.int (if i=at_ then 1 else 0),.int 1])=H8 at s8 f8 ⊢;refine yB (s8.fq f6) f8 ⟨_,rfl,L2.ifF (by rw[epf,decide_eq_true rfl];rfl) ?_⟩;refine⟨_,rfl,rfl,_,rfl,L2.ifF (by show decide (V.str Kd.ho.wd=V.str "piece")=false;rw[nE];rfl) ?_⟩;refine⟨s67.trans s8,ys,qs,_,_,_,_,_,_,rfl,s8 _ _ eL7,FL7.same s8,?_⟩;have:=LF.congr (g:=fun c=>pcS v (Fm m hs c) (ds.take (i+1))) fun c _=>by rw[stp c,if_neg (fun z=>by cases z)];grind
    exact⟨this.len,this.low,fun c hc=>⟨(this.v c hc).1,(this.v c hc).2.mono (by rw[Nat.succ_mul];omega)⟩⟩
   |pc=>
    have zp:0 < sz.1:=(DQ.dv _ mem rfl).1;have zn:sz.1≠0:=fun z=>by rw[z] at zp;exact absurd zp (by decide)
    have frx:=sh zp (DQ.dv _ mem rfl).2.1 lz.pos (DQ.dv _ mem rfl).2.2.2;have lx:=Mq.zS (p:=pf) (q:=sz) lf6.pos zn;have bx:Mq.Bd 760 (Mq.mI pf sz):=(Mq.Es bf6 bz lf6.pos zn).mono (by omega);have vx:Mq.val (Mq.mI pf sz)=Mq.val pf*(1 / Mq.val sz):=by rw[Mq.An lf6.pos lz.pos zn,Rat.div_def,Rat.div_def,Rat.one_mul]
    rw[<- vx] at frx;have hY:i*(Xb+Xb)+(Xb+Xb)<=40*(Xb+Xb):=by
     have:=Nat.mul_le_mul_right (Xb+Xb) (show i+1<=40 by omega)
     rwa [Nat.succ_mul] at this
    generalize hiY:i*(Xb+Xb)=iY at LF hY;obtain⟨cu,hcu,mcu,gcu⟩:=mkat (p:=uN) (by omega);obtain⟨cw,hcw,mcw,gcw⟩:=mkat (p:=wN) (by omega);refine⟨_,rfl,rfl,_,rfl,L2.ifF (by show decide (V.str Kd.pc.wd=V.str "hold")=false;rw[oC];rfl) ?_⟩;refine eV ?_;refine⟨_,rfl,rfl,_,rfl,L2.ifT (by show decide (V.str Kd.pc.wd=V.str "piece")=true;rw[nE];rfl) ?_⟩;have s67a:bG H7 H7:=fun _ _ h=>h;have sza:=s67a;obtain⟨qa0,lqa⟩:=LF.at hcu;obtain⟨aa,eaa,faa⟩:=FL7.at qa0;have bqa:=LF.bd hcu E1 (a:=Nn+12) (b:=Nn+61) (by omega) EB;refine⟨_,rfl,_,rfl,_,rfl,mk0,_,_,_,rfl,rfl,SqL.of (s67 _ _ em2),gcu,Lr,_,_,_,rfl,rfl,SqL.of eL7,bQ eaa,?_⟩;refine⟨_,rfl,_,rfl,r6,z,pf,sz,747,10,rfl,(s67a).fq f6,(sza).fq fz,lf6.pos,lz.pos,zp,bf6,bz,by omega,fun ba HBa sBa eBa=>?_⟩;refine⟨aa,ba,_,(Mq.mI pf sz),Nn+12+(Nn+61),760,rfl,sBa.fq faa,Fq.of eBa,lqa.pos,lx.pos,bqa,bx,by omega,fun ca HCa sCa eCa=>?_⟩;have sBCa:=sBa.trans sCa;have eLa:=sBCa _ _ eL7;refine⟨_,rfl,_,rfl,_,rfl,mk0,_,_,_,rfl,rfl,SqL.of ((s67.trans sBCa) _ _ em2),gcu,Lr,_,_,cu,rfl,rfl,eLa,gR (by rw[FL7.length,LF.len];exact hcu),?_⟩;have Fa:=(Fqs.set (Fq.of eCa) cu (FL7.same sBCa)).upd (o:=.lst (ys.set cu (.ref ca))) eLa;have Sa:bG H4 (upd HCa Lr (.lst (ys.set cu (.ref ca)))):=(s67.trans sBCa).change hLr;have Ea:upd HCa Lr (.lst (ys.set cu (.ref ca))) Lr=some (.lst (ys.set cu (.ref ca))):=aB;have G6a:Fq K (upd HCa Lr (.lst (ys.set cu (.ref ca)))) r6 pf:=SqT.upd ((s67a.trans sBCa).fq f6) eLa;generalize upd HCa Lr (.lst (ys.set cu (.ref ca)))=HDa at Fa Sa Ea G6a ⊢;have lfa:=LF.plus hcu lx frx;have fzb:Fq K HDa z sz:=(s14.trans Sa).fq fz0;have s67b:bG HDa HDa:=fun _ _ h=>h;have szb:=s67b;obtain⟨qb0,lqb⟩:=lfa.at hcw;obtain⟨ab,eab,fab⟩:=Fa.at qb0;have bqb:=lfa.bd hcw E1 (a:=Nn+12) (b:=Nn+61) (by omega) EB;refine⟨_,rfl,_,rfl,_,rfl,mk0,_,_,_,rfl,rfl,SqL.of (Sa _ _ em2),gcw,Lr,_,_,_,rfl,rfl,SqL.of Ea,bQ eab,?_⟩;refine⟨_,rfl,_,rfl,r6,z,pf,sz,747,10,rfl,G6a,fzb,lf6.pos,lz.pos,zp,bf6,bz,by omega,fun bb HBb sBb eBb=>?_⟩;refine⟨ab,bb,_,(Mq.mI pf sz),Nn+12+(Nn+61),760,rfl,sBb.fq fab,Fq.of eBb,lqb.pos,lx.pos,bqb,bx,by omega,fun cb HCb sCb eCb=>?_⟩;have sBCb:=sBb.trans sCb;have eLb:=sBCb _ _ Ea;refine⟨_,rfl,_,rfl,_,rfl,mk0,_,_,_,rfl,rfl,SqL.of ((Sa.trans sBCb) _ _ em2),gcw,Lr,_,_,cw,rfl,rfl,eLb,gR (by rw[Fa.length,lfa.len];exact hcw),?_⟩;have Fb:=(Fqs.set (Fq.of eCb) cw (Fa.same sBCb)).upd (o:=.lst ((ys.set cu (.ref ca)).set cw (.ref cb))) eLb;have Sb:bG H4 (upd HCb Lr (.lst ((ys.set cu (.ref ca)).set cw (.ref cb)))):=(Sa.trans sBCb).change hLr;have Eb:upd HCb Lr (.lst ((ys.set cu (.ref ca)).set cw (.ref cb))) Lr=some (.lst ((ys.set cu (.ref ca)).set cw (.ref cb))):=aB;have G6b:Fq K (upd HCb Lr (.lst ((ys.set cu (.ref ca)).set cw (.ref cb)))) r6 pf:=SqT.upd (sBCb.fq G6a) eLb;generalize upd HCb Lr (.lst ((ys.set cu (.ref ca)).set cw (.ref cb)))=HDb at Fb Sb Eb G6b ⊢;have lfb:=lfa.less hcw lx frx;refine⟨Sb,_,_,_,_,_,_,_,_,rfl,Eb,Fb,?_⟩;have:=lfb.congr (g:=fun c=>pcS v (Fm m hs c) (ds.take (i+1))) fun c _=>by
     rw[stp c,if_pos rfl,Eg mcu,Eg mcw,vx,vf6];show _=_+(v ((uN:Int)).toNat - v ((wN:Int)).toNat)*(1 / Mq.val sz)*(Fm m hs c ((uN:Int)).toNat - Fm m hs c ((wN:Int)).toNat)
     rw[Int.toNat_natCast,Int.toNat_natCast];grind
    rw[Nat.succ_mul,hiY];exact⟨this.len,this.low,fun c hc=>⟨(this.v c hc).1,(this.v c hc).2.mono (by omega)⟩⟩
  ·rintro σ H6 ⟨s6,ys,qs,z6,z7,z8,z9,z10,z11,rfl,eL,FL,LF⟩;rw[show (us.length:Int).toNat=ds.length by omega,List.take_length] at LF;exact hX _ _ ⟨s6,ys,qs,z6,z7,z8,z9,z10,z11,rfl,eL,FL,LF⟩
 rintro σ H6 ⟨s6,ys,qs,z6,z7,z8,z9,z10,z11,rfl,eL,FL,LF⟩;have hal:=(List.getElem?_eq_some_iff.mp hat).1;obtain⟨kd,u,w,sz⟩:=d;obtain⟨t,z,et,ht,fz0⟩:=hR.at hat;have mem:=List.mem_of_getElem? hat;obtain⟨i0,i1,j0,j1⟩:cT (m:Int) u w:=o.pt _ mem;obtain⟨uN,rfl⟩:∃uN:Nat,u=(uN:Int):=⟨u.toNat,by omega⟩
 obtain⟨wN,rfl⟩:∃wN:Nat,w=(wN:Int):=⟨w.toNat,by omega⟩
 have s06:=s14.trans s6;have gr:∀c,pcS v (Fm m hs c) ds=if kd=.ho then 0 else Fm m hs c uN - Fm m hs c wN:=fun c=>by
  have:=SV.group o hat (Fm m hs c) (hFm c);dsimp only at this;rw[Int.toNat_natCast,Int.toNat_natCast] at this;exact this
 have hY:ds.length*(Xb+Xb)<=40*(Xb+Xb):=Nat.mul_le_mul_right _ len;generalize hiY:ds.length*(Xb+Xb)=iY at LF hY;refine⟨_,rfl,_,rfl,r,us,_,_,rfl,rfl,s06.seq hS,bQ et,t,_,rfl,s06.seqT ht,rfl,_,_,rfl,_,_,rfl,_,_,rfl,_,_,rfl,rfl,?_⟩
 try dsimp only
 refine Cd (fun σ' H'=>bG H4 H'/\∃(ys:List V) (qs:List Mq.Q2) (z6 z7 z8 z9 z10 z11:Option V),σ'=[some (.ref r),some (.int (m:Int)),some (.int (at_:Int)),some (.ref f),some (.ref mk0),some (.ref Lr),z6,z7,z8,z9,z10,z11]/\H' Lr=some (.lst ys)/\Fqs K H' ys qs/\qs=List.replicate m (0,1)) (fun X hX=>?_) ?_
 ·by_cases hk:kd=.ho
  ·refine⟨_,rfl,rfl,_,rfl,L2.ifF (by show (!decide (V.str kd.wd=V.str "hold"))=false;rw[oC,decide_eq_true hk];rfl) ?_⟩;refine hX _ _ ⟨s6,ys,qs,_,_,_,_,_,_,rfl,eL,FL,?_⟩;exact LF.null fun c=>by rw[gr c,if_pos hk]
  ·obtain⟨cu,hcu,mcu,gcu⟩:=mkat (p:=uN) (by omega);obtain⟨cw,hcw,mcw,gcw⟩:=mkat (p:=wN) (by omega);refine⟨_,rfl,rfl,_,rfl,L2.ifT (by show (!decide (V.str kd.wd=V.str "hold"))=true;rw[oC,decide_eq_false hk];rfl) ?_⟩;obtain⟨qa0,lqa⟩:=LF.at hcu;obtain⟨aa,eaa,faa⟩:=FL.at qa0;have bqa:=LF.bd hcu E1 (a:=Nn+12) (b:=Nn+61) (by omega) EB;refine⟨_,rfl,_,rfl,_,rfl,mk0,_,_,_,rfl,rfl,SqL.of (s6 _ _ em2),gcu,Lr,_,_,_,rfl,rfl,SqL.of eL,bQ eaa,?_⟩;refine⟨by show 2<=sizeLine;decide,fun ba hba=>?_⟩;have sBa:=aH hba (.tup [.int 1,.int 1]);have eBa:upd H6 ba (.tup [.int 1,.int 1]) ba=some (.tup [.int 1,.int 1]):=aB;generalize upd H6 ba (.tup [.int 1,.int 1])=HBa at sBa eBa ⊢;refine⟨aa,ba,_,(1,1),Nn+12+(Nn+61),1,rfl,sBa.fq faa,Fq.of eBa,lqa.pos,Mu.pos,bqa,b11,by omega,fun ca HCa sCa eCa=>?_⟩;have sBCa:=sBa.trans sCa;have eLa:=sBCa _ _ eL;refine⟨_,rfl,_,rfl,_,rfl,mk0,_,_,_,rfl,rfl,SqL.of ((s6.trans sBCa) _ _ em2),gcu,Lr,_,_,cu,rfl,rfl,eLa,gR (by rw[FL.length,LF.len];exact hcu),?_⟩;have Fa:=(Fqs.set (Fq.of eCa) cu (FL.same sBCa)).upd (o:=.lst (ys.set cu (.ref ca))) eLa;have Sa:bG H4 (upd HCa Lr (.lst (ys.set cu (.ref ca)))):=(s6.trans sBCa).change hLr;have Ea:upd HCa Lr (.lst (ys.set cu (.ref ca))) Lr=some (.lst (ys.set cu (.ref ca))):=aB;generalize upd HCa Lr (.lst (ys.set cu (.ref ca)))=HDa at Fa Sa Ea ⊢;have lfa:=LF.less hcu Mu fr1;obtain⟨qb0,lqb⟩:=lfa.at hcw;obtain⟨ab,eab,fab⟩:=Fa.at qb0;have bqb:=lfa.bd hcw E1 (a:=Nn+12) (b:=Nn+61) (by omega) EB;refine⟨_,rfl,_,rfl,_,rfl,mk0,_,_,_,rfl,rfl,SqL.of (Sa _ _ em2),gcw,Lr,_,_,_,rfl,rfl,SqL.of Ea,bQ eab,?_⟩;refine⟨by show 2<=sizeLine;decide,fun bb hbb=>?_⟩;have sBb:=aH hbb (.tup [.int 1,.int 1]);have eBb:upd HDa bb (.tup [.int 1,.int 1]) bb=some (.tup [.int 1,.int 1]):=aB;generalize upd HDa bb (.tup [.int 1,.int 1])=HBb at sBb eBb ⊢;refine⟨ab,bb,_,(1,1),Nn+12+(Nn+61),1,rfl,sBb.fq fab,Fq.of eBb,lqb.pos,Mu.pos,bqb,b11,by omega,fun cb HCb sCb eCb=>?_⟩;have sBCb:=sBb.trans sCb;have eLb:=sBCb _ _ Ea;refine⟨_,rfl,_,rfl,_,rfl,mk0,_,_,_,rfl,rfl,SqL.of ((Sa.trans sBCb) _ _ em2),gcw,Lr,_,_,cw,rfl,rfl,eLb,gR (by rw[Fa.length,lfa.len];exact hcw),?_⟩;have Fb:=(Fqs.set (Fq.of eCb) cw (Fa.same sBCb)).upd (o:=.lst ((ys.set cu (.ref ca)).set cw (.ref cb))) eLb;have Sb:bG H4 (upd HCb Lr (.lst ((ys.set cu (.ref ca)).set cw (.ref cb)))):=(Sa.trans sBCb).change hLr;have Eb:upd HCb Lr (.lst ((ys.set cu (.ref ca)).set cw (.ref cb))) Lr=some (.lst ((ys.set cu (.ref ca)).set cw (.ref cb))):=aB;generalize upd HCb Lr (.lst ((ys.set cu (.ref ca)).set cw (.ref cb)))=HDb at Fb Sb Eb ⊢;have lfb:=lfa.plus hcw Mu fr1;refine hX _ _ ⟨Sb,_,_,_,_,_,_,_,_,rfl,Eb,Fb,?_⟩;exact lfb.null fun c=>by rw[gr c,if_neg hk,Eg mcu,Eg mcw,Mq.rX];grind
 rintro σ7 H7 ⟨s7,ys,qs,z6,z7,z8,z9,z10,z11,rfl,eL7,FL7,rfl⟩;obtain⟨w0,ew0,fw0⟩:=hF.at (oM (ps:=hp) (j:=0) (by omega));have e0:hp.getD 0 (0,1)=(0,1):=Mq.oJ (lo _ (List.mem_of_getElem? (oM (ps:=hp) (j:=0) (by omega)))) Sq (by rw[hv 0 (by omega),SV.z,Mq.kM]);rw[e0] at fw0;have s07:=s14.trans s7;refine⟨_,rfl,f,zs,_,_,rfl,rfl,s07.seq hf,bQ (j:=0) ew0,by show 2<=sizeLine;decide,fun t8 ht8=>?_⟩;have s8:=aH ht8 (.tup [.int 0,.int 1]);have f8:Fq K (upd H7 t8 (.tup [.int 0,.int 1])) t8 (0,1):=Fq.of aB;generalize upd H7 t8 (.tup [.int 0,.int 1])=H8 at s8 f8 ⊢;refine yB (s07.fq fw0 |> s8.fq) f8 ⟨_,rfl,L2.ifT (by rw[decide_eq_true rfl];rfl) ?_⟩;have eL8:=s8 _ _ eL7;have F8:=FL7.same s8;have ly:=F8.length;refine⟨_,rfl,Lr,rfl,⟨_,SqL.of eL8⟩,fun D9 hD9=>?_⟩;have sD9:=aH hD9 (.lst []);refine dE (xs:=ys) (fun i ws H'=>bG H8 H'/\H' D9=some (.lst ws)/\ws=(List.replicate i true).map V.bl) ⟨sD9,aB,rfl⟩ (fun i ws H' h=>h.2.1) (fun i ws H' _ h=>h.1.seq (SqL.of eL8)) ?_ ?_
 ·rintro i ws x H9 hx ⟨s9,e9,rfl⟩ C hC;obtain⟨u,p,rfl,ep,fu⟩:=F8.get hx;have hi:i < m:=by have:=(List.getElem?_eq_some_iff.mp ep).1;rwa [List.length_replicate] at this
  have p0:p=(0,1):=List.eq_of_mem_replicate (List.mem_of_getElem? ep);subst p0;refine⟨dC.1,dC.2,fY ?_⟩;refine⟨_,rfl,by show 2<=sizeLine;decide,fun tA htA=>?_⟩;have sA:=aH htA (.tup [.int 0,.int 1]);have fA:Fq K (upd H9 tA (.tup [.int 0,.int 1])) tA (0,1):=Fq.of aB;generalize upd H9 tA (.tup [.int 0,.int 1])=HA at sA fA ⊢;refine yB ((s9.trans sA).fq fu) fA ?_;refine⟨sA _ _ e9,bF (by rw[List.length_map,List.length_replicate];omega),hC _ _ ⟨(s9.trans sA).change hD9,aB,?_⟩⟩;rw[List.replicate_succ',List.map_append];rfl
 rintro ws H9 ⟨s9,e9,rfl⟩;refine⟨D9,_,rfl,SqL.of e9,?_⟩;rw[show (List.replicate ys.length true).all id=true by simp];exact q _ (s07.trans (s8.trans s9))
end
end K72
set_option maxHeartbeats 1000000
namespace L2
open PySem PySem.Spec PyProof.Rows Shp
def pq (d:RD):RD:=if d.1=.pc then d else (d.1,d.2.1,d.2.2.1,(0,1))
theorem Ey (d:RD):sk3 (pq d)=sk3 d:=by
 unfold pq;split<;>rfl
theorem Md (d:RD):(pq d).1=d.1:=congrArg (·.1) (Ey d)
theorem Ca (x y:Nat):∀(ds:List RD) (h:Nat),eqM h (ds.map pq) x y=eqM h ds x y
 | [],_=>rfl
 |d :: ds,h=>by
  show cM (pq d) h x y+eqM (h+bX (pq d).1) (ds.map pq) x y=cM d h x y+eqM (h+bX d.1) ds x y;rw[Ca x y ds,Md];congr 1;unfold pq
  by_cases c:d.1=.pc
  ·rw[if_pos c]
  ·rw[if_neg c];unfold cM
   cases hk:d.1 with
   |pc=>exact absurd hk c
   |pu=>rfl
   |ho=>rfl
structure Chq (ds es:List RD):Prop where
 pq:ds.map pq=es.map pq
 ok:∀d∈es,Mq.Low d.2.2.2/\Mq.Bd 10 d.2.2.2
section
variable {m:Nat} {L:Int} {ds es:List RD}
theorem Chq.len (h:Chq ds es):es.length=ds.length:=by have:=congrArg List.length h.pq;rw[List.length_map,List.length_map] at this;exact this.symm
theorem Chq.sk (h:Chq ds es):ds.map sk3=es.map sk3:=by
 have e:∀l:List RD,l.map sk3=(l.map L2.pq).map sk3:=fun l=>by
  rw[List.map_map];exact List.map_congr_left fun d _=>(Ey d).symm
 rw[e ds,e es,h.pq]
theorem Chq.at (h:Chq ds es){i:Nat}{d:RD}(hd:ds[i]?=some d):∃e,es[i]?=some e/\L2.pq e=L2.pq d:=by
 have a:(es.map L2.pq)[i]?=some (L2.pq d):=by rw[<- h.pq,List.getElem?_map,hd];rfl
 rw[List.getElem?_map] at a
 cases he:es[i]? with
 |none=>rw[he] at a;cases a
 |some e=>rw[he] at a;exact⟨e,rfl,Option.some.inj a⟩
theorem Chq.mem (h:Chq ds es){e:RD}(he:e∈es)(hk:e.1=.pc):e∈ds:=by
 have a:e∈ds.map L2.pq:=by
  rw[h.pq];exact List.mem_map.mpr ⟨e,he,if_pos hk⟩
 obtain⟨d,hd,ed⟩:=List.mem_map.mp a;have k:d.1=.pc:=by rw[<- Md d,ed];exact hk
 have:L2.pq d=d:=if_pos k;rw[<- ed,this];exact hd
theorem Chq.refl (ok:∀d∈ds,Mq.Low d.2.2.2/\Mq.Bd 10 d.2.2.2):Chq ds ds:=⟨rfl,ok⟩
theorem xX {α β:Type}(f:α->β)(l:List α)(i:Nat)(x:α):(l.set i x).map f=(l.map f).set i (f x):=by
 refine List.ext_getElem? fun j=>?_;rw[List.getElem?_map,List.getElem?_set,List.getElem?_set,List.length_map]
 by_cases c:i=j
 ·rw[if_pos c,if_pos c];split<;>rfl
 ·rw[if_neg c,if_neg c,List.getElem?_map]
theorem Ny {α:Type}{l:List α}{i:Nat}{x:α}(h:l[i]?=some x):l.set i x=l:=by
 refine List.ext_getElem? fun j=>?_;rw[List.getElem?_set]
 by_cases c:i=j
 ·subst c;rw[if_pos rfl,h,if_pos (List.getElem?_eq_some_iff.mp h).1]
 ·rw[if_neg c]
theorem Chq.set (h:Chq ds es){i:Nat}{d:RD}{p:Mq.Q2}(hd:es[i]?=some d)(nk:d.1≠.pc)(l:Mq.Low p)(b:Mq.Bd 10 p):Chq ds (es.set i (d.1,d.2.1,d.2.2.1,p)):=by
 refine⟨?_,fun x hx=>?_⟩
 ·rw[xX,h.pq];refine(Ny ?_).symm;rw[List.getElem?_map,hd];show some (L2.pq d)=some (L2.pq (d.1,d.2.1,d.2.2.1,p));unfold L2.pq;rw[if_neg nk,if_neg nk]
 ·rcases List.mem_or_eq_of_mem_set hx with z | z
  ·exact h.ok x z
  ·rw[z];exact⟨l,b⟩
theorem Chq.both (h:Chq ds es)(i:Nat){d:RD}(l:Mq.Low d.2.2.2)(b:Mq.Bd 10 d.2.2.2):Chq (ds.set i d) (es.set i d):=by
 refine⟨by rw[xX,xX,h.pq],fun x hx=>?_⟩;rcases List.mem_or_eq_of_mem_set hx with z | z
 ·exact h.ok x z
 ·rw[z];exact⟨l,b⟩
theorem Dq.chq (h:Dq m L ds)(c:Chq ds es):Dq m L es:=by
 have len:=h.len;have hl:=c.len;have w8:=h.w8;have o':Nof m es:=Nof.sk c.sk h.o fun d hd hk=>h.o.pos d (c.mem hd hk) hk;refine⟨o',h.m5,?_,h.L1,h.LB,fun d hd hk=>h.dv d (c.mem hd hk) hk,fun d hd=>?_,by omega⟩
 ·show m - 1+bS es<=8;rw[<- xZ c.sk];exact w8
 ·obtain⟨p1,p2,p3,p4⟩:=o'.pt d hd;obtain⟨l,b⟩:=c.ok d hd;exact⟨⟨p1,p2,p3,p4,l,fun hk=>(h.dv d (c.mem hd hk) hk).1,b.mono (by omega)⟩,b⟩
theorem Sv.chq (c:Chq ds es){r v:Nat->Rat}(h:Sv m es r v):Sv m ds r v:=by
 have ew:wd m es=wd m ds:=by show m - 1+bS es=m - 1+bS ds;rw[xZ c.sk]
 refine⟨h.z,fun i hi=>?_⟩;rw[<- ew] at hi ⊢;rw[<- h.e i hi];exact Mq.aK fun j _=>by rw[<- Ca _ _ es,<- c.pq,Ca]
theorem Gf (c:Chq ds es){k:Nat}{d e:RD}(h:pq e=pq d):shR m es k e=shR m ds k d:=by
 have s:sk3 e=sk3 d:=by rw[<- Ey e,<- Ey d,h]
 have e1:e.1=d.1:=congrArg (·.1) s;have e2:e.2.1=d.2.1:=congrArg (·.2.1) s;have e3:e.2.2.1=d.2.2.1:=congrArg (·.2.2) s;have e4:bS (es.take k)=bS (ds.take k):=xZ (by rw[List.map_take,List.map_take,c.sk])
 funext x
 unfold shR;rw[e1,e2,e3,e4]
theorem Dq.more (h:Dq m L ds)(LB:Mq.B 50 L){i:Nat}{u w:Int}{p:Mq.Q2}(hd:ds[i]?=some (.pc,u,w,p))(bd:Mq.Bd 7 p):Mq.Low (Mq.red (p.1+p.2) p.2)/\0 < (Mq.red (p.1+p.2) p.2).1/\Mq.Bd 10 (Mq.red (p.1+p.2) p.2)/\Dq m (L*(Mq.red (p.1+p.2) p.2).1) (ds.set i (.pc,u,w,Mq.red (p.1+p.2) p.2)):=by
 have mem:=List.mem_of_getElem? hd;obtain⟨p0,dvd,p1,le⟩:=h.dv _ mem rfl;obtain⟨ro,_⟩:=h.ok _ mem;have p0:0 < p.1:=p0;have p1:1<=p.2:=p1;have le:p.2.natAbs<=16:=le;have b0:p.2≠0:=by omega
 have ba:p.1.natAbs < 2 ^ 7:=bd.a;have rl:=Mq.kZ (t:=p.1+p.2) b0;have lo:=Mq.gU (t:=p.1+p.2) b0;have po:=Mq.Fc (t:=p.1+p.2) (b:=p.2) (by omega) (by omega);generalize Mq.red (p.1+p.2) p.2=q at rl lo po;have b8:Mq.B 8 q.1:=by show q.1.natAbs < 2 ^ 8;omega
 have b10:Mq.Bd 10 q:=⟨b8.mono (by omega),by show q.2.natAbs < 2 ^ 10;omega⟩
 have L1:=h.L1;refine⟨lo,po,b10,?_⟩;have ek:ds.map sk3=(ds.set i (.pc,u,w,q)).map sk3:=Vc hd rfl;have qp:∀d∈ds.set i (.pc,u,w,q),d.1=.pc->0 < Mq.val d.2.2.2:=fun d hm hk=>by
  rcases List.mem_or_eq_of_mem_set hm with z | z
  ·exact h.o.pos d z hk
  ·rw[z];show 0 < Mq.val q;have:=lo.pos;unfold Mq.val;rw[Rat.div_def];exact Rat.mul_pos (by exact_mod_cast po) (Rat.inv_pos.mpr (by exact_mod_cast (show 0 < q.2 by omega)))
 refine⟨Nof.sk ek h.o qp,h.m5,?_,Int.mul_pos (by omega) po,(LB.mul b8).mono (by omega),fun d hm hk=>?_,fun d hm=>?_,by rw[List.length_set];exact h.len⟩
 ·show m - 1+bS (ds.set i (.pc,u,w,q))<=8;rw[<- xZ ek];exact h.w8
 ·rcases List.mem_or_eq_of_mem_set hm with z | z
  ·obtain⟨a,b,c,e⟩:=h.dv d z hk;exact⟨a,Int.dvd_trans b (Int.dvd_mul_right _ _),c,e⟩
  ·rw[z];exact⟨po,Int.dvd_mul_left _ _,lo.pos,by show q.2.natAbs<=16;omega⟩
 ·rcases List.mem_or_eq_of_mem_set hm with z | z
  ·exact h.ok d z
  ·rw[z];obtain⟨r1,r2,r3,r4,_⟩:=ro;exact⟨⟨r1,r2,r3,r4,lo,fun _=>po,b10.mono (by omega)⟩,b10⟩
end
end L2
set_option maxHeartbeats 4000000
namespace K72
open PySem L2 Shp
section
variable {P:Program} {w:World} {K:PySem.W.Frag} {mg:Str->Option Value} {base:Heap} {f g1 g2 g3 g4 g5 g6 g7 g8:Addr} {fd gd1 gd2 gd3 gd4 gd5 gd6 gd7 gd8:FuncData} {CX:CXT}
variable {CR:Addr} {CK:Kd->Addr} {fW fJ fT fS:Kd->Addr} {fdW fdJ fdT fdS:Kd->FuncData}
theorem uS {X:Cx}{K:PySem.W.Frag}(h:X.K=K):mM X (.builtin "len") (fun xs H Q=>∃p ys,xs=[.ref p]/\(SqL K H p ys\/SqT K H p ys)/\Q (.int ys.length) H):=by subst h;exact bH
def Ni (K:PySem.W.Frag):Sp:=fun vs H Q _=>∃(r:Addr) (c:Int) (us:List V) (ds:List RD),vs=[.ref r,.int c]/\SqL K H r us/\Rts K H us ds/\ds.length<=40/\∀a (ks:List Int) H',bG H H'->H a=none->H' a=some (.lst (ks.map V.int))->(∀k∈ks,(0:Int)<=k/\k < (ds.length:Int))->ks.length<=4->Q (.ref a) H'
def Dh (CN:Addr)(K:PySem.W.Frag):Sp:=fun vs H Q _=>∃(n l r a:Addr) (us:List V) (ks:List Int) (m:Nat) (c L:Int) (ds es:List RD),vs=[.ref n,.ref r,.int (m:Int),.ref a,.int c]/\eJ CN K H n l (m:Int) es/\l≠r/\l≠a/\H r=some (.lst us)/\Rts K H us ds/\H a=some (.lst (ks.map V.int))/\(∀k∈ks,(0:Int)<=k/\k < (ds.length:Int))/\ks.length<=4/\Dq m L ds/\Mq.B 50 L/\(∀d∈ds,Mq.Bd 7 d.2.2.2)/\Chq ds es/\∀H',Q (.bl true) H'
theorem Rts.cut {K:PySem.W.Frag}{H:Hp}{us:List V}{ds:List RD}(h:Rts K H us ds)(i:Nat)(hi:i < ds.length){t z:Addr}{k:Kd}{u w:Int}{p:Mq.Q2}(ht:SqT K H t [.str k.wd,.int u,.int w,.ref z])(fz:Fq K H z p):Rts K H (us.take i++[.ref t]++us.drop (i+1)) (ds.set i (k,u,w,p)):=by
 have:ds.set i (k,u,w,p)=ds.take i++[(k,u,w,p)]++ds.drop (i+1):=by
  rw[List.set_eq_take_append_cons_drop,if_pos hi,List.append_assoc];rfl
 rw[this];exact((Rts.take i h).app (.cons ht fz .nil)).app (Rts.drop (i+1) h)
theorem Uc (xs:List V)(k:Nat):iU xs (some (k:Int)) none=xs.drop k:=by
 unfold iU;have h1:HT.sIx xs.length xs.length none=xs.length:=rfl;have h2:HT.sIx xs.length 0 (some (k:Int))=min k xs.length:=by simp[HT.sIx];omega
 rw[h1,h2]
 by_cases c:k<=xs.length
 ·rw[show min k xs.length=k by omega];exact List.take_of_length_le (by rw[List.length_drop];omega)
 ·rw[show min k xs.length=xs.length by omega,List.drop_length,List.drop_of_length_le (by omega)];simp
theorem sR:(["_law_k","_law_rows","_law_cell"]:List Str).Nodup:=by decide +kernel
theorem vO:(["_law_k","_law_rows"]:List Str).Nodup:=by decide +kernel
abbrev vK:Stmt:=top 88
theorem Da:aT ["_law_rows","_law_cell","_law_some_here","_law_holds"] ["_law_rows","_law_cell"] (aE vK):=⟨rfl,rfl,rfl,by decide +kernel,rfl,by decide +kernel,by decide +kernel⟩
theorem Qh {dV:Value}(F:bZ K "_law_some" "_law_some" vK dV f fd)(ml:mg "len"=none)(mr:mg "range"=none)(mm:mg "min"=none)(G1:aQ P w K mg base CX0 1 g1 gd1 ["_law_cell","_law_turn","_law_many"] uE)(b1:aS K gd1 ["_law_cell","_law_turn","_law_many"] [])(k1:PySem.W.keepIn K (.ref g1)=true)(m1:mg "_law_mix"=some (.ref g1))(G2:aQ P w K mg base CX0 1 g2 gd2 ["_law_cell","_law_k"] Cg)(b2:aS K gd2 ["_law_cell","_law_k"] [])(k2:PySem.W.keepIn K (.ref g2)=true)(m2:mg "_law_part"=some (.ref g2)) :
  aQ P w K mg base CX 2 f fd ["_law_rows","_law_cell"] (Ni K):=by
 refine F.ok Da (fun vs H Q E h=>?_) (fun cdv A outer s H vs Q E hr h=>?_)
 ·obtain⟨r,c,us,ds,rfl,hS,hR,len,q⟩:=h;rfl
 obtain⟨r,c,us,ds,rfl,hS,hR,len,q⟩:=h;refine⟨_,(aC (kB (i:=2) (nl:=1) (fr:=[0,1]) (Nc:=["_law_k","_law_rows","_law_cell"]) (cl:=[("_law_rows",s.heap.objs.size+1),("_law_cell",s.heap.objs.size+2)]) Da.nd rfl rfl rfl ⟨rfl,rfl,by decide +kernel,by decide +kernel,(cP rfl (cP rfl (iB))),dS rfl,rfl,fun i n h=>match i,h with | 0,h=>by cases h;exact⟨0,rfl,rfl,rfl,rfl,.inl rfl⟩ | 1,h=>by cases h;exact⟨1,rfl,rfl,rfl,rfl,.inl rfl⟩ | k+2,h=>by rw[show 1+(k+2)=k+3 by omega] at h;cases h⟩
    (fU rfl mr (aA (bO (Gk rfl) rfl mm PyProof.Rows.boot_min (aA aF (aA (bO bH rfl ml PySem.boot_len (aA (pv 0) aD)) aD))) aD)) (fun C s3 H3 fp pins=>(aZ (i:=0) sR rfl (Or.inl rfl))) (fun C s3 H3 fp pins=>dX)
    (fun C s3 H3 fp pins=>(aI G1 hr rfl m1 k1 b1 .nil aM (aA (aI G2 hr rfl m2 k2 b2 .nil aM (aA (pv 2) (aA (pv 0) aD))) (aA aF (aA (bO (uS (K:=K) rfl) rfl ml PySem.boot_len (aA (pv 1) aD)) aD))))) rfl)
  (aC (kB (i:=3) (nl:=1) (fr:=[0]) (Nc:=["_law_k","_law_rows"]) (cl:=[("_law_rows",s.heap.objs.size+1)]) Da.nd rfl rfl rfl ⟨rfl,rfl,by decide +kernel,by decide +kernel,(cP rfl (iB)),dS rfl,rfl,fun i n h=>match i,h with | 0,h=>by cases h;exact⟨0,rfl,rfl,rfl,rfl,.inl rfl⟩ | k+1,h=>by rw[show 1+(k+1)=k+2 by omega] at h;cases h⟩
    (fU rfl mr (aA (bO bH rfl ml PySem.boot_len (aA (pv 0) aD)) aD)) (fun C s3 H3 fp pins=>(aZ (i:=0) vO rfl (Or.inl rfl))) (fun C s3 H3 fp pins=>(nQ (bK eE (aP (oF (K:=K) rfl) (aP (oQ (K:=K) rfl) (pv 1) (pv 0) (fun _ _=>rfl)) aF (fun _ _=>rfl)) cF (bM _))))
    (fun C s3 H3 fp pins=>(pv 0)) rfl)
  (aG (bA (aY kX (pv 2) (fC gF (pv 3) gV (fK aF))))))),?_⟩
 have lus:=hR.length;obtain⟨n3,hn3,hn3'⟩:∃n3:Nat,(if (us.length:Int) < 3 then (us.length:Int) else 3)=(n3:Int)/\(n3<=3/\n3<=us.length):=by
  by_cases c:(us.length:Int) < 3
  ·exact⟨us.length,if_pos c,by omega,by omega⟩
  ·exact⟨3,if_neg c,by omega,by omega⟩
 refine⟨_,rfl,r,us,rfl,.inl hS,3,(us.length:Int),rfl,(n3:Int),by rw[hn3],by omega,by omega,fun D hD=>?_⟩;rw[Int.toNat_natCast];have sD:=aH hD (.lst []);refine jQ (n:=n3) (fun i zs H'=>bG H H'/\H' D=some (.lst zs)/\∃hs:List Int,zs=hs.map V.int/\(∀h∈hs,0<=h/\h < (ds.length:Int))/\hs.length=i) ⟨sD,aB,[],rfl,(fun h hh=>by cases hh),rfl⟩ (fun i zs H' h=>h.2.1) ?_ ?_
 ·rintro i zs H1 hi ⟨s1,e1,hs,rfl,hh,hl⟩ C hC;refine⟨dC.1,dC.2,fY ?_⟩;refine⟨_,rfl,_,rfl,c,_,rfl,by omega,by omega,fun w=>⟨_,rfl,r,us,rfl,.inl (s1.seq hS),w,1,_,rfl,by decide,by decide,by omega,fun x H2 x0 x1 s2=>?_⟩⟩;refine⟨s2 _ _ e1,bF (by rw[List.length_map];omega),hC _ _ ⟨(s1.trans s2).change hD,aB,hs++[x],by rw[List.map_append];rfl,fun h hh'=>?_,by rw[List.length_append,hl];rfl⟩⟩;rcases List.mem_append.mp hh' with z | z
  ·exact hh h z
  ·have:h=x:=by simpa using z
   rw[this];exact⟨x0,by omega⟩
 rintro zs0 H0 ⟨s0,e0,ks0,rfl,hk0,lk0⟩;refine⟨_,rfl,r,us,rfl,.inl (s0.seq hS),(us.length:Int),rfl,by omega,by omega,fun D2 hD2=>?_⟩;rw[Int.toNat_natCast];have sD2:=aH hD2 (.lst []);refine jQ (n:=us.length) (fun i zs H'=>bG H0 H'/\H' D2=some (.lst zs)/\∃hs:List Int,zs=hs.map V.int/\(∀h∈hs,0<=h/\∃d,ds[h.toNat]?=some d/\d.1=.ho)/\hs.length<=i) ⟨sD2,aB,[],rfl,(fun h hh=>by cases hh),Nat.le_refl _⟩ (fun i zs H' h=>h.2.1) ?_ ?_
 ·rintro i zs H1 hi ⟨s1,e1,hs,rfl,hh,hl⟩ C hC;obtain⟨⟨k,u,v,p⟩,hd⟩:∃d,ds[i]?=some d:=⟨_,List.getElem?_eq_getElem (by omega)⟩
  obtain⟨t,z,et,hT,fz⟩:=(hR.same (s0.trans s1)).at hd;have at_:atI us (0+(i:Int))=some (.ref t):=by rw[Int.zero_add];exact bQ et
  refine⟨dC.1,dC.2,?_⟩;refine⟨_,rfl,_,rfl,r,us,_,_,rfl,rfl,(s0.trans s1).seq hS,at_,t,_,0,_,rfl,rfl,hT,rfl,rfl,_,rfl,?_⟩
  by_cases hk:k=.ho
  ·refine L2.ifT (by show decide (V.str k.wd=V.str "hold")=true;rw[oC];exact decide_eq_true hk) ⟨_,rfl,e1,bF (by rw[List.length_map];omega),hC _ _ ⟨s1.change hD2,aB,hs++[0+(i:Int)],by rw[List.map_append];rfl,fun h hh'=>?_,by rw[List.length_append];simp only[List.length_cons,List.length_nil];omega⟩⟩;rcases List.mem_append.mp hh' with z | z
   ·exact hh h z
   ·have:h=0+(i:Int):=by simpa using z
    rw[this];exact⟨by omega,_,by rw[show (0+(i:Int)).toNat=i by omega];exact hd,hk⟩
  ·exact L2.ifF (by show decide (V.str k.wd=V.str "hold")=false;rw[oC];exact decide_eq_false hk) (hC _ _ ⟨s1,e1,hs,rfl,hh,by omega⟩)
 rintro zs H1 ⟨s1,e1,hs,rfl,hh,hlh⟩;refine⟨_,rfl,_,rfl,1,rfl,D2,_,rfl,SqL.of e1,fun S hS2=>?_⟩;have ec:iU (hs.map V.int) none (some 1)=(hs.take 1).map V.int:=by
  rw[show (1:Int)=((1:Nat):Int) by rfl,yG,List.map_take]
 rw[ec];have s2:=aH hS2 (.lst ((hs.take 1).map V.int));have e2:upd H1 S (.lst ((hs.take 1).map V.int)) S=some (.lst ((hs.take 1).map V.int)):=aB;generalize upd H1 S (.lst ((hs.take 1).map V.int))=H2 at s2 e2 ⊢;have lt1:(hs.take 1).length<=1:=List.length_take_le ..;refine⟨D,S,_,_,rfl,rfl,(s1.trans s2) _ _ e0,e2,Nat.le_of_lt (bF (by rw[List.length_map,List.length_map];omega)),fun V1 hV1=>?_⟩;have s3:=aH hV1 (.lst (ks0.map V.int++(hs.take 1).map V.int));refine q V1 (ks0++hs.take 1) _ ((s0.trans (s1.trans s2)).trans s3) ((s0.trans (s1.trans s2)).free hV1) (by rw[List.map_append];exact aB) (fun k hk=>?_) (by rw[List.length_append];omega);rcases List.mem_append.mp hk with z | z
 ·exact hk0 k z
 ·obtain⟨a,d,b,_⟩:=hh k (List.mem_of_mem_take z);have:=(List.getElem?_eq_some_iff.mp b).1;exact⟨a,by omega⟩
theorem iP:(["_law_at","_law_turned","_law_net_here","_law_many"]:List Str).Nodup:=by decide +kernel
abbrev qC:Stmt:=top 89
theorem oK:aT ["_law_net_here","_law_rows","_law_many","_law_asked","_law_cell","_law_pieces","_law_k","_law_size_here","_law_turned"] ["_law_net_here","_law_rows","_law_many","_law_asked","_law_cell"] (aE qC):=⟨rfl,rfl,rfl,by decide +kernel,rfl,by decide +kernel,by decide +kernel⟩
theorem Kv {dV:Value}(F:bZ K "_law_other_size" "_law_other_size" qC dV f fd){CN:Addr}(NTx:NT K mg CN)(ml:mg "len"=none)(mr:mg "range"=none)(ma:mg "all"=none){gCh:Addr}{gdCh:FuncData}(GCh:aQ P w K mg base CX0 5 gCh gdCh ["self","k","size"] (tW CN K))(bCh:aS K gdCh ["self","k","size"] [])(mCh:gH K CN "change" gCh)(G1:aQ P w K mg base CX0 1 g1 gd1 ["_law_cell","_law_turn","_law_many"] uE)(b1:aS K gd1 ["_law_cell","_law_turn","_law_many"] [])(k1:PySem.W.keepIn K (.ref g1)=true)(m1:mg "_law_mix"=some (.ref g1))(G2:aQ P w K mg base CX0 1 g2 gd2 ["_law_top","_law_bottom"] gL)(b2:aS K gd2 ["_law_top","_law_bottom"] [])(k2:PySem.W.keepIn K (.ref g2)=true)(m2:mg "_law_lowest"=some (.ref g2))(G3:aQ P w K mg base CX0 3 g3 gd3 ["_law_rows","_law_many","_law_at","_law_found"] (uF K))(b3:aS K gd3 ["_law_rows","_law_many","_law_at","_law_found"] [])(k3:PySem.W.keepIn K (.ref g3)=true)(m3:mg "_law_shaped"=some (.ref g3))(G4:aQ P w K mg base CX0 9 g4 gd4 ["net","k"] (yW CN K))(b4:aS K gd4 ["net","k"] [])(k4:PySem.W.keepIn K (.ref g4)=true)(m4:mg "shape_of"=some (.ref g4)) :
  aQ P w K mg base CX 10 f fd ["_law_net_here","_law_rows","_law_many","_law_asked","_law_cell"] (Dh CN K):=by
 refine F.ok oK (fun vs H Q E h=>?_) (fun cdv A outer s H vs Q E hr h=>?_)
 ·obtain⟨n,l,r,a,us,ks,m,c,L,ds,es,rfl,nt,nlr,nla,er,hR,ea,hks,lks,DQ,LB,b7,CH,q⟩:=h;rfl
 obtain⟨n,l,r,a,us,ks,m,c,L,ds,es,rfl,nt,nlr,nla,er,hR,ea,hks,lks,DQ,LB,b7,CH,q⟩:=h;have hu:=hr.units;have r1:=hr.mono (show 1<=9 by omega);have r3:=hr.mono (show 3<=9 by omega);have r5:=hr.mono (show 5<=9 by omega);refine⟨_,(aC (kB (i:=5) (nl:=1) (fr:=[1]) (Nc:=["_law_k","_law_rows"]) (cl:=[("_law_rows",s.heap.objs.size+2)]) oK.nd rfl rfl rfl ⟨rfl,rfl,by decide +kernel,by decide +kernel,(cP rfl (iB)),dS rfl,rfl,fun i n h=>match i,h with | 0,h=>by cases h;exact⟨1,rfl,rfl,rfl,rfl,.inl rfl⟩ | k+1,h=>by rw[show 1+(k+1)=k+2 by omega] at h;cases h⟩
    (fU rfl mr (aA (bO bH rfl ml PySem.boot_len (aA (pv 1) aD)) aD)) (fun C s3 H3 fp pins=>(aZ (i:=0) vO rfl (Or.inl rfl))) (fun C s3 H3 fp pins=>(nQ (bK eE (aP (oF (K:=K) rfl) (aP (oQ (K:=K) rfl) (pv 1) (pv 0) (fun _ _=>rfl)) aF (fun _ _=>rfl)) cF (bM _))))
    (fun C s3 H3 fp pins=>(pv 0)) rfl)
  (aC (cE (bK (uL hu) (pv 5) (cV aD) (bM _)) (aG (bA iQ)) bN)
  (aC (aW (i:=6) oK.nd rfl (Or.inl rfl) (aP bL (pv 5) (aI G1 r1 rfl m1 k1 b1 .nil aM (aA (pv 4) (aA aF (aA (bO bH rfl ml PySem.boot_len (aA (pv 5) aD)) aD)))) (fun _ _=>rfl)))
  (aC (aW (i:=7) oK.nd rfl (Or.inl rfl) (aI G2 r1 rfl m2 k2 b2 .nil aM (aA (aY dH (aP aX (aP aX (aP bL (pv 1) (pv 6) (fun _ _=>rfl)) aF (fun _ _=>rfl)) aF (fun _ _=>rfl)) (aP aX (aP aX (aP bL (pv 1) (pv 6) (fun _ _=>rfl)) aF (fun _ _=>rfl)) aF (fun _ _=>rfl))) (aA (aP aX (aP aX (aP bL (pv 1) (pv 6) (fun _ _=>rfl)) aF (fun _ _=>rfl)) aF (fun _ _=>rfl)) aD))))
  (aC (bV (xV (pv 0) NTx.cl mCh GCh r5 bCh .nil aM (aA (pv 6) (aA (pv 7) aD))))
  (aC (aW (i:=8) oK.nd rfl (Or.inr rfl) (aY kX (aY kX (fC gF (pv 1) gV (fK (pv 6))) (cV (aA (aY Pq (fC Um (aP bL (pv 1) (pv 6) (fun _ _=>rfl)) gV (fK aF)) (cX (aA (pv 7) aD))) aD))) (fC gF (pv 1) (fK (aY dH (pv 6) aF)) gV)))
  (aG (bA (bO (oU rfl) rfl ma PyProof.Rows.boot_all (aA (fH (nl:=1) (fr:=[8,0,2]) (Nc:=["_law_at","_law_turned","_law_net_here","_law_many"]) (cl:=[("_law_turned",s.heap.objs.size+4),("_law_net_here",s.heap.objs.size+1),("_law_many",s.heap.objs.size+3)]) rfl ⟨rfl,rfl,by decide +kernel,by decide +kernel,(cP rfl (cP rfl (cP rfl (iB)))),dS rfl,rfl,fun i n h=>match i,h with | 0,h=>by cases h;exact⟨8,rfl,rfl,rfl,rfl,.inl rfl⟩ | 1,h=>by cases h;exact⟨0,rfl,rfl,rfl,rfl,.inl rfl⟩ | 2,h=>by cases h;exact⟨2,rfl,rfl,rfl,rfl,.inl rfl⟩ | k+3,h=>by rw[show 1+(k+3)=k+4 by omega] at h;cases h⟩
    (cS (pv 3)) (fun C s3 H3 fp pins=>(aZ (i:=0) iP rfl (Or.inl rfl))) (fun C s3 H3 fp pins=>dX)
    (fun C s3 H3 fp pins=>(aI G3 r3 rfl m3 k3 b3 .nil aM (aA (pv 1) (aA (pv 3) (aA (pv 0) (aA (aI G4 hr rfl m4 k4 b4 .nil aM (aA (pv 2) (aA (pv 0) aD))) aD))))))) aD)))))))))),?_⟩
 have lus:=hR.length;have len:=DQ.len;have les:=CH.len;have m1:=DQ.o.m1;have m5:=DQ.m5;refine⟨_,rfl,r,us,rfl,.inl (SqL.of er),(us.length:Int),rfl,by omega,by omega,fun D hD=>?_⟩;rw[Int.toNat_natCast];have sD:=aH hD (.lst []);refine jQ (n:=us.length) (fun i zs H'=>bG H H'/\H' D=some (.lst zs)/\∃hs:List Int,zs=hs.map V.int/\(∀h∈hs,0<=h/\∃d,ds[h.toNat]?=some d/\d.1=.pc)/\hs.length<=i) ⟨sD,aB,[],rfl,(fun h hh=>by cases hh),Nat.le_refl _⟩ (fun i zs H' h=>h.2.1) ?_ ?_
 ·rintro i zs H1 hi ⟨s1,e1,hs,rfl,hh,hl⟩ C hC;obtain⟨⟨k,u,v,p⟩,hd⟩:∃d,ds[i]?=some d:=⟨_,List.getElem?_eq_getElem (by omega)⟩
  obtain⟨t,z,et,hT,fz⟩:=(hR.same (s1)).at hd;have at_:atI us (0+(i:Int))=some (.ref t):=by rw[Int.zero_add];exact bQ et
  refine⟨dC.1,dC.2,?_⟩;refine⟨_,rfl,_,rfl,r,us,_,_,rfl,rfl,SqL.of (s1 _ _ er),at_,t,_,0,_,rfl,rfl,hT,rfl,rfl,_,rfl,?_⟩
  by_cases hk:k=.pc
  ·refine L2.ifT (by show decide (V.str k.wd=V.str "piece")=true;rw[nE];exact decide_eq_true hk) ⟨_,rfl,e1,bF (by rw[List.length_map];omega),hC _ _ ⟨s1.change hD,aB,hs++[0+(i:Int)],by rw[List.map_append];rfl,fun h hh'=>?_,by rw[List.length_append];simp only[List.length_cons,List.length_nil];omega⟩⟩;rcases List.mem_append.mp hh' with z | z
   ·exact hh h z
   ·have:h=0+(i:Int):=by simpa using z
    rw[this];exact⟨by omega,_,by rw[show (0+(i:Int)).toNat=i by omega];exact hd,hk⟩
  ·exact L2.ifF (by show decide (V.str k.wd=V.str "piece")=false;rw[nE];exact decide_eq_false hk) (hC _ _ ⟨s1,e1,hs,rfl,hh,by omega⟩)
 rintro zs H1 ⟨s1,e1,hs,rfl,hh,hlh⟩;refine⟨_,rfl,by show 0<=sizeLine;decide,fun l0 hl0=>?_⟩;have s2:=aH hl0 (.lst []);refine As (SqL.of (s2 _ _ e1)) (SqL.of aB) ?_;have e2:=s2 _ _ e1;generalize upd H1 l0 (.lst [])=H2 at s2 e2 ⊢
 by_cases hs0:hs=[]
 ·subst hs0;exact⟨_,rfl,L2.ifT rfl (q _)⟩
 have hsl:1<=hs.length:=by cases hs with | nil=>exact absurd rfl hs0 | cons=>simp
 refine⟨_,rfl,L2.ifF (by cases hs with | nil=>exact absurd rfl hs0 | cons=>rfl) ?_⟩;have s02:=s1.trans s2;refine⟨_,rfl,_,rfl,_,rfl,D,_,rfl,.inl (SqL.of e2),c,2,_,rfl,by decide,by decide,by rw[List.length_map];omega,fun x H3 x0 x1 s3=>?_⟩;rw[List.length_map] at x1;obtain⟨xN,rfl⟩:∃xN:Nat,x=(xN:Int):=⟨x.toNat,by omega⟩
 have hxN:xN < hs.length:=by omega
 obtain⟨k0,⟨kd,u,w,sz⟩,hd,hk⟩:=hh _ (List.getElem_mem hxN);generalize hkk:hs[xN]=kI at k0 hd;obtain⟨kN,rfl⟩:∃kN:Nat,kI=(kN:Int):=⟨kI.toNat,by omega⟩
 rw[Int.toNat_natCast] at hd;have hk:kd=.pc:=hk;subst hk;have hkl:=(List.getElem?_eq_some_iff.mp hd).1;refine⟨D,_,_,_,rfl,rfl,SqL.of (s3 _ _ e2),bQ (by rw[List.getElem?_map,List.getElem?_eq_getElem hxN,hkk];rfl),?_⟩;have s03:=s02.trans s3;have er3:=s03 _ _ er;obtain⟨t,z,et,ht,fz⟩:=(hR.same s03).at hd;have at_:atI us (kN:Int)=some (.ref t):=bQ et;have fz:Fq K H3 z sz:=fz;refine⟨_,rfl,_,rfl,r,us,_,_,rfl,rfl,SqL.of er3,at_,t,_,3,_,rfl,rfl,ht,rfl,z,_,0,_,rfl,rfl,fz,rfl,_,rfl,_,rfl,r,us,_,_,rfl,rfl,SqL.of er3,at_,t,_,3,_,rfl,rfl,ht,rfl,z,_,1,_,rfl,rfl,fz,rfl,_,_,rfl,rfl,?_⟩;refine⟨_,rfl,_,rfl,r,us,_,_,rfl,rfl,SqL.of er3,at_,t,_,3,_,rfl,rfl,ht,rfl,z,_,1,_,rfl,rfl,fz,rfl,?_⟩;have mem:=List.mem_of_getElem? hd;have bsz:Mq.Bd 7 sz:=b7 _ mem;have lsz:Mq.Low sz:=(DQ.ok _ mem).1.2.2.2.2.1;obtain⟨lq,po,b10,DQ'⟩:=DQ.more LB hd bsz;have b0:sz.2≠0:=by have:=lsz.pos;omega
 refine⟨sz.1+sz.2,sz.2,7,rfl,b0,bsz.b,by omega,fun zN H4 s4 e4=>?_⟩;have f4:Fq K H4 zN (Mq.red (sz.1+sz.2) sz.2):=Fq.of e4;generalize Mq.red (sz.1+sz.2) sz.2=pN at lq po b10 DQ' f4;clear e4;have hde:es[kN]?=some (.pc,u,w,sz):=by
  obtain⟨e,he,hq⟩:=CH.at hd;have e1:e.1=.pc:=by rw[<- Md e,hq];rfl
  have:pq e=e:=if_pos e1;rw[this] at hq;rw[he,hq];rfl
 have s04:=s03.trans s4;obtain⟨dn,hn⟩:=(nt.same s04).ob;obtain⟨ts,el,_⟩:=(nt.same s04).ls;refine⟨_,rfl,n,dn,_,rfl,hn,dM _ _ (by decide +kernel) (by decide +kernel),_,rfl,_,rfl,n,l,zN,(m:Int),(kN:Int),es,.pc,u,w,sz,pN,rfl,nt.same s04,by omega,by rw[Int.toNat_natCast];exact hde,f4,lq,(fun _=>po),b10.mono (by omega),fun H5 sx5 nt5=>?_⟩;rw[Int.toNat_natCast] at nt5;have er5:=sx5 _ _ (s04 _ _ er) (Ne.symm nlr);have ea5:=sx5 _ _ (s04 _ _ ea) (Ne.symm nla);have hR5:=dF.rts el sx5 (hR.same s04);have f5:Fq K H5 zN pN:=dF.seqT el sx5 f4;have ht5:=dF.seqT el sx5 (s4.seqT ht);have CH':=CH.both kN (d:=(.pc,u,w,pN)) lq b10;have DE:=DQ'.chq CH';have NB:=DE.net nt5;refine⟨_,rfl,_,rfl,(kN:Int),rfl,r,us,rfl,SqL.of er5,fun S hS=>?_⟩;rw[yG];have s6:=aH hS (.lst (us.take kN));have e6:upd H5 S (.lst (us.take kN)) S=some (.lst (us.take kN)):=aB;generalize upd H5 S (.lst (us.take kN))=H6 at s6 e6 ⊢;refine⟨_,rfl,_,rfl,r,us,_,_,rfl,rfl,SqL.of (s6 _ _ er5),at_,3,rfl,t,_,rfl,s6.seqT ht5,(by show ¬(_/\3=4);omega),fun A2 hA2=>?_⟩;have s7:=aH hA2 (.tup [.str Kd.pc.wd,.int u,.int w]);have e7:upd H6 A2 (.tup [.str Kd.pc.wd,.int u,.int w]) A2=some (.tup [.str Kd.pc.wd,.int u,.int w]):=aB;show Wi _ _ (upd H6 A2 (.tup [.str Kd.pc.wd,.int u,.int w])) _;generalize upd H6 A2 (.tup [.str Kd.pc.wd,.int u,.int w])=H7 at s7 e7 ⊢;refine⟨_,rfl,by show 1<=sizeLine;decide,fun oN hoN=>?_⟩;have s8:=aH hoN (.tup [.ref zN]);have e8:upd H7 oN (.tup [.ref zN]) oN=some (.tup [.ref zN]):=aB;generalize upd H7 oN (.tup [.ref zN])=H8 at s8 e8 ⊢;refine⟨A2,oN,_,_,rfl,rfl,SqT.of (s8 _ _ e7),SqT.of e8,(by simp),(by show 4<=sizeLine;decide),(fun z=>by cases z),fun _ A5 hA5=>?_⟩;have s9:=aH hA5 (.tup ([.str Kd.pc.wd,.int u,.int w]++[.ref zN]));have e9:upd H8 A5 (.tup ([.str Kd.pc.wd,.int u,.int w]++[.ref zN])) A5=some (.tup ([.str Kd.pc.wd,.int u,.int w]++[.ref zN])):=aB;generalize upd H8 A5 (.tup ([.str Kd.pc.wd,.int u,.int w]++[.ref zN]))=H9 at s9 e9 ⊢;refine⟨by show 1<=sizeLine;decide,fun l6 hl6=>?_⟩;have sA:=aH hl6 (.lst [.ref A5]);have eA:upd H9 l6 (.lst [.ref A5]) l6=some (.lst [.ref A5]):=aB;generalize upd H9 l6 (.lst [.ref A5])=HA at sA eA ⊢;have s6A:=s7.trans (s8.trans (s9.trans sA));refine⟨S,l6,_,_,rfl,rfl,s6A _ _ e6,eA,Nat.le_of_lt (bF (by rw[List.length_take];simp only[List.length_cons,List.length_nil];omega)),fun V1 hV1=>?_⟩;have sB:=aH hV1 (.lst (us.take kN++[.ref A5]));have eB:upd HA V1 (.lst (us.take kN++[.ref A5])) V1=some (.lst (us.take kN++[.ref A5])):=aB;generalize upd HA V1 (.lst (us.take kN++[.ref A5]))=HB at sB eB ⊢;have s5B:=s6.trans (s6A.trans sB);have ek1:(kN:Int)+1=((kN+1:Nat):Int):=by omega
 refine⟨_,rfl,_,rfl,_,_,rfl,rfl,(kN:Int)+1,rfl,r,us,rfl,SqL.of (s5B _ _ er5),fun S2 hS2=>?_⟩;rw[ek1,Uc];have sC:=aH hS2 (.lst (us.drop (kN+1)));have eC:upd HB S2 (.lst (us.drop (kN+1))) S2=some (.lst (us.drop (kN+1))):=aB;generalize upd HB S2 (.lst (us.drop (kN+1)))=HC at sC eC ⊢;refine⟨V1,S2,_,_,rfl,rfl,sC _ _ eB,eC,Nat.le_of_lt (bF (by rw[List.length_append,List.length_take,List.length_drop];simp only[List.length_cons,List.length_nil];omega)),fun V2 hV2=>?_⟩;have sX:=aH hV2 (.lst (us.take kN++[.ref A5]++us.drop (kN+1)));have eX:upd HC V2 (.lst (us.take kN++[.ref A5]++us.drop (kN+1))) V2=some (.lst (us.take kN++[.ref A5]++us.drop (kN+1))):=aB;generalize upd HC V2 (.lst (us.take kN++[.ref A5]++us.drop (kN+1)))=HX at sX eX ⊢;have s5X:=s5B.trans (sC.trans sX);have hRX:Rts K HX (us.take kN++[.ref A5]++us.drop (kN+1)) (ds.set kN (.pc,u,w,pN)):=Rts.cut (hR5.same s5X) kN hkl (k:=.pc) (SqT.of ((sA.trans (sB.trans (sC.trans sX))) _ _ e9)) (s5X.fq f5);have eaX:=s5X _ _ ea5;refine⟨_,rfl,a,rfl,⟨_,SqL.of eaX⟩,fun D7 hD7=>?_⟩;have sD7:=aH hD7 (.lst []);refine dE (xs:=ks.map V.int) (fun i zs H'=>bG HX H'/\H' D7=some (.lst zs)/\zs=(List.replicate i true).map V.bl) ⟨sD7,aB,rfl⟩ (fun i zs H' h=>h.2.1) (fun i zs H' _ h=>h.1.seq (SqL.of eaX)) ?_ ?_
 ·rintro i zs x HY hx ⟨sY,eY,rfl⟩ C hC;have hi:i < ks.length:=by
   have:=(List.getElem?_eq_some_iff.mp hx).1
   rwa [List.length_map] at this
  obtain⟨kI,hkI,rfl⟩:∃kI,ks[i]?=some kI/\x=.int kI:=by
   rw[List.getElem?_map,List.getElem?_eq_getElem hi] at hx;exact⟨_,List.getElem?_eq_getElem hi,(Option.some.inj hx).symm⟩
  obtain⟨q0,q1⟩:=hks kI (List.mem_of_getElem? hkI);obtain⟨kk,rfl⟩:∃kk:Nat,kI=(kk:Int):=⟨kI.toNat,by omega⟩
  obtain⟨d',hd'⟩:∃d,(ds.set kN (.pc,u,w,pN))[kk]?=some d:=⟨_,List.getElem?_eq_getElem (by rw[List.length_set];omega)⟩
  obtain⟨e',he',hpe⟩:=CH'.at hd';refine⟨dC.1,dC.2,fY ?_⟩;refine⟨_,rfl,_,rfl,_,rfl,_,rfl,_,rfl,n,l,m,77,_,_,_,kk,e',rfl,NB.same (s5X.trans sY),he',fun tt zz hp v HZ ntZ sZ eZ FZ lh lo OV SV hv=>?_⟩;have sYZ:=sY.trans sZ;refine⟨V2,tt,_,zz,m,kk,_,_,d',hp,v,rfl,SqL.of (sYZ _ _ eX),hRX.same sYZ,DQ',hd',SqL.of eZ,FZ,lh,lo,L2.Ovr.mono OV DE.bwle,?_,hv,fun HW sW=>?_⟩
  ·rw[<- Gf CH' hpe];exact Sv.chq CH' SV
  ·refine⟨(sZ.trans sW) _ _ eY,bF (by rw[List.length_map,List.length_replicate];omega),hC _ _ ⟨(sYZ.trans sW).change hD7,aB,?_⟩⟩;rw[List.replicate_succ',List.map_append];rfl
 rintro zs HY ⟨sY,eY,rfl⟩;refine⟨D7,_,rfl,SqL.of eY,?_⟩;rw[show (List.replicate (ks.map V.int).length true).all id=true by simp];exact q _
end
end K72
set_option maxHeartbeats 1000000
namespace L2
open PySem PySem.Spec PyProof.Rows Shp
theorem Pc {ds:List RD}:Frs ds↔∀(A B:List RD) (d:RD),cZ .ho ds=A++d :: B->¬Cn A d.2.1.toNat d.2.2.1.toNat:=by
 constructor
 ·intro f A B d e;unfold cZ at e;obtain⟨l1,l2,rfl,e1,e2⟩:=List.filter_eq_append_iff.mp e;obtain⟨l3,l4,rfl,no,hd,e4⟩:=List.filter_eq_cons_iff.mp e2;have:=f (l1++l3) l4 d (by rw[List.append_assoc]) (of_decide_eq_true hd);have es:cZ .ho (l1++l3)=A:=by
   unfold cZ;rw[List.filter_append,e1,List.filter_eq_nil_iff.mpr (fun x hx=>no x hx),List.append_nil]
  rwa [es] at this
 ·intro f A B d e hd cn;refine f (cZ .ho A) (cZ .ho B) d ?_ cn;rw[e];unfold cZ;rw[List.filter_append,List.filter_cons_of_pos (p:=fun d:RD=>decide (d.1=.ho)) (a:=d) (decide_eq_true hd)]
theorem Frs.sel {ds es:List RD}(h:(cZ .ho ds).map sk3=(cZ .ho es).map sk3)(f:Frs ds):Frs es:=by
 rw[Pc] at f ⊢;intro A B d e;have hl:(cZ .ho ds).length=(cZ .ho es).length:=by have:=congrArg List.length h;rwa [List.length_map,List.length_map] at this
 have hn:A.length < (cZ .ho ds).length:=by rw[hl,e,List.length_append,List.length_cons];omega
 generalize cZ .ho ds=hs at h hl hn f;generalize cZ .ho es=gs at h hl e;have eA:(hs.take A.length).map sk3=A.map sk3:=by rw[List.map_take,h,<- List.map_take,e,List.take_left]
 have ed:sk3 hs[A.length]=sk3 d:=by
  have a1:(hs.map sk3)[A.length]?=some (sk3 hs[A.length]):=by rw[List.getElem?_map,List.getElem?_eq_getElem hn];rfl
  have a2:(gs.map sk3)[A.length]?=some (sk3 d):=by rw[List.getElem?_map,e,List.getElem?_append_right (Nat.le_refl _),Nat.sub_self];rfl
  rw[h,a2] at a1;exact(Option.some.inj a1).symm
 have e2:(hs[A.length]).2.1=d.2.1:=congrArg (·.2.1) ed;have e3:(hs[A.length]).2.2.1=d.2.2.1:=congrArg (·.2.2) ed;intro cn;refine f (hs.take A.length) (hs.drop (A.length+1)) hs[A.length] (by rw[List.getElem_cons_drop,List.take_append_drop]) ?_;rw[e2,e3];exact Cn.sk eA.symm cn
end L2
set_option maxHeartbeats 4000000
namespace K72
open PySem L2 Shp
section
variable {P:Program} {w:World} {K:PySem.W.Frag} {mg:Str->Option Value} {base:Heap} {f g1 g2 g3 g4 g5 g6 g7 g8:Addr} {fd gd1 gd2 gd3 gd4 gd5 gd6 gd7 gd8:FuncData} {CX:CXT}
variable {CR:Addr} {CK:Kd->Addr} {fW fJ fT fS:Kd->Addr} {fdW fdJ fdT fdS:Kd->FuncData}
abbrev pu0:RD:=(.pu,0,0,(0,1))
theorem Dl (ds:List RD)(n:Nat):cZ .ho (ds++List.replicate n pu0)=cZ .ho ds:=by
 unfold cZ;rw[List.filter_append,List.filter_eq_nil_iff (l:=List.replicate n pu0) |>.mpr fun d hd=>?_,List.append_nil];rw[List.eq_of_mem_replicate hd];decide
theorem Eh {K:PySem.W.Frag}{H:Hp}{t z:Addr}(ht:SqT K H t [.str "push",.int 0,.int 0,.ref z])(fz:Fq K H z (0,1)):∀n,Rts K H (List.replicate n [V.ref t]).flatten (List.replicate n pu0)
 |0=>.nil
 |n+1=>.cons (k:=.pu) ht fz (Eh ht fz n)
theorem Sn {fr:List Nat}{σ:St}{x y z:V}:((((σC 3 fr σ).set 0 (some x)).set 1 (some y)).set 2 (some z)).length=(σC 3 fr σ).length/\∀(i:Nat) v,(σC 3 fr σ)[i]?=some (some v)->((((σC 3 fr σ).set 0 (some x)).set 1 (some y)).set 2 (some z))[i]?=some (some v):=by
 refine⟨by simp,fun i v h=>?_⟩;have h3:3<=i:=by
  rcases i with _ | _ | _ | i
  ·cases h
  ·cases h
  ·cases h
  ·omega
 rw[List.getElem?_set_ne (by omega),List.getElem?_set_ne (by omega),List.getElem?_set_ne (by omega)];exact h
section
variable {m t:Nat} {E:List Hn}
theorem Uy (h:Hng m t m E)(m5:m<=5)(le:E.length<=m - 1+8)(n:Nat)(hn:E.length+n<=40):Dq m (LH E) (rwH E++List.replicate n pu0)/\Mq.B 50 (LH E)/\∀d∈rwH E++List.replicate n pu0,Mq.Bd 7 d.2.2.2:=by
 have m1:=h.m1;obtain⟨L1,LB,dv⟩:=h.L;have hl:=h.hold_le;have o:=h.nof;have lE:(rwH E).length=E.length:=List.length_map ..;have pu:∀d∈List.replicate n pu0,d=pu0:=fun d hd=>List.eq_of_mem_replicate hd;have b07:Mq.Bd 7 (0,1):=⟨show (0:Nat) < 2 ^ 7 by decide,show (1:Nat) < 2 ^ 7 by decide⟩
 have rd0:Hg (m:Int) pu0:=⟨Int.le_refl _,by show (0:Int) < m;omega,Int.le_refl _,by show (0:Int) < m;omega,Sq,(fun z=>by cases z),b07.mono (by omega)⟩
 have B7:∀d∈rwH E++List.replicate n pu0,Mq.Bd 7 d.2.2.2:=fun d hd=>by
  rcases List.mem_append.mp hd with z | z
  ·obtain⟨e,he,rfl⟩:=List.mem_map.mp z;exact(h.en e he).bd
  ·rw[pu d z];exact b07
 refine⟨⟨⟨m1,fun d hd=>?_,fun d hd hk=>?_,fun p hp=>?_,?_⟩,m5,?_,L1,LB.mono (by omega),fun d hd hk=>?_,fun d hd=>⟨?_,(B7 d hd).mono (by omega)⟩,?_⟩,LB.mono (by omega),B7⟩
 ·rcases List.mem_append.mp hd with z | z
  ·exact o.pt d z
  ·rw[pu d z];exact⟨rd0.1,rd0.2.1,rd0.2.2.1,rd0.2.2.2.1⟩
 ·rcases List.mem_append.mp hd with z | z
  ·exact o.pos d z hk
  ·rw[pu d z] at hk;cases hk
 ·exact Cn.mono (fun x hx=>List.mem_append_left _ hx) (o.cn p hp)
 ·exact Frs.sel (by rw[Dl]) o.fr
 ·show m - 1+(cZ .ho (rwH E++List.replicate n pu0)).length<=8;rw[Dl];have hl:(cZ .ho (rwH E)).length+1<=m:=hl;omega
 ·rcases List.mem_append.mp hd with z | z
  ·exact dv d z hk
  ·rw[pu d z] at hk;cases hk
 ·rcases List.mem_append.mp hd with z | z
  ·obtain⟨e,he,rfl⟩:=List.mem_map.mp z;have oe:=h.en e he;obtain⟨p1,p2,p3,p4⟩:=oe.pt;exact⟨p1,p2,p3,p4,oe.sl,fun hk=>(oe.pc hk).1,oe.bd.mono (by omega)⟩
  ·rw[pu d z];exact rd0
 ·rw[List.length_append,List.length_replicate,lE];omega
end
structure Ti where
 k:Nat
 t:Addr
 f:Addr
 g:Addr
 hp:List Mq.Q2
structure rB (K:PySem.W.Frag) (H:Hp) (x:Ti):Prop where
 tp:SqT K H x.t [.int (x.k:Int),.ref x.f,.ref x.g]
 fl:∃zs,H x.f=some (.lst zs)/\Fqs K H zs x.hp
 gl:∃zs,H x.g=some (.lst zs)/\Fqs K H zs x.hp
structure TiV (m:Nat) (ds:List RD) (x:Ti):Prop where
 low:Mq.gD x.hp
 len:x.hp.length=m
 sv:∃v d,ds[x.k]?=some d/\Sv m ds (shR m ds x.k d) v/\∀p,p < m->Mq.val (x.hp.getD p (0,1))=v p
structure TiN (B:Hp) (T:Addr) (x:Ti):Prop where
 bf:B x.f=none
 bg:B x.g=none
 ft:x.f≠T
 gt:x.g≠T
 fg:x.f≠x.g
theorem rB.same {K:PySem.W.Frag}{H H':Hp}{x:Ti}(s:bG H H')(h:rB K H x):rB K H' x:=by
 obtain⟨zs,e,F⟩:=h.fl;obtain⟨ws,e',F'⟩:=h.gl;exact⟨s.seqT h.tp,⟨zs,s _ _ e,F.same s⟩,⟨ws,s _ _ e',F'.same s⟩⟩
theorem rB.x {K:PySem.W.Frag}{H H':Hp}{x:Ti}{l:Addr}{ys:List V}(hl:H l=some (.lst ys))(s:dF l H H')(nf:x.f≠l)(ng:x.g≠l)(h:rB K H x):rB K H' x:=by
 obtain⟨zs,e,F⟩:=h.fl;obtain⟨ws,e',F'⟩:=h.gl;exact⟨dF.seqT hl s h.tp,⟨zs,s _ _ e nf,dF.fqsL hl s F⟩,⟨ws,s _ _ e' ng,dF.fqsL hl s F'⟩⟩
theorem TiV.uni {m:Nat}{ds:List RD}{x:Ti}(h:TiV m ds x)(o:Nof m ds){hp:List Mq.Q2}{v:Nat->Rat}{d:RD}(lo:Mq.gD hp)(lh:hp.length=m)(hd:ds[x.k]?=some d)(SV:Sv m ds (shR m ds x.k d) v)(hv:∀p,p < m->Mq.val (hp.getD p (0,1))=v p):hp=x.hp:=by
 obtain⟨v',d',hd',SV',hv'⟩:=h.sv;have ed:d'=d:=by rw[hd] at hd';exact(Option.some.inj hd').symm
 subst ed;have u:=Sv.uni o SV SV';have lx:=h.len;have m1:=o.m1;refine List.ext_getElem? fun i=>?_
 by_cases c:i < m
 ·have a:=oM (ps:=hp) (j:=i) (by omega);have b:=oM (ps:=x.hp) (j:=i) (by omega);rw[a,b];congr 1;exact Mq.oJ (lo _ (List.mem_of_getElem? a)) (h.low _ (List.mem_of_getElem? b)) (by rw[hv i c,hv' i c,u i (by unfold wd;omega)])
 ·rw[List.getElem?_eq_none (by omega),List.getElem?_eq_none (by omega)]
def Ef (K:PySem.W.Frag):Sp:=fun vs H Q _=>∃(a:Addr) (ns:List Int),vs=[.ref a]/\SqL K H a (ns.map V.int)/\ns.length<=63/\∀H',Q (.bl true) H'
theorem gN:(["_law_at","_law_found","_law_kept"]:List Str).Nodup:=by decide +kernel
abbrev yT:Stmt:=top 90
theorem jC:aT ["_law_script","_law_many","_law_rows","_law_net_here","_law_cell","_law_told_here","_law_at","_law_found","_law_k","_law_kept"] ["_law_script"] (aE yT):=⟨rfl,rfl,rfl,by decide +kernel,rfl,by decide +kernel,by decide +kernel⟩
theorem Uk {dV:Value}(F:bZ K "law" "law" yT dV f fd){CN:Addr}(NTx:NT K mg CN)(ml:mg "len"=none)(mr:mg "range"=none)(mli:mg "list"=none){gTo:Addr}{gdTo:FuncData}(GTo:aQ P w K mg base CX0 1 gTo gdTo ["self"] (Ed CN K))(bTo:aS K gdTo ["self"] [])(mTo:gH K CN "told" gTo){gCh:Addr}{gdCh:FuncData}(GCh:aQ P w K mg base CX0 5 gCh gdCh ["self","k","size"] (tW CN K))(bCh:aS K gdCh ["self","k","size"] [])(mCh:gH K CN "change" gCh)(G1:aQ P w K mg base CX0 1 g1 gd1 ["_law_script","_law_k"] (Bu K))(b1:aS K gd1 ["_law_script","_law_k"] [])(k1:PySem.W.keepIn K (.ref g1)=true)(m1:mg "_law_draw"=some (.ref g1))(G2:aQ P w K mg base CX0 4 g2 gd2 ["_law_script","_law_many","_law_most","_law_words"] (Kg K))(b2:aS K gd2 ["_law_script","_law_many","_law_most","_law_words"] [])(k2:PySem.W.keepIn K (.ref g2)=true)(m2:mg "_law_hanging"=some (.ref g2))(G3:aQ P w K mg base CX0 1 g3 gd3 ["_law_cell","_law_turn","_law_many"] uE)(b3:aS K gd3 ["_law_cell","_law_turn","_law_many"] [])(k3:PySem.W.keepIn K (.ref g3)=true)(m3:mg "_law_mix"=some (.ref g3))(G4:aQ P w K mg base CX0 6 g4 gd4 ["_law_many","_law_rows"] (Ge CN K))(b4:aS K gd4 ["_law_many","_law_rows"] [])(k4:PySem.W.keepIn K (.ref g4)=true)(m4:mg "_law_net"=some (.ref g4))(G5:aQ P w K mg base CX0 2 g5 gd5 ["_law_rows","_law_cell"] (Ni K))(b5:aS K gd5 ["_law_rows","_law_cell"] [])(k5:PySem.W.keepIn K (.ref g5)=true)(m5:mg "_law_some"=some (.ref g5))(G6:aQ P w K mg base CX0 9 g6 gd6 ["net","k"] (yW CN K))(b6:aS K gd6 ["net","k"] [])(k6:PySem.W.keepIn K (.ref g6)=true)(m6:mg "shape_of"=some (.ref g6))(G7:aQ P w K mg base CX0 3 g7 gd7 ["_law_rows","_law_many","_law_at","_law_found"] (uF K))(b7:aS K gd7 ["_law_rows","_law_many","_law_at","_law_found"] [])(k7:PySem.W.keepIn K (.ref g7)=true)(m7:mg "_law_shaped"=some (.ref g7)){g8:Addr}{gd8:FuncData}(G8:aQ P w K mg base CX0 1 g8 gd8 ["_law_top","_law_bottom"] gL)(b8:aS K gd8 ["_law_top","_law_bottom"] [])(k8:PySem.W.keepIn K (.ref g8)=true)(m8:mg "_law_lowest"=some (.ref g8)){g9:Addr}{gd9:FuncData}(G9:aQ P w K mg base CX0 1 g9 gd9 ["_law_cell","_law_k"] Cg)(b9:aS K gd9 ["_law_cell","_law_k"] [])(k9:PySem.W.keepIn K (.ref g9)=true)(m9:mg "_law_part"=some (.ref g9)){g10:Addr}{gd10:FuncData}(G10:aQ P w K mg base CX0 10 g10 gd10 ["_law_net_here","_law_rows","_law_many","_law_asked","_law_cell"] (Dh CN K))(b10:aS K gd10 ["_law_net_here","_law_rows","_law_many","_law_asked","_law_cell"] [])(k10:PySem.W.keepIn K (.ref g10)=true)(m10:mg "_law_other_size"=some (.ref g10)) :
  aQ P w K mg base CX 11 f fd ["_law_script"] (Ef K):=by
 refine F.ok jC (fun vs H Q E h=>?_) (fun cdv A outer s H vs Q E hr h=>?_)
 ·obtain⟨a,ns,rfl,hS,h63,q⟩:=h;rfl
 obtain⟨a,ns,rfl,hS,h63,q⟩:=h;have hu:=hr.units;have r1:=hr.mono (show 1<=10 by omega);have r2:=hr.mono (show 2<=10 by omega);have r3:=hr.mono (show 3<=10 by omega);have r4:=hr.mono (show 4<=10 by omega);have r5:=hr.mono (show 5<=10 by omega);have r6:=hr.mono (show 6<=10 by omega);have r9:=hr.mono (show 9<=10 by omega);refine⟨_,(aC (aW (i:=1) jC.nd rfl (Or.inl rfl) (aY dH aF (aY tI (aI G1 r1 rfl m1 k1 b1 .nil aM (aA (pv 0) (aA aF aD))) aF)))
  (aC (aW (i:=2) jC.nd rfl (Or.inl rfl) (aI G2 r4 rfl m2 k2 b2 .nil aM (aA (pv 0) (aA (pv 1) (aA aF (aA (cV (aA cF (aA cF (aA cF (aA cF aD))))) aD))))))
  (aC (cE (bK eE (aI G3 r1 rfl m3 k3 b3 .nil aM (aA (aI G1 r1 rfl m1 k1 b1 .nil aM (aA (pv 0) (aA aF aD))) (aA aF (aA aF aD)))) aF (bM _)) (aG (aW (i:=2) jC.nd rfl (Or.inl rfl) (aY kX (pv 2) (aY pC (cV (aA (cX (aA cF (aA aF (aA aF (aA (cX (aA aF (aA aF aD))) aD))))) aD)) (aY iZ aF (bO bH rfl ml PySem.boot_len (aA (pv 2) aD))))))) bN)
  (aC (aW (i:=3) jC.nd rfl (Or.inl rfl) (aI G4 r6 rfl m4 k4 b4 .nil aM (aA (pv 1) (aA (pv 2) aD))))
  (aC (aW (i:=4) jC.nd rfl (Or.inl rfl) (aI G1 r1 rfl m1 k1 b1 .nil aM (aA (pv 0) (aA aF aD))))
  (aC (aW (i:=5) jC.nd rfl (Or.inl rfl) (cV aD))
  (aC (eU PassesOwn.never rfl (cS (aI G5 r2 rfl m5 k5 b5 .nil aM (aA (pv 2) (aA (pv 4) aD)))) (aZ (i:=6) jC.nd rfl (Or.inl rfl))
   (aC (aW (i:=7) jC.nd rfl (Or.inl rfl) (aI G6 r9 rfl m6 k6 b6 .nil aM (aA (pv 3) (aA (pv 6) aD))))
  (aC (cE (gC (eO (aI G7 r3 rfl m7 k7 b7 .nil aM (aA (pv 2) (aA (pv 1) (aA (pv 6) (aA (pv 7) aD))))))) (aG (bA iQ)) bN)
  (aG (bV (nX PySem.F.plainAttrs_list PySem.F.slot_list_append PySem.F.type_list_append fX (pv 5) (aA (cX (aA (pv 6) (aA (pv 7) (aA (lL jP rfl mli PyProof.Rows.boot_list (aA (pv 7) aD)) aD)))) aD)))))))
  (aC (cE (bK (yJ hu) (fM (pv 3) NTx.cl mTo GTo r1 bTo .nil aM) (pv 2) (bM _)) (aG (bA iQ)) bN)
  (aC (eU PassesOwn.never rfl (fU rfl mr (aA (bO bH rfl ml PySem.boot_len (aA (pv 2) aD)) aD)) (aZ (i:=8) jC.nd rfl (Or.inl rfl))
   (aG (cE (bK kY (aP aX (aP bL (pv 2) (pv 8) (fun _ _=>rfl)) aF (fun _ _=>rfl)) cF (bM _)) (aG (bV (xV (pv 3) NTx.cl mCh GCh r5 bCh .nil aM (aA (pv 8) (aA (aI G8 r1 rfl m8 k8 b8 .nil aM (aA (aY iZ (aI G3 r1 rfl m3 k3 b3 .nil aM (aA (aI G9 r1 rfl m9 k9 b9 .nil aM (aA (pv 4) (aA (pv 8) aD))) (aA aF (aA aF aD)))) aF) (aA aF aD))) aD))))) bN)))
  (aC (eU PassesOwn.never rfl (cS (pv 5)) (jA rfl (bU (aZ (i:=6) jC.nd rfl (Or.inl rfl)) (bU (aZ (i:=7) jC.nd rfl (Or.inl rfl)) (bU (aZ (i:=9) jC.nd rfl (Or.inl rfl)) gS))))
   (aC (cE (bK (yJ hu) (pv 7) (pv 9) (bM _)) (aG (bA iQ)) bN)
  (aC (bV (nX PySem.F.plainAttrs_list PySem.F.slot_list_append PySem.F.type_list_append fX (pv 7) (aA (cX (aA aF (aA aF aD))) aD)))
  (aG (cE (bK (yJ hu) (aI G6 r9 rfl m6 k6 b6 .nil aM (aA (pv 3) (aA (pv 6) aD))) (pv 9) (bM _)) (aG (bA iQ)) bN)))))
  (aG (bA (aI G10 hr rfl m10 k10 b10 .nil aM (aA (pv 3) (aA (pv 2) (aA (pv 1) (aA (fH (nl:=3) (fr:=[]) (Nc:=["_law_at","_law_found","_law_kept"]) (cl:=[]) (g:=(Gv K 3 (kE (iR 0) (kE (iR 1) (kE (iR 2) Hf))))) rfl ⟨rfl,rfl,by decide +kernel,by decide +kernel,fun x c h=>(by cases h),dS rfl,rfl,fun i n h=>(by simp at h)⟩
    (cS (pv 5)) (fun C s3 H3 fp pins=>(jA rfl (bU (aZ (i:=0) gN rfl (Or.inl rfl)) (bU (aZ (i:=1) gN rfl (Or.inl rfl)) (bU (aZ (i:=2) gN rfl (Or.inl rfl)) gS))))) (fun C s3 H3 fp pins=>dX)
    (fun C s3 H3 fp pins=>(pv 0))) (aA (pv 4) aD)))))))))))))))))),?_⟩
 refine⟨_,rfl,a,ns,0,0,rfl,rfl,hS,h63,fun v H1 s1=>⟨_,_,rfl,rfl,(show (0:Int) < 5 by decide),_,_,rfl,rfl,?_⟩⟩;have f0:=Int.emod_nonneg v (show (5:Int)≠0 by decide);have f9:=Int.emod_lt_of_pos v (show (0:Int) < 5 by decide);obtain⟨M,hM⟩:∃M:Nat,1+v % 5=(M:Int):=⟨(1+v % 5).toNat,by omega⟩
 show iW _ _ _ [some (.ref a),some (.int (1+v % 5)),none,none,none,none,none,none,none,none] H1;rw[hM];have M1:1<=M:=by omega
 have M5:M<=5:=by omega
 clear f0 f9 hM;refine⟨_,rfl,_,rfl,by show 4<=sizeLine;decide,fun w hw=>?_⟩;have s2:=aH hw (.lst [.str "piece",.str "hold",.str "piece",.str "piece"]);have e2:upd H1 w (.lst [.str "piece",.str "hold",.str "piece",.str "piece"]) w=some (.lst [.str "piece",.str "hold",.str "piece",.str "piece"]):=aB;generalize upd H1 w (.lst [.str "piece",.str "hold",.str "piece",.str "piece"])=H2 at s2 e2 ⊢;refine⟨a,w,ns,M,8,[.pc,.ho,.pc,.pc],rfl,(s1.trans s2).seq hS,h63,M1,by omega,by omega,SqL.of e2,by decide,by decide,fun r0 us0 tt E H3 s3 nr er0 hR0 hg le=>?_⟩;have s03:=s1.trans (s2.trans s3);have lE:(rwH E).length=E.length:=List.length_map ..;have lu0:=hR0.length
 try dsimp only
 refine Cd (fun σ' H'=>bG H3 H'/\∃(r:Addr) (us:List V) (k:Nat),σ'=[some (.ref a),some (.int (M:Int)),some (.ref r),none,none,none,none,none,none,none]/\H' r=some (.lst us)/\Rts K H' us (rwH E++List.replicate k pu0)/\E.length+k<=40) (fun X hX=>?_) ?_
 ·refine⟨_,rfl,a,ns,1,1,rfl,rfl,s03.seq hS,h63,fun c H4 s4=>?_⟩;refine⟨c,7,8,rfl,by decide,by decide,by decide,fun x H5 x0 x1 s5=>⟨rfl,_,rfl,rD (fun _=>?_) (fun _=>?_)⟩⟩
  ·refine⟨_,rfl,by show 2<=sizeLine;decide,fun z6 hz6=>?_⟩;have s6:=aH hz6 (.tup [.int 0,.int 1]);have e6:upd H5 z6 (.tup [.int 0,.int 1]) z6=some (.tup [.int 0,.int 1]):=aB;generalize upd H5 z6 (.tup [.int 0,.int 1])=H6 at s6 e6 ⊢;refine⟨by show 4<=sizeLine;decide,fun t7 ht7=>?_⟩;have s7:=aH ht7 (.tup [.str "push",.int 0,.int 0,.ref z6]);have e7:upd H6 t7 (.tup [.str "push",.int 0,.int 0,.ref z6]) t7=some (.tup [.str "push",.int 0,.int 0,.ref z6]):=aB;generalize upd H6 t7 (.tup [.str "push",.int 0,.int 0,.ref z6])=H7 at s7 e7 ⊢;refine⟨by show 1<=sizeLine;decide,fun l8 hl8=>?_⟩;have s8:=aH hl8 (.lst [.ref t7]);have e8:upd H7 l8 (.lst [.ref t7]) l8=some (.lst [.ref t7]):=aB;generalize upd H7 l8 (.lst [.ref t7])=H8 at s8 e8 ⊢;have s38:=s4.trans (s5.trans (s6.trans (s7.trans s8)));obtain⟨k,hk⟩:∃k:Nat,(40:Int) - (us0.length:Int)=(k:Int):=⟨40 - us0.length,by omega⟩
   have er8:=s38 _ _ er0;refine⟨_,rfl,r0,us0,rfl,.inl (SqL.of er8),_,_,rfl,rfl,?_⟩;refine⟨l8,(k:Int),_,rfl,congrArg V.int hk,e8,by omega,by omega,Nat.le_of_lt (bF (by rw[Int.toNat_natCast];simp only[List.length_cons,List.length_nil];omega)),fun p9 hp9=>?_⟩;rw[Int.toNat_natCast];have s9:=aH hp9 (.lst (List.replicate k [V.ref t7]).flatten);have e9:upd H8 p9 (.lst (List.replicate k [V.ref t7]).flatten) p9=some (.lst (List.replicate k [V.ref t7]).flatten):=aB;generalize upd H8 p9 (.lst (List.replicate k [V.ref t7]).flatten)=H9 at s9 e9 ⊢;have RP:=Eh (K:=K) (SqT.of ((s8.trans s9) _ _ e7)) (Fq.of ((s7.trans (s8.trans s9)) _ _ e6)) k;refine⟨r0,p9,us0,_,rfl,rfl,s9 _ _ er8,e9,Nat.le_of_lt (bF (by rw[Di];simp only[List.length_cons,List.length_nil];omega)),fun r9 h9=>?_⟩;have sA:=aH h9 (.lst (us0++(List.replicate k [V.ref t7]).flatten));exact hX _ _ ⟨s38.trans (s9.trans sA),r9,_,k,rfl,aB,((hR0.same (s38.trans s9)).app RP).same sA,by omega⟩
  ·exact hX _ _ ⟨s4.trans s5,r0,us0,0,rfl,(s4.trans s5) _ _ er0,by rw[List.replicate_zero,List.append_nil];exact hR0.same (s4.trans s5),by omega⟩
 rintro σ4 H4 ⟨s4,r,us,kk,rfl,er,hR,h40⟩;obtain⟨DQ,LB50,B7⟩:=Uy hg M5 le kk h40;clear hR0 er0 lu0 lE;generalize rwH E++List.replicate kk pu0=ds at hR DQ B7;generalize LH E=L at DQ LB50;clear hg le h40;have lus:=hR.length;have dlen:=DQ.len;refine⟨_,rfl,_,rfl,(M:Int),r,us,ds,rfl,by omega,by omega,SqL.of er,hR,(fun d hd=>(DQ.ok d hd).1),DQ.len,fun n l H5 s5 nl nt=>?_⟩;have nlr:l≠r:=fun z=>by rw[z,er] at nl;cases nl
 have s05:=s03.trans (s4.trans s5);refine⟨_,rfl,a,ns,1,1,rfl,rfl,s05.seq hS,h63,fun cell H6 s6=>?_⟩;have er6:=(s5.trans s6) _ _ er;have hR6:=hR.same (s5.trans s6);have nt6:=nt.same s6;clear hR nt nl er s05;obtain⟨tl6,el6,_⟩:=nt6.ls;refine⟨by show 0<=sizeLine;decide,fun Tl hTl=>?_⟩;have s7:=aH hTl (.lst []);have e7:upd H6 Tl (.lst []) Tl=some (.lst []):=aB;generalize upd H6 Tl (.lst [])=H7 at s7 e7 ⊢
 try dsimp only
 refine Cd (fun σ' H'=>bG H6 H'/\∃(T:List Ti) (z6 z7:Option V),σ'=[some (.ref a),some (.int (M:Int)),some (.ref r),some (.ref n),some (.int cell),some (.ref Tl),z6,z7,none,none]/\H' Tl=some (.lst (T.map fun x=>V.ref x.t))/\T.length<=4/\(∀x∈T,rB K H' x/\TiV M ds x/\TiN H6 Tl x)/\T.Pairwise (fun x y=>x.f≠y.f/\x.f≠y.g)) (fun X hX=>?_) ?_
 ·refine⟨_,rfl,_,rfl,r,cell,us,ds,rfl,SqL.of (s7 _ _ er6),hR6.same s7,dlen,fun a0 ks H8 s8 na0 ea0 hks lks=>?_⟩;have na0T:a0≠Tl:=Ne.symm (aU e7 na0);refine⟨a0,rfl,⟨_,SqL.of ea0⟩,?_⟩;refine gB (xs:=ks.map V.int) (fun i σ H'=>bG H6 H'/\H' a0=some (.lst (ks.map V.int))/\∃(T:List Ti) (z6 z7:Option V),σ=[some (.ref a),some (.int (M:Int)),some (.ref r),some (.ref n),some (.int cell),some (.ref Tl),z6,z7,none,none]/\H' Tl=some (.lst (T.map fun x=>V.ref x.t))/\T.length=i/\(∀x∈T,rB K H' x/\TiV M ds x/\TiN H6 Tl x)/\T.Pairwise (fun x y=>x.f≠y.f/\x.f≠y.g)) ⟨s7.trans s8,ea0,[],none,none,rfl,s8 _ _ e7,rfl,(fun x hx=>by cases hx),List.Pairwise.nil⟩ (fun i σ H' _ h=>SqL.of h.2.1) ?_ ?_
  ·rintro i w2 σ H9 hw ⟨s9,ea9,T,z6,z7,rfl,eT,lT,hT,pw⟩;have hi:i < ks.length:=by
    have:=(List.getElem?_eq_some_iff.mp hw).1
    rwa [List.length_map] at this
   obtain⟨kI,hkI,rfl⟩:∃kI,ks[i]?=some kI/\w2=.int kI:=by
    rw[List.getElem?_map,List.getElem?_eq_getElem hi] at hw;exact⟨_,List.getElem?_eq_getElem hi,(Option.some.inj hw).symm⟩
   obtain⟨q0,q1⟩:=hks kI (List.mem_of_getElem? hkI);obtain⟨kk,rfl⟩:∃kk:Nat,kI=(kk:Int):=⟨kI.toNat,by omega⟩
   obtain⟨d,hd⟩:∃d,ds[kk]?=some d:=⟨_,List.getElem?_eq_getElem (by omega)⟩
   refine⟨_,rfl,_,rfl,n,l,M,77,_,L,ds,kk,d,rfl,DQ.net (nt6.same s9),hd,fun f zs hp v HA nf sA ef FA lh lo OV SV hv=>?_⟩;have s9A:=s9.trans sA;refine⟨_,rfl,_,rfl,_,rfl,_,rfl,r,f,us,zs,M,kk,L,ds,d,hp,v,rfl,SqL.of (s9A _ _ er6),hR6.same s9A,DQ,hd,SqL.of ef,FA,lh,lo,L2.Ovr.mono OV DQ.bwle,SV,hv,fun HB sB=>⟨_,rfl,eV ?_⟩⟩;have sAB:=sA.trans sB;have efB:=sB _ _ ef;refine⟨_,rfl,.inl ⟨rfl,_,SqL.of (sAB _ _ eT)⟩,_,rfl,_,rfl,_,rfl,f,zs,rfl,.inl (SqL.of efB),fun g hg=>?_⟩;have ngf:f≠g:=aU efB hg;have ngT:g≠Tl:=Ne.symm (aU (sAB _ _ eT) hg);have ngH:H9 g=none:=sAB.free hg;have sC:=aH hg (.lst zs);have eC:upd HB g (.lst zs) g=some (.lst zs):=aB;generalize upd HB g (.lst zs)=HC at sC eC ⊢;refine⟨by show 3<=sizeLine;decide,fun t ht=>?_⟩;have sD:=aH ht (.tup [.int (kk:Int),.ref f,.ref g]);have eD:upd HC t (.tup [.int (kk:Int),.ref f,.ref g]) t=some (.tup [.int (kk:Int),.ref f,.ref g]):=aB;generalize upd HC t (.tup [.int (kk:Int),.ref f,.ref g])=HD at sD eD ⊢;have s9D:=sAB.trans (sC.trans sD);have eTD:=s9D _ _ eT;refine⟨Tl,_,.ref t,rfl,rfl,eTD,bF (by rw[List.length_map];omega),?_⟩;have sxT:dF Tl HD (upd HD Tl (.lst (T.map (fun x=>V.ref x.t)++[.ref t]))):=fun b o h nb=>by rw[bC nb];exact h
   have nfT:f≠Tl:=Ne.symm (aU eT nf);refine⟨(s9.trans s9D).change hTl,sxT _ _ (s9D _ _ ea9) na0T,T++[⟨kk,t,f,g,hp⟩],_,_,rfl,by rw[List.map_append];exact aB,by rw[List.length_append,lT];rfl,fun x hx=>?_,?_⟩
   ·rcases List.mem_append.mp hx with z | z
    ·obtain⟨h1,h2,h3⟩:=hT x z;exact⟨(h1.same s9D).x eTD sxT h3.ft h3.gt,h2,h3⟩
    ·have:x=⟨kk,t,f,g,hp⟩:=by simpa using z
     subst this;refine⟨rB.x (x:=⟨kk,t,f,g,hp⟩) eTD sxT nfT ngT ⟨SqT.of eD,⟨zs,(sC.trans sD) _ _ efB,FA.same (sB.trans (sC.trans sD))⟩,⟨zs,sD _ _ eC,FA.same (sB.trans (sC.trans sD))⟩⟩,⟨lo,lh,v,d,hd,SV,hv⟩,⟨s9.free nf,s9.free ngH,nfT,ngT,ngf⟩⟩
   ·refine List.pairwise_append.mpr ⟨pw,List.pairwise_singleton _ _,fun x hx y hy=>?_⟩;have:y=⟨kk,t,f,g,hp⟩:=by simpa using hy
    subst this;obtain⟨xs,ex,_⟩:=(hT x hx).1.fl;exact⟨aU ex nf,aU ex ngH⟩
  ·rintro σ9 H9 ⟨s9,_,T,z6,z7,rfl,eT,lT,hT,pw⟩;rw[List.length_map] at lT;exact hX _ _ ⟨s9,T,z6,z7,rfl,eT,by omega,hT,pw⟩
 rintro σ9 H9 ⟨s9,T,z6,z7,rfl,eT,lT,hT,pw⟩;obtain⟨dn,hn⟩:=(nt6.same s9).ob;refine⟨_,rfl,n,dn,_,rfl,hn,dM _ _ (by decide +kernel) (by decide +kernel),n,l,(M:Int),ds,rfl,nt6.same s9,fun t1 ts HD sD n1 e1 R1=>?_⟩;have s6D:=s9.trans sD;have erD:=s6D _ _ er6;have hRD:=hR6.same s6D;have ntD:=nt6.same s6D;have elD:=s6D _ _ el6;refine⟨_,rfl,Us (SqL.of e1) (SqL.of erD) R1 hRD ⟨_,rfl,eV ?_⟩⟩;clear R1 e1;refine⟨_,rfl,r,us,rfl,.inl (SqL.of erD),(us.length:Int),rfl,by omega,by omega,?_⟩;refine gO (n:=(us.length:Int).toNat) (fun i σ H'=>dF l HD H'/\∃(es:List RD) (z8:Option V),σ=[some (.ref a),some (.int (M:Int)),some (.ref r),some (.ref n),some (.int cell),some (.ref Tl),z6,z7,z8,none]/\eJ CN K H' n l (M:Int) es/\Chq ds es) ⟨(fun _ _ h _=>h),ds,none,rfl,ntD,Chq.refl fun d hd=>⟨(DQ.ok d hd).1.2.2.2.2.1,(DQ.ok d hd).2⟩⟩ ?_ ?_
 ·rintro i σ HE hi ⟨sx,es,z8,rfl,nt',ch⟩;have les:=ch.len;rw[Int.zero_add];have hi:i < ds.length:=by omega
  obtain⟨⟨kd,u,v,sz⟩,hd⟩:∃d,ds[i]?=some d:=⟨_,List.getElem?_eq_getElem hi⟩
  obtain⟨⟨ke,ue,ve,pe⟩,he,hq⟩:=ch.at hd;have ke':ke=kd:=by
   have a:=Md (ke,ue,ve,pe);rw[hq] at a;exact a.symm.trans (Md (kd,u,v,sz))
  subst ke';have er':=sx _ _ erD (Ne.symm nlr);have hR':=dF.rts elD sx hRD;obtain⟨t,z,et,ht,fz⟩:=hR'.at hd;have ea:atI us (i:Int)=some (.ref t):=bQ et;refine⟨_,rfl,_,rfl,r,us,_,_,rfl,rfl,SqL.of er',ea,t,_,_,_,rfl,rfl,ht,rfl,rfl,_,rfl,?_⟩
  by_cases hk:ke=.pc
  ·refine L2.ifF (by show (!decide (V.str ke.wd=V.str "piece"))=false;rw[nE,decide_eq_true hk];rfl) ?_;exact⟨sx,es,_,rfl,nt',ch⟩
  refine L2.ifT (by show (!decide (V.str ke.wd=V.str "piece"))=true;rw[nE,decide_eq_false hk];rfl) ?_;obtain⟨dn,hn⟩:=nt'.ob;refine⟨_,rfl,n,dn,_,rfl,hn,dM _ _ (by decide +kernel) (by decide +kernel),_,rfl,_,rfl,_,rfl,cell,(i:Int),rfl,by omega,by omega,fun pc=>?_⟩;refine⟨pc,5,41,rfl,by decide,by decide,by decide,fun y5 HH y50 y51 sH=>⟨_,_,rfl,rfl,?_⟩⟩;have b0:(3:Int)≠0:=by decide
  have le:=Mq.kZ (t:=y5 - 20) b0;have bT:Mq.B 10 (y5 - 20):=qY (by omega) (by omega);have bB:Mq.B 10 3:=qY (by omega) (by omega);refine⟨y5 - 20,3,10,rfl,b0,bB,by omega,fun zN HI sI eI=>?_⟩;have lp:=Mq.gU (t:=y5 - 20) b0;have bp:Mq.Bd 10 (Mq.red (y5 - 20) 3):=⟨bT.le le.1,bB.le le.2⟩
  have fI:Fq K HI zN (Mq.red (y5 - 20) 3):=Fq.of eI;generalize Mq.red (y5 - 20) 3=pN at lp bp fI;refine⟨n,l,zN,(M:Int),(i:Int),es,ke,ue,ve,pe,pN,rfl,nt'.same (sH.trans sI),by omega,by rw[Int.toNat_natCast];exact he,fI,lp,(fun z=>absurd z hk),bp.mono (by omega),fun HN sN ntN=>?_⟩;rw[Int.toNat_natCast] at ntN;exact⟨fun b o h nb=>sN b o ((sH.trans sI) b o (sx b o h nb)) nb,_,_,rfl,ntN,ch.set he hk lp bp⟩
 rintro σE HE ⟨sx,es,z8,rfl,ntE,CH⟩;have fl:∀x∈T,x.f≠l/\x.g≠l:=fun x hx=>⟨Ne.symm (aU el6 (hT x hx).2.2.bf),Ne.symm (aU el6 (hT x hx).2.2.bg)⟩
 have erE:=sx _ _ erD (Ne.symm nlr);have hRE:=dF.rts elD sx hRD;have eTE:=sx _ _ (sD _ _ eT) (Ne.symm (aU el6 hTl));have hTE:∀x∈T,rB K HE x:=fun x hx=>((hT x hx).1.same sD).x elD sx (fl x hx).1 (fl x hx).2;have DE:=DQ.chq CH;refine⟨_,rfl,Tl,rfl,⟨_,SqL.of eTE⟩,?_⟩;refine gB (xs:=T.map fun x=>V.ref x.t) (fun i σ H'=>∃(z6 z7 z9:Option V),σ=[some (.ref a),some (.int (M:Int)),some (.ref r),some (.ref n),some (.int cell),some (.ref Tl),z6,z7,z8,z9]/\H' Tl=some (.lst (T.map fun x=>V.ref x.t))/\H' r=some (.lst us)/\Rts K H' us ds/\eJ CN K H' n l (M:Int) es/\(∀x∈T,SqT K H' x.t [.int (x.k:Int),.ref x.f,.ref x.g])/\∀x∈T.drop i,rB K H' x) ⟨z6,z7,none,rfl,eTE,erE,hRE,ntE,(fun x hx=>(hTE x hx).tp),hTE⟩ (fun i σ H' _ h=>by obtain⟨_,_,_,_,e,_⟩:=h;exact SqL.of e) ?_ ?_
 ·rintro i w2 σ HF hw ⟨z6,z7,z9,rfl,eTF,erF,hRF,ntF,tpF,okF⟩;have hi:i < T.length:=by
   have:=(List.getElem?_eq_some_iff.mp hw).1
   rwa [List.length_map] at this
  obtain⟨x,hx,rfl⟩:∃x,T[i]?=some x/\w2=.ref x.t:=by
   rw[List.getElem?_map,List.getElem?_eq_getElem hi] at hw;exact⟨_,List.getElem?_eq_getElem hi,(Option.some.inj hw).symm⟩
  have xT:=List.mem_of_getElem? hx;have dr:T.drop i=x :: T.drop (i+1):=by
   rw[List.getElem?_eq_getElem hi] at hx;rw[<- Option.some.inj hx,List.getElem_cons_drop]
  have pw':∀y∈T.drop (i+1),x.f≠y.f/\x.f≠y.g:=by
   have:(T.drop i).Pairwise (fun x y=>x.f≠y.f/\x.f≠y.g):=pw.sublist (List.drop_sublist i T);rw[dr] at this;exact(List.pairwise_cons.mp this).1
  rw[dr] at okF;have ox:=okF x (List.mem_cons_self ..);obtain⟨zs,ef,Ff⟩:=ox.fl;obtain⟨ws,eg,Fg⟩:=ox.gl;have nx:=(hT x xT).2.2;have vx:=(hT x xT).2.1;have lz:=Ff.length;have lx:=vx.len;refine⟨x.t,_,rfl,ox.tp,rfl,_,_,rfl,_,_,rfl,_,_,rfl,rfl,?_⟩;refine⟨_,rfl,_,rfl,Ji (SqL.of ef) (SqL.of eg) Ff Fg ⟨_,rfl,eV ?_⟩⟩;refine⟨_,rfl,.inl ⟨rfl,_,SqL.of ef⟩,by show 2<=sizeLine;decide,fun t2 ht2=>?_⟩;have sG:=aH ht2 (.tup [.int 1,.int 1]);have eG:upd HF t2 (.tup [.int 1,.int 1]) t2=some (.tup [.int 1,.int 1]):=aB;generalize upd HF t2 (.tup [.int 1,.int 1])=HG at sG eG ⊢;have efG:=sG _ _ ef;refine⟨x.f,_,.ref t2,rfl,rfl,efG,bF (by omega),?_⟩;have sxf:dF x.f HG (upd HG x.f (.lst (zs++[.ref t2]))):=fun b o h nb=>by rw[bC nb];exact h
  generalize upd HG x.f (.lst (zs++[.ref t2]))=HH at sxf ⊢;have ntH:=(ntF.same sG).x efG sxf (Ne.symm (fl x xT).1);have erH:=sxf _ _ (sG _ _ erF) (aU er6 nx.bf);have hRH:=dF.rts efG sxf (hRF.same sG);have eTH:=sxf _ _ (sG _ _ eTF) (Ne.symm nx.ft);have egH:=sxf _ _ (sG _ _ eg) (Ne.symm nx.fg);have FgH:=dF.fqsL efG sxf (Fg.same sG);have tpH:∀y∈T,SqT K HH y.t [.int (y.k:Int),.ref y.f,.ref y.g]:=fun y hy=>dF.seqT efG sxf (sG.seqT (tpF y hy));have okH:∀y∈T.drop (i+1),rB K HH y:=fun y hy=>((okF y (List.mem_cons_of_mem _ hy)).same sG).x efG sxf (Ne.symm (pw' y hy).1) (Ne.symm (pw' y hy).2);obtain⟨v0,d,hd,_⟩:=vx.sv;obtain⟨e,he,hq⟩:=CH.at hd;refine⟨_,rfl,_,rfl,n,l,M,77,_,L,es,x.k,e,rfl,DE.net ntH,he,fun f2 zs2 hp2 v2 HI nfI sI eI FI lh lo OV SV hv=>?_⟩;have ehp:hp2=x.hp:=vx.uni DQ.o lo lh hd (by rw[<- Gf CH hq];exact Sv.chq CH SV) hv;rw[ehp] at FI;refine⟨_,rfl,Ji (SqL.of eI) (SqL.of (sI _ _ egH)) FI (FgH.same sI) ⟨_,rfl,eV ?_⟩⟩;exact⟨_,_,_,rfl,sI _ _ eTH,sI _ _ erH,hRH.same sI,ntH.same sI,(fun y hy=>sI.seqT (tpH y hy)),fun y hy=>(okH y hy).same sI⟩
 rintro σF HF ⟨z6,z7,z9,rfl,eTF,erF,hRF,ntF,tpF,_⟩;refine⟨_,rfl,_,rfl,_,rfl,_,rfl,Tl,rfl,⟨_,SqL.of eTF⟩,fun D hD=>?_⟩;have sDc:=aH hD (.lst []);refine dE (xs:=T.map fun x=>V.ref x.t) (fun i zs H'=>bG HF H'/\H' D=some (.lst zs)/\zs=((T.take i).map fun x=>(x.k:Int)).map V.int) ⟨sDc,aB,rfl⟩ (fun i zs H' h=>h.2.1) (fun i zs H' _ h=>h.1.seq (SqL.of eTF)) ?_ ?_
 ·rintro i zs w2 HG hw ⟨sG,eG,rfl⟩ C hC;have hi:i < T.length:=by
   have:=(List.getElem?_eq_some_iff.mp hw).1
   rwa [List.length_map] at this
  obtain⟨x,hx,rfl⟩:∃x,T[i]?=some x/\w2=.ref x.t:=by
   rw[List.getElem?_map,List.getElem?_eq_getElem hi] at hw;exact⟨_,List.getElem?_eq_getElem hi,(Option.some.inj hw).symm⟩
  refine⟨x.t,_,rfl,sG.seqT (tpF x (List.mem_of_getElem? hx)),rfl,_,_,rfl,_,_,rfl,_,_,rfl,rfl,Sn.1,Sn.2,fY ?_⟩;refine⟨_,rfl,eG,bF (by rw[List.length_map,List.length_map,List.length_take];omega),hC _ _ ⟨sG.change hD,aB,?_⟩⟩;rw[List.take_add_one,hx,List.map_append,List.map_append];rfl
 rintro zs HG ⟨sG,eG,rfl⟩;rw[List.length_map,List.take_length] at eG;obtain⟨tsF,elF,_⟩:=ntF.ls;refine⟨_,rfl,n,l,r,D,us,T.map fun x=>(x.k:Int),M,cell,L,ds,es,rfl,ntF.same sG,nlr,aU elF hD,sG _ _ erF,hRF.same sG,eG,fun k hk=>?_,by rw[List.length_map];omega,DQ,LB50,B7,CH,fun H'=>q H'⟩;obtain⟨x,hx,rfl⟩:=List.mem_map.mp hk;obtain⟨_,d,hd,_⟩:=(hT x hx).2.1.sv;have:=(List.getElem?_eq_some_iff.mp hd).1;exact⟨by omega,by omega⟩
end
end K72
namespace L2
open PySem PySem.W
theorem Mo {q:Program}{loose:List Str}{XP:(Str->Option Value)->Heap->Prop}{K:Params->PySem.W.Frag}{bs:List Addr}{n t:Nat}{r:RowW}{d:DefRec}{kwd:List (Str × Expr)}{run:Value->List Value->Sem Value}(e:∀P,bs=(K P).map (·.1))(h:WalkO q loose XP (fun w h=>(K w.params).In h) r d kwd run):WalkX q loose XP (PySem.W.X.obsZ bs) (PySem.W.X.valZ K n t) r d kwd run:=
 fun w s₀ s₁ mg mb G y a o pm cd doc dV kV h1 h2 h3 h4 h5 h6 args vals as' L=>h w s₀ s₁ mg mb G (InK.keeps w _ _ (PySem.W.X.z_facts e y).2.1 L.keeps) a o pm cd doc dV kV h1 h2 h3 h4 h5 h6 args vals as'
end L2
namespace K72
open PySem L2
theorem cU {us:List Value}(h:us.length=1):∃a,us=[a]:=match us,h with | [a],_=>⟨a,rfl⟩
theorem cJ {us:List Value}(h:us.length=2):∃a b,us=[a,b]:=match us,h with | [a,b],_=>⟨a,b,rfl⟩
theorem jZ {us:List Value}(h:us.length=3):∃a b c,us=[a,b,c]:=match us,h with | [a,b,c],_=>⟨a,b,c,rfl⟩
theorem iA {us:List Value}(h:us.length=4):∃a b c d,us=[a,b,c,d]:=match us,h with | [a,b,c,d],_=>⟨a,b,c,d,rfl⟩
theorem Og {us:List Value}(h:us.length=5):∃a b c d e,us=[a,b,c,d,e]:=match us,h with | [a,b,c,d,e],_=>⟨a,b,c,d,e,rfl⟩
theorem Sw {l:PySem.W.OpenLaw}{w:World}{K:PySem.W.Frag}{h:Heap}{mg:Str->Option Value}{fa:Addr}(X:K.In h)(G:h.Ns mainGlobals mg)(hfa:mg "law"=some (.ref fa)){c_Row:Addr}{c_Piece:Addr}{c_Push:Addr}{c_Hold:Addr}{c_Net:Addr}{f1:Addr}{od1 an1:Option Addr}{sl1:Array (Option Value)}{oc1 kV1 dc1 pm1 cd1 ct1:Value}{f2:Addr}{od2 an2:Option Addr}{sl2:Array (Option Value)}{oc2 kV2 dc2 pm2 cd2 ct2:Value}{f3:Addr}{od3 an3:Option Addr}{sl3:Array (Option Value)}{oc3 kV3 dc3 pm3 cd3 ct3:Value}{f4:Addr}{od4 an4:Option Addr}{sl4:Array (Option Value)}{oc4 kV4 dc4 pm4 cd4 ct4:Value}{T4:Addr}{oT4:Value}{dT4:Option Addr}{nT4:Nat}{sT4:Array (Option Value)}{tk4:Tok}{f5:Addr}{od5 an5:Option Addr}{sl5:Array (Option Value)}{oc5 kV5 dc5 pm5 cd5 ct5:Value}{f6:Addr}{od6 an6:Option Addr}{sl6:Array (Option Value)}{oc6 kV6 dc6 pm6 cd6 ct6:Value}{f7:Addr}{od7 an7:Option Addr}{sl7:Array (Option Value)}{oc7 kV7 dc7 pm7 cd7 ct7:Value}{f8:Addr}{od8 an8:Option Addr}{sl8:Array (Option Value)}{oc8 kV8 dc8 pm8 cd8 ct8:Value}{f9:Addr}{od9 an9:Option Addr}{sl9:Array (Option Value)}{oc9 kV9 dc9 pm9 cd9 ct9:Value}{f10:Addr}{od10 an10:Option Addr}{sl10:Array (Option Value)}{oc10 kV10 dc10 pm10 cd10 ct10:Value}{f11:Addr}{od11 an11:Option Addr}{sl11:Array (Option Value)}{oc11 kV11 dc11 pm11 cd11 ct11:Value}{f12:Addr}{od12 an12:Option Addr}{sl12:Array (Option Value)}{oc12 kV12 dc12 pm12 cd12 ct12:Value}{f13:Addr}{od13 an13:Option Addr}{sl13:Array (Option Value)}{oc13 kV13 dc13 pm13 cd13 ct13:Value}{f14:Addr}{od14 an14:Option Addr}{sl14:Array (Option Value)}{oc14 kV14 dc14 pm14 cd14 ct14:Value}{f15:Addr}{od15 an15:Option Addr}{sl15:Array (Option Value)}{oc15 kV15 dc15 pm15 cd15 ct15:Value}{f16:Addr}{od16 an16:Option Addr}{sl16:Array (Option Value)}{oc16 kV16 dc16 pm16 cd16 ct16:Value}{f17:Addr}{od17 an17:Option Addr}{sl17:Array (Option Value)}{oc17 kV17 dc17 pm17 cd17 ct17:Value}{f18:Addr}{od18 an18:Option Addr}{sl18:Array (Option Value)}{oc18 kV18 dc18 pm18 cd18 ct18:Value}{f19:Addr}{od19 an19:Option Addr}{sl19:Array (Option Value)}{oc19 kV19 dc19 pm19 cd19 ct19:Value}{f20:Addr}{od20 an20:Option Addr}{sl20:Array (Option Value)}{oc20 kV20 dc20 pm20 cd20 ct20:Value}{f21:Addr}{od21 an21:Option Addr}{sl21:Array (Option Value)}{oc21 kV21 dc21 pm21 cd21 ct21:Value}{f22:Addr}{od22 an22:Option Addr}{sl22:Array (Option Value)}{oc22 kV22 dc22 pm22 cd22 ct22:Value}{f23:Addr}{od23 an23:Option Addr}{sl23:Array (Option Value)}{oc23 kV23 dc23 pm23 cd23 ct23:Value}{f24:Addr}{od24 an24:Option Addr}{sl24:Array (Option Value)}{oc24 kV24 dc24 pm24 cd24 ct24:Value}{f25:Addr}{od25 an25:Option Addr}{sl25:Array (Option Value)}{oc25 kV25 dc25 pm25 cd25 ct25:Value}{f26:Addr}{od26 an26:Option Addr}{sl26:Array (Option Value)}{oc26 kV26 dc26 pm26 cd26 ct26:Value}{f27:Addr}{od27 an27:Option Addr}{sl27:Array (Option Value)}{oc27 kV27 dc27 pm27 cd27 ct27:Value}{f28:Addr}{od28 an28:Option Addr}{sl28:Array (Option Value)}{oc28 kV28 dc28 pm28 cd28 ct28:Value}{f29:Addr}{od29 an29:Option Addr}{sl29:Array (Option Value)}{oc29 kV29 dc29 pm29 cd29 ct29:Value}{f30:Addr}{od30 an30:Option Addr}{sl30:Array (Option Value)}{oc30 kV30 dc30 pm30 cd30 ct30:Value}{f31:Addr}{od31 an31:Option Addr}{sl31:Array (Option Value)}{oc31 kV31 dc31 pm31 cd31 ct31:Value}{f32:Addr}{od32 an32:Option Addr}{sl32:Array (Option Value)}{oc32 kV32 dc32 pm32 cd32 ct32:Value}{f33:Addr}{od33 an33:Option Addr}{sl33:Array (Option Value)}{oc33 kV33 dc33 pm33 cd33 ct33:Value}{f34:Addr}{od34 an34:Option Addr}{sl34:Array (Option Value)}{oc34 kV34 dc34 pm34 cd34 ct34:Value}{f35:Addr}{od35 an35:Option Addr}{sl35:Array (Option Value)}{oc35 kV35 dc35 pm35 cd35 ct35:Value}{T35:Addr}{oT35:Value}{dT35:Option Addr}{nT35:Nat}{sT35:Array (Option Value)}{f36:Addr}{od36 an36:Option Addr}{sl36:Array (Option Value)}{oc36 kV36 dc36 pm36 cd36 ct36:Value}{f37:Addr}{od37 an37:Option Addr}{sl37:Array (Option Value)}{oc37 kV37 dc37 pm37 cd37 ct37:Value}{f38:Addr}{od38 an38:Option Addr}{sl38:Array (Option Value)}{oc38 kV38 dc38 pm38 cd38 ct38:Value}{f39:Addr}{od39 an39:Option Addr}{sl39:Array (Option Value)}{oc39 kV39 dc39 pm39 cd39 ct39:Value}{f40:Addr}{od40 an40:Option Addr}{sl40:Array (Option Value)}{oc40 kV40 dc40 pm40 cd40 ct40:Value}{f41:Addr}{od41 an41:Option Addr}{sl41:Array (Option Value)}{oc41 kV41 dc41 pm41 cd41 ct41:Value}{f42:Addr}{od42 an42:Option Addr}{sl42:Array (Option Value)}{oc42 kV42 dc42 pm42 cd42 ct42:Value}{f43:Addr}{od43 an43:Option Addr}{sl43:Array (Option Value)}{oc43 kV43 dc43 pm43 cd43 ct43:Value}{f44:Addr}{od44 an44:Option Addr}{sl44:Array (Option Value)}{oc44 kV44 dc44 pm44 cd44 ct44:Value}{f45:Addr}{od45 an45:Option Addr}{sl45:Array (Option Value)}{oc45 kV45 dc45 pm45 cd45 ct45:Value}{f46:Addr}{od46 an46:Option Addr}{sl46:Array (Option Value)}{oc46 kV46 dc46 pm46 cd46 ct46:Value}{f47:Addr}{od47 an47:Option Addr}{sl47:Array (Option Value)}{oc47 kV47 dc47 pm47 cd47 ct47:Value}{f48:Addr}{od48 an48:Option Addr}{sl48:Array (Option Value)}{oc48 kV48 dc48 pm48 cd48 ct48:Value}{f49:Addr}{od49 an49:Option Addr}{sl49:Array (Option Value)}{oc49 kV49 dc49 pm49 cd49 ct49:Value}{f50:Addr}{od50 an50:Option Addr}{sl50:Array (Option Value)}{oc50 kV50 dc50 pm50 cd50 ct50:Value}{f51:Addr}{od51 an51:Option Addr}{sl51:Array (Option Value)}{oc51 kV51 dc51 pm51 cd51 ct51:Value}{f52:Addr}{od52 an52:Option Addr}{sl52:Array (Option Value)}{oc52 kV52 dc52 pm52 cd52 ct52:Value}{f53:Addr}{od53 an53:Option Addr}{sl53:Array (Option Value)}{oc53 kV53 dc53 pm53 cd53 ct53:Value}{f54:Addr}{od54 an54:Option Addr}{sl54:Array (Option Value)}{oc54 kV54 dc54 pm54 cd54 ct54:Value}{f55:Addr}{od55 an55:Option Addr}{sl55:Array (Option Value)}{oc55 kV55 dc55 pm55 cd55 ct55:Value}{f56:Addr}{od56 an56:Option Addr}{sl56:Array (Option Value)}{oc56 kV56 dc56 pm56 cd56 ct56:Value}{f57:Addr}{od57 an57:Option Addr}{sl57:Array (Option Value)}{oc57 kV57 dc57 pm57 cd57 ct57:Value}{f58:Addr}{od58 an58:Option Addr}{sl58:Array (Option Value)}{oc58 kV58 dc58 pm58 cd58 ct58:Value}{f59:Addr}{od59 an59:Option Addr}{sl59:Array (Option Value)}{oc59 kV59 dc59 pm59 cd59 ct59:Value}{f60:Addr}{od60 an60:Option Addr}{sl60:Array (Option Value)}{oc60 kV60 dc60 pm60 cd60 ct60:Value}{f61:Addr}{od61 an61:Option Addr}{sl61:Array (Option Value)}{oc61 kV61 dc61 pm61 cd61 ct61:Value}{f62:Addr}{od62 an62:Option Addr}{sl62:Array (Option Value)}{oc62 kV62 dc62 pm62 cd62 ct62:Value}{f63:Addr}{od63 an63:Option Addr}{sl63:Array (Option Value)}{oc63 kV63 dc63 pm63 cd63 ct63:Value}{f64:Addr}{od64 an64:Option Addr}{sl64:Array (Option Value)}{oc64 kV64 dc64 pm64 cd64 ct64:Value}{f65:Addr}{od65 an65:Option Addr}{sl65:Array (Option Value)}{oc65 kV65 dc65 pm65 cd65 ct65:Value}{f66:Addr}{od66 an66:Option Addr}{sl66:Array (Option Value)}{oc66 kV66 dc66 pm66 cd66 ct66:Value}{f67:Addr}{od67 an67:Option Addr}{sl67:Array (Option Value)}{oc67 kV67 dc67 pm67 cd67 ct67:Value}{f68:Addr}{od68 an68:Option Addr}{sl68:Array (Option Value)}{oc68 kV68 dc68 pm68 cd68 ct68:Value}{f69:Addr}{od69 an69:Option Addr}{sl69:Array (Option Value)}{oc69 kV69 dc69 pm69 cd69 ct69:Value}{aO:Addr}{dO:Option Addr}{nO:Nat}{sO:Array (Option Value)}{t2 t3:Tok}{aN:Addr}{dN:Option Addr}{nN:Nat}{sN:Array (Option Value)}{t0 t1:Tok}{aJ:Addr}{dJ:Option Addr}{nJ:Nat}{sJ:Array (Option Value)}{tj0 tj1:Tok}{tM:Tok}{tR:Tok}(y_Row:PySem.W.nsIn K mainGlobals "Row"=some (some (.ref c_Row)))(y_Piece:PySem.W.nsIn K mainGlobals "Piece"=some (some (.ref c_Piece)))(y_Push:PySem.W.nsIn K mainGlobals "Push"=some (some (.ref c_Push)))(y_Hold:PySem.W.nsIn K mainGlobals "Hold"=some (some (.ref c_Hold)))(y_Net:PySem.W.nsIn K mainGlobals "Net"=some (some (.ref c_Net)))(a1:PySem.W.nsIn K mainGlobals "is_whole"=some (some (.ref f1)))(l1:K.lookup f1=some ⟨oc1,od1,.func (PySem.W.fnOf "is_whole" "is_whole" (aR qO) (aL qO) (aE qO) .none kV1 dc1 pm1 an1 cd1 ct1),sl1⟩)(c1:PySem.W.codeIn K cd1 "is_whole"=true)(k1:PySem.W.keepIn K (.ref f1)=true)(a2:PySem.W.nsIn K mainGlobals "greatest_common"=some (some (.ref f2)))(l2:K.lookup f2=some ⟨oc2,od2,.func (PySem.W.fnOf "greatest_common" "greatest_common" (aR sGc) (aL sGc) (aE sGc) .none kV2 dc2 pm2 an2 cd2 ct2),sl2⟩)(c2:PySem.W.codeIn K cd2 "greatest_common"=true)(k2:PySem.W.keepIn K (.ref f2)=true)(a3:PySem.W.nsIn K mainGlobals "under"=some (some (.ref f3)))(l3:K.lookup f3=some ⟨oc3,od3,.func (PySem.W.fnOf "under" "under" (aR pU) (aL pU) (aE pU) .none kV3 dc3 pm3 an3 cd3 ct3),sl3⟩)(c3:PySem.W.codeIn K cd3 "under"=true)(k3:PySem.W.keepIn K (.ref f3)=true)(a4:PySem.W.nsIn K mainGlobals "fraction"=some (some (.ref f4)))(l4:K.lookup f4=some ⟨oc4,od4,.func (PySem.W.fnOf "fraction" "fraction" (aR kD) (aL kD) (aE kD) (.ref T4) kV4 dc4 pm4 an4 cd4 ct4),sl4⟩)(c4:PySem.W.codeIn K cd4 "fraction"=true)(k4:PySem.W.keepIn K (.ref f4)=true)(lt4:K.lookup T4=some ⟨oT4,dT4,.seq #[.int 1 tk4] nT4,sT4⟩)(a5:PySem.W.nsIn K mainGlobals "minus"=some (some (.ref f5)))(l5:K.lookup f5=some ⟨oc5,od5,.func (PySem.W.fnOf "minus" "minus" (aR pZ) (aL pZ) (aE pZ) .none kV5 dc5 pm5 an5 cd5 ct5),sl5⟩)(c5:PySem.W.codeIn K cd5 "minus"=true)(k5:PySem.W.keepIn K (.ref f5)=true)(a6:PySem.W.nsIn K mainGlobals "plus"=some (some (.ref f6)))(l6:K.lookup f6=some ⟨oc6,od6,.func (PySem.W.fnOf "plus" "plus" (aR vY) (aL vY) (aE vY) .none kV6 dc6 pm6 an6 cd6 ct6),sl6⟩)(c6:PySem.W.codeIn K cd6 "plus"=true)(k6:PySem.W.keepIn K (.ref f6)=true)(a7:PySem.W.nsIn K mainGlobals "over"=some (some (.ref f7)))(l7:K.lookup f7=some ⟨oc7,od7,.func (PySem.W.fnOf "over" "over" (aR wI) (aL wI) (aE wI) .none kV7 dc7 pm7 an7 cd7 ct7),sl7⟩)(c7:PySem.W.codeIn K cd7 "over"=true)(k7:PySem.W.keepIn K (.ref f7)=true)(a8:PySem.W.nsIn K mainGlobals "is_fraction"=some (some (.ref f8)))(l8:K.lookup f8=some ⟨oc8,od8,.func (PySem.W.fnOf "is_fraction" "is_fraction" (aR Ie) (aL Ie) (aE Ie) .none kV8 dc8 pm8 an8 cd8 ct8),sl8⟩)(c8:PySem.W.codeIn K cd8 "is_fraction"=true)(k8:PySem.W.keepIn K (.ref f8)=true)(a9_0:PySem.W.findIn K (.ref c_Piece) "__init__"=some (some (.ref f9)))(a9_1:PySem.W.findIn K (.ref c_Push) "__init__"=some (some (.ref f9)))(a9_2:PySem.W.findIn K (.ref c_Hold) "__init__"=some (some (.ref f9)))(i9:PySem.W.isFn K (.ref f9)=true)(l9:K.lookup f9=some ⟨oc9,od9,.func (PySem.W.fnOf "__init__" "Row.__init__" (aR qQ) (aL qQ) (aE qQ) .none kV9 dc9 pm9 an9 cd9 ct9),sl9⟩)(c9:PySem.W.codeIn K cd9 "Row.__init__"=true)(k9:PySem.W.keepIn K (.ref f9)=true)(a10_0:PySem.W.findIn K (.ref c_Piece) "word"=some (some (.ref f10)))(i10:PySem.W.isFn K (.ref f10)=true)(l10:K.lookup f10=some ⟨oc10,od10,.func (PySem.W.fnOf "word" "Piece.word" (aR jM) (aL jM) (aE jM) .none kV10 dc10 pm10 an10 cd10 ct10),sl10⟩)(c10:PySem.W.codeIn K cd10 "Piece.word"=true)(k10:PySem.W.keepIn K (.ref f10)=true)(a11_0:PySem.W.findIn K (.ref c_Push) "word"=some (some (.ref f11)))(i11:PySem.W.isFn K (.ref f11)=true)(l11:K.lookup f11=some ⟨oc11,od11,.func (PySem.W.fnOf "word" "Push.word" (aR jJ) (aL jJ) (aE jJ) .none kV11 dc11 pm11 an11 cd11 ct11),sl11⟩)(c11:PySem.W.codeIn K cd11 "Push.word"=true)(k11:PySem.W.keepIn K (.ref f11)=true)(a12_0:PySem.W.findIn K (.ref c_Hold) "word"=some (some (.ref f12)))(i12:PySem.W.isFn K (.ref f12)=true)(l12:K.lookup f12=some ⟨oc12,od12,.func (PySem.W.fnOf "word" "Hold.word" (aR jK) (aL jK) (aE jK) .none kV12 dc12 pm12 an12 cd12 ct12),sl12⟩)(c12:PySem.W.codeIn K cd12 "Hold.word"=true)(k12:PySem.W.keepIn K (.ref f12)=true)(a13_0:PySem.W.findIn K (.ref c_Piece) "joins"=some (some (.ref f13)))(i13:PySem.W.isFn K (.ref f13)=true)(l13:K.lookup f13=some ⟨oc13,od13,.func (PySem.W.fnOf "joins" "Piece.joins" (aR iE) (aL iE) (aE iE) .none kV13 dc13 pm13 an13 cd13 ct13),sl13⟩)(c13:PySem.W.codeIn K cd13 "Piece.joins"=true)(k13:PySem.W.keepIn K (.ref f13)=true)(a14_0:PySem.W.findIn K (.ref c_Push) "joins"=some (some (.ref f14)))(i14:PySem.W.isFn K (.ref f14)=true)(l14:K.lookup f14=some ⟨oc14,od14,.func (PySem.W.fnOf "joins" "Push.joins" (aR iD) (aL iD) (aE iD) .none kV14 dc14 pm14 an14 cd14 ct14),sl14⟩)(c14:PySem.W.codeIn K cd14 "Push.joins"=true)(k14:PySem.W.keepIn K (.ref f14)=true)(a15_0:PySem.W.findIn K (.ref c_Hold) "joins"=some (some (.ref f15)))(i15:PySem.W.isFn K (.ref f15)=true)(l15:K.lookup f15=some ⟨oc15,od15,.func (PySem.W.fnOf "joins" "Hold.joins" (aR iF) (aL iF) (aE iF) .none kV15 dc15 pm15 an15 cd15 ct15),sl15⟩)(c15:PySem.W.codeIn K cd15 "Hold.joins"=true)(k15:PySem.W.keepIn K (.ref f15)=true)(a16_0:PySem.W.findIn K (.ref c_Piece) "told"=some (some (.ref f16)))(a16_1:PySem.W.findIn K (.ref c_Push) "told"=some (some (.ref f16)))(a16_2:PySem.W.findIn K (.ref c_Hold) "told"=some (some (.ref f16)))(i16:PySem.W.isFn K (.ref f16)=true)(l16:K.lookup f16=some ⟨oc16,od16,.func (PySem.W.fnOf "told" "Row.told" (aR qH) (aL qH) (aE qH) .none kV16 dc16 pm16 an16 cd16 ct16),sl16⟩)(c16:PySem.W.codeIn K cd16 "Row.told"=true)(k16:PySem.W.keepIn K (.ref f16)=true)(a17:PySem.W.nsIn K mainGlobals "row_of"=some (some (.ref f17)))(l17:K.lookup f17=some ⟨oc17,od17,.func (PySem.W.fnOf "row_of" "row_of" (aR qD) (aL qD) (aE qD) .none kV17 dc17 pm17 an17 cd17 ct17),sl17⟩)(c17:PySem.W.codeIn K cd17 "row_of"=true)(k17:PySem.W.keepIn K (.ref f17)=true)(a18:PySem.W.nsIn K mainGlobals "is_piece_size"=some (some (.ref f18)))(l18:K.lookup f18=some ⟨oc18,od18,.func (PySem.W.fnOf "is_piece_size" "is_piece_size" (aR sPS) (aL sPS) (aE sPS) .none kV18 dc18 pm18 an18 cd18 ct18),sl18⟩)(c18:PySem.W.codeIn K cd18 "is_piece_size"=true)(k18:PySem.W.keepIn K (.ref f18)=true)(a19:PySem.W.nsIn K mainGlobals "is_number_below"=some (some (.ref f19)))(l19:K.lookup f19=some ⟨oc19,od19,.func (PySem.W.fnOf "is_number_below" "is_number_below" (aR sNB) (aL sNB) (aE sNB) .none kV19 dc19 pm19 an19 cd19 ct19),sl19⟩)(c19:PySem.W.codeIn K cd19 "is_number_below"=true)(k19:PySem.W.keepIn K (.ref f19)=true)(a20:PySem.W.nsIn K mainGlobals "refuse_size"=some (some (.ref f20)))(l20:K.lookup f20=some ⟨oc20,od20,.func (PySem.W.fnOf "refuse_size" "refuse_size" (aR sRS) (aL sRS) (aE sRS) .none kV20 dc20 pm20 an20 cd20 ct20),sl20⟩)(c20:PySem.W.codeIn K cd20 "refuse_size"=true)(k20:PySem.W.keepIn K (.ref f20)=true)(a21:PySem.W.nsIn K mainGlobals "refuse_points"=some (some (.ref f21)))(l21:K.lookup f21=some ⟨oc21,od21,.func (PySem.W.fnOf "refuse_points" "refuse_points" (aR sRP) (aL sRP) (aE sRP) .none kV21 dc21 pm21 an21 cd21 ct21),sl21⟩)(c21:PySem.W.codeIn K cd21 "refuse_points"=true)(k21:PySem.W.keepIn K (.ref f21)=true)(a22:PySem.W.nsIn K mainGlobals "refuse_number"=some (some (.ref f22)))(l22:K.lookup f22=some ⟨oc22,od22,.func (PySem.W.fnOf "refuse_number" "refuse_number" (aR sRN) (aL sRN) (aE sRN) .none kV22 dc22 pm22 an22 cd22 ct22),sl22⟩)(c22:PySem.W.codeIn K cd22 "refuse_number"=true)(k22:PySem.W.keepIn K (.ref f22)=true)(a23_0:PySem.W.findIn K (.ref c_Net) "__init__"=some (some (.ref f23)))(i23:PySem.W.isFn K (.ref f23)=true)(l23:K.lookup f23=some ⟨oc23,od23,.func (PySem.W.fnOf "__init__" "Net.__init__" (aR pS) (aL pS) (aE pS) .none kV23 dc23 pm23 an23 cd23 ct23),sl23⟩)(c23:PySem.W.codeIn K cd23 "Net.__init__"=true)(k23:PySem.W.keepIn K (.ref f23)=true)(a24_0:PySem.W.findIn K (.ref c_Net) "many"=some (some (.ref f24)))(i24:PySem.W.isFn K (.ref f24)=true)(l24:K.lookup f24=some ⟨oc24,od24,.func (PySem.W.fnOf "many" "Net.many" (aR vW) (aL vW) (aE vW) .none kV24 dc24 pm24 an24 cd24 ct24),sl24⟩)(c24:PySem.W.codeIn K cd24 "Net.many"=true)(k24:PySem.W.keepIn K (.ref f24)=true)(a25_0:PySem.W.findIn K (.ref c_Net) "count"=some (some (.ref f25)))(i25:PySem.W.isFn K (.ref f25)=true)(l25:K.lookup f25=some ⟨oc25,od25,.func (PySem.W.fnOf "count" "Net.count" (aR pH) (aL pH) (aE pH) .none kV25 dc25 pm25 an25 cd25 ct25),sl25⟩)(c25:PySem.W.codeIn K cd25 "Net.count"=true)(k25:PySem.W.keepIn K (.ref f25)=true)(a26_0:PySem.W.findIn K (.ref c_Net) "told"=some (some (.ref f26)))(i26:PySem.W.isFn K (.ref f26)=true)(l26:K.lookup f26=some ⟨oc26,od26,.func (PySem.W.fnOf "told" "Net.told" (aR qE) (aL qE) (aE qE) .none kV26 dc26 pm26 an26 cd26 ct26),sl26⟩)(c26:PySem.W.codeIn K cd26 "Net.told"=true)(k26:PySem.W.keepIn K (.ref f26)=true)(a27_0:PySem.W.findIn K (.ref c_Net) "add"=some (some (.ref f27)))(i27:PySem.W.isFn K (.ref f27)=true)(l27:K.lookup f27=some ⟨oc27,od27,.func (PySem.W.fnOf "add" "Net.add" (aR Iz) (aL Iz) (aE Iz) .none kV27 dc27 pm27 an27 cd27 ct27),sl27⟩)(c27:PySem.W.codeIn K cd27 "Net.add"=true)(k27:PySem.W.keepIn K (.ref f27)=true)(a28_0:PySem.W.findIn K (.ref c_Net) "change"=some (some (.ref f28)))(i28:PySem.W.isFn K (.ref f28)=true)(l28:K.lookup f28=some ⟨oc28,od28,.func (PySem.W.fnOf "change" "Net.change" (aR mE) (aL mE) (aE mE) .none kV28 dc28 pm28 an28 cd28 ct28),sl28⟩)(c28:PySem.W.codeIn K cd28 "Net.change"=true)(k28:PySem.W.keepIn K (.ref f28)=true)(a29_0:PySem.W.findIn K (.ref c_Net) "rows"=some (some (.ref f29)))(i29:PySem.W.isFn K (.ref f29)=true)(l29:K.lookup f29=some ⟨oc29,od29,.func (PySem.W.fnOf "rows" "Net.rows" (aR vX) (aL vX) (aE vX) .none kV29 dc29 pm29 an29 cd29 ct29),sl29⟩)(c29:PySem.W.codeIn K cd29 "Net.rows"=true)(k29:PySem.W.keepIn K (.ref f29)=true)(a30:PySem.W.nsIn K mainGlobals "joined"=some (some (.ref f30)))(l30:K.lookup f30=some ⟨oc30,od30,.func (PySem.W.fnOf "joined" "joined" (aR mB) (aL mB) (aE mB) .none kV30 dc30 pm30 an30 cd30 ct30),sl30⟩)(c30:PySem.W.codeIn K cd30 "joined"=true)(k30:PySem.W.keepIn K (.ref f30)=true)(a31:PySem.W.nsIn K mainGlobals "marks_of"=some (some (.ref f31)))(l31:K.lookup f31=some ⟨oc31,od31,.func (PySem.W.fnOf "marks_of" "marks_of" (aR pW) (aL pW) (aE pW) .none kV31 dc31 pm31 an31 cd31 ct31),sl31⟩)(c31:PySem.W.codeIn K cd31 "marks_of"=true)(k31:PySem.W.keepIn K (.ref f31)=true)(a32:PySem.W.nsIn K mainGlobals "floating"=some (some (.ref f32)))(l32:K.lookup f32=some ⟨oc32,od32,.func (PySem.W.fnOf "floating" "floating" (aR pG) (aL pG) (aE pG) .none kV32 dc32 pm32 an32 cd32 ct32),sl32⟩)(c32:PySem.W.codeIn K cd32 "floating"=true)(k32:PySem.W.keepIn K (.ref f32)=true)(a33:PySem.W.nsIn K mainGlobals "steps_from"=some (some (.ref f33)))(l33:K.lookup f33=some ⟨oc33,od33,.func (PySem.W.fnOf "steps_from" "steps_from" (aR qF) (aL qF) (aE qF) .none kV33 dc33 pm33 an33 cd33 ct33),sl33⟩)(c33:PySem.W.codeIn K cd33 "steps_from"=true)(k33:PySem.W.keepIn K (.ref f33)=true)(a34:PySem.W.nsIn K mainGlobals "way_along"=some (some (.ref f34)))(l34:K.lookup f34=some ⟨oc34,od34,.func (PySem.W.fnOf "way_along" "way_along" (aR Ja) (aL Ja) (aE Ja) .none kV34 dc34 pm34 an34 cd34 ct34),sl34⟩)(c34:PySem.W.codeIn K cd34 "way_along"=true)(k34:PySem.W.keepIn K (.ref f34)=true)(a35:PySem.W.nsIn K mainGlobals "rings"=some (some (.ref f35)))(l35:K.lookup f35=some ⟨oc35,od35,.func (PySem.W.fnOf "rings" "rings" (aR hJ) (aL hJ) (aE hJ) (.ref T35) kV35 dc35 pm35 an35 cd35 ct35),sl35⟩)(c35:PySem.W.codeIn K cd35 "rings"=true)(k35:PySem.W.keepIn K (.ref f35)=true)(lt35:K.lookup T35=some ⟨oT35,dT35,.seq #[.none] nT35,sT35⟩)(a36:PySem.W.nsIn K mainGlobals "raise_at"=some (some (.ref f36)))(l36:K.lookup f36=some ⟨oc36,od36,.func (PySem.W.fnOf "raise_at" "raise_at" (aR qK) (aL qK) (aE qK) .none kV36 dc36 pm36 an36 cd36 ct36),sl36⟩)(c36:PySem.W.codeIn K cd36 "raise_at"=true)(k36:PySem.W.keepIn K (.ref f36)=true)(a37:PySem.W.nsIn K mainGlobals "enter_stream"=some (some (.ref f37)))(l37:K.lookup f37=some ⟨oc37,od37,.func (PySem.W.fnOf "enter_stream" "enter_stream" (aR pT) (aL pT) (aE pT) .none kV37 dc37 pm37 an37 cd37 ct37),sl37⟩)(c37:PySem.W.codeIn K cd37 "enter_stream"=true)(k37:PySem.W.keepIn K (.ref f37)=true)(a38:PySem.W.nsIn K mainGlobals "enter_piece"=some (some (.ref f38)))(l38:K.lookup f38=some ⟨oc38,od38,.func (PySem.W.fnOf "enter_piece" "enter_piece" (aR lQ) (aL lQ) (aE lQ) .none kV38 dc38 pm38 an38 cd38 ct38),sl38⟩)(c38:PySem.W.codeIn K cd38 "enter_piece"=true)(k38:PySem.W.keepIn K (.ref f38)=true)(a39:PySem.W.nsIn K mainGlobals "enter_push"=some (some (.ref f39)))(l39:K.lookup f39=some ⟨oc39,od39,.func (PySem.W.fnOf "enter_push" "enter_push" (aR lP) (aL lP) (aE lP) .none kV39 dc39 pm39 an39 cd39 ct39),sl39⟩)(c39:PySem.W.codeIn K cd39 "enter_push"=true)(k39:PySem.W.keepIn K (.ref f39)=true)(a40:PySem.W.nsIn K mainGlobals "enter_hold"=some (some (.ref f40)))(l40:K.lookup f40=some ⟨oc40,od40,.func (PySem.W.fnOf "enter_hold" "enter_hold" (aR lH) (aL lH) (aE lH) .none kV40 dc40 pm40 an40 cd40 ct40),sl40⟩)(c40:PySem.W.codeIn K cd40 "enter_hold"=true)(k40:PySem.W.keepIn K (.ref f40)=true)(a41:PySem.W.nsIn K mainGlobals "equations"=some (some (.ref f41)))(l41:K.lookup f41=some ⟨oc41,od41,.func (PySem.W.fnOf "equations" "equations" (aR Ia) (aL Ia) (aE Ia) .none kV41 dc41 pm41 an41 cd41 ct41),sl41⟩)(c41:PySem.W.codeIn K cd41 "equations"=true)(k41:PySem.W.keepIn K (.ref f41)=true)(a42:PySem.W.nsIn K mainGlobals "in_wholes"=some (some (.ref f42)))(l42:K.lookup f42=some ⟨oc42,od42,.func (PySem.W.fnOf "in_wholes" "in_wholes" (aR sIW) (aL sIW) (aE sIW) .none kV42 dc42 pm42 an42 cd42 ct42),sl42⟩)(c42:PySem.W.codeIn K cd42 "in_wholes"=true)(k42:PySem.W.keepIn K (.ref f42)=true)(a43:PySem.W.nsIn K mainGlobals "pivot_place"=some (some (.ref f43)))(l43:K.lookup f43=some ⟨oc43,od43,.func (PySem.W.fnOf "pivot_place" "pivot_place" (aR Ij) (aL Ij) (aE Ij) .none kV43 dc43 pm43 an43 cd43 ct43),sl43⟩)(c43:PySem.W.codeIn K cd43 "pivot_place"=true)(k43:PySem.W.keepIn K (.ref f43)=true)(a44:PySem.W.nsIn K mainGlobals "cleared"=some (some (.ref f44)))(l44:K.lookup f44=some ⟨oc44,od44,.func (PySem.W.fnOf "cleared" "cleared" (aR Hv) (aL Hv) (aE Hv) .none kV44 dc44 pm44 an44 cd44 ct44),sl44⟩)(c44:PySem.W.codeIn K cd44 "cleared"=true)(k44:PySem.W.keepIn K (.ref f44)=true)(a45:PySem.W.nsIn K mainGlobals "cleared_rows"=some (some (.ref f45)))(l45:K.lookup f45=some ⟨oc45,od45,.func (PySem.W.fnOf "cleared_rows" "cleared_rows" (aR jD) (aL jD) (aE jD) .none kV45 dc45 pm45 an45 cd45 ct45),sl45⟩)(c45:PySem.W.codeIn K cd45 "cleared_rows"=true)(k45:PySem.W.keepIn K (.ref f45)=true)(a46:PySem.W.nsIn K mainGlobals "eliminated"=some (some (.ref f46)))(l46:K.lookup f46=some ⟨oc46,od46,.func (PySem.W.fnOf "eliminated" "eliminated" (aR wH) (aL wH) (aE wH) .none kV46 dc46 pm46 an46 cd46 ct46),sl46⟩)(c46:PySem.W.codeIn K cd46 "eliminated"=true)(k46:PySem.W.keepIn K (.ref f46)=true)(a47:PySem.W.nsIn K mainGlobals "solved"=some (some (.ref f47)))(l47:K.lookup f47=some ⟨oc47,od47,.func (PySem.W.fnOf "solved" "solved" (aR lW) (aL lW) (aE lW) .none kV47 dc47 pm47 an47 cd47 ct47),sl47⟩)(c47:PySem.W.codeIn K cd47 "solved"=true)(k47:PySem.W.keepIn K (.ref f47)=true)(a48:PySem.W.nsIn K mainGlobals "refuse_unanswered"=some (some (.ref f48)))(l48:K.lookup f48=some ⟨oc48,od48,.func (PySem.W.fnOf "refuse_unanswered" "refuse_unanswered" (aR Gs) (aL Gs) (aE Gs) .none kV48 dc48 pm48 an48 cd48 ct48),sl48⟩)(c48:PySem.W.codeIn K cd48 "refuse_unanswered"=true)(k48:PySem.W.keepIn K (.ref f48)=true)(a49:PySem.W.nsIn K mainGlobals "heights_by"=some (some (.ref f49)))(l49:K.lookup f49=some ⟨oc49,od49,.func (PySem.W.fnOf "heights_by" "heights_by" (aR Hw) (aL Hw) (aE Hw) .none kV49 dc49 pm49 an49 cd49 ct49),sl49⟩)(c49:PySem.W.codeIn K cd49 "heights_by"=true)(k49:PySem.W.keepIn K (.ref f49)=true)(a50:PySem.W.nsIn K mainGlobals "pushed_heights"=some (some (.ref f50)))(l50:K.lookup f50=some ⟨oc50,od50,.func (PySem.W.fnOf "pushed_heights" "pushed_heights" (aR Hk) (aL Hk) (aE Hk) .none kV50 dc50 pm50 an50 cd50 ct50),sl50⟩)(c50:PySem.W.codeIn K cd50 "pushed_heights"=true)(k50:PySem.W.keepIn K (.ref f50)=true)(a51:PySem.W.nsIn K mainGlobals "held_heights"=some (some (.ref f51)))(l51:K.lookup f51=some ⟨oc51,od51,.func (PySem.W.fnOf "held_heights" "held_heights" (aR Ha) (aL Ha) (aE Ha) .none kV51 dc51 pm51 an51 cd51 ct51),sl51⟩)(c51:PySem.W.codeIn K cd51 "held_heights"=true)(k51:PySem.W.keepIn K (.ref f51)=true)(a52:PySem.W.nsIn K mainGlobals "shape_of"=some (some (.ref f52)))(l52:K.lookup f52=some ⟨oc52,od52,.func (PySem.W.fnOf "shape_of" "shape_of" (aR pK) (aL pK) (aE pK) .none kV52 dc52 pm52 an52 cd52 ct52),sl52⟩)(c52:PySem.W.codeIn K cd52 "shape_of"=true)(k52:PySem.W.keepIn K (.ref f52)=true)(a53:PySem.W.nsIn K mainGlobals "_law_draw"=some (some (.ref f53)))(l53:K.lookup f53=some ⟨oc53,od53,.func (PySem.W.fnOf "_law_draw" "_law_draw" (aR wX) (aL wX) (aE wX) .none kV53 dc53 pm53 an53 cd53 ct53),sl53⟩)(c53:PySem.W.codeIn K cd53 "_law_draw"=true)(k53:PySem.W.keepIn K (.ref f53)=true)(a54:PySem.W.nsIn K mainGlobals "_law_mix"=some (some (.ref f54)))(l54:K.lookup f54=some ⟨oc54,od54,.func (PySem.W.fnOf "_law_mix" "_law_mix" (aR rE) (aL rE) (aE rE) .none kV54 dc54 pm54 an54 cd54 ct54),sl54⟩)(c54:PySem.W.codeIn K cd54 "_law_mix"=true)(k54:PySem.W.keepIn K (.ref f54)=true)(a55:PySem.W.nsIn K mainGlobals "_law_part"=some (some (.ref f55)))(l55:K.lookup f55=some ⟨oc55,od55,.func (PySem.W.fnOf "_law_part" "_law_part" (aR xD) (aL xD) (aE xD) .none kV55 dc55 pm55 an55 cd55 ct55),sl55⟩)(c55:PySem.W.codeIn K cd55 "_law_part"=true)(k55:PySem.W.keepIn K (.ref f55)=true)(a56:PySem.W.nsIn K mainGlobals "_law_lowest"=some (some (.ref f56)))(l56:K.lookup f56=some ⟨oc56,od56,.func (PySem.W.fnOf "_law_lowest" "_law_lowest" (aR lK) (aL lK) (aE lK) .none kV56 dc56 pm56 an56 cd56 ct56),sl56⟩)(c56:PySem.W.codeIn K cd56 "_law_lowest"=true)(k56:PySem.W.keepIn K (.ref f56)=true)(a57:PySem.W.nsIn K mainGlobals "_law_plus"=some (some (.ref f57)))(l57:K.lookup f57=some ⟨oc57,od57,.func (PySem.W.fnOf "_law_plus" "_law_plus" (aR pQ) (aL pQ) (aE pQ) .none kV57 dc57 pm57 an57 cd57 ct57),sl57⟩)(c57:PySem.W.codeIn K cd57 "_law_plus"=true)(k57:PySem.W.keepIn K (.ref f57)=true)(a58:PySem.W.nsIn K mainGlobals "_law_less"=some (some (.ref f58)))(l58:K.lookup f58=some ⟨oc58,od58,.func (PySem.W.fnOf "_law_less" "_law_less" (aR pV) (aL pV) (aE pV) .none kV58 dc58 pm58 an58 cd58 ct58),sl58⟩)(c58:PySem.W.codeIn K cd58 "_law_less"=true)(k58:PySem.W.keepIn K (.ref f58)=true)(a59:PySem.W.nsIn K mainGlobals "_law_by"=some (some (.ref f59)))(l59:K.lookup f59=some ⟨oc59,od59,.func (PySem.W.fnOf "_law_by" "_law_by" (aR Gp) (aL Gp) (aE Gp) .none kV59 dc59 pm59 an59 cd59 ct59),sl59⟩)(c59:PySem.W.codeIn K cd59 "_law_by"=true)(k59:PySem.W.keepIn K (.ref f59)=true)(a60:PySem.W.nsIn K mainGlobals "_law_told"=some (some (.ref f60)))(l60:K.lookup f60=some ⟨oc60,od60,.func (PySem.W.fnOf "_law_told" "_law_told" (aR vA) (aL vA) (aE vA) .none kV60 dc60 pm60 an60 cd60 ct60),sl60⟩)(c60:PySem.W.codeIn K cd60 "_law_told"=true)(k60:PySem.W.keepIn K (.ref f60)=true)(a61:PySem.W.nsIn K mainGlobals "_law_size"=some (some (.ref f61)))(l61:K.lookup f61=some ⟨oc61,od61,.func (PySem.W.fnOf "_law_size" "_law_size" (aR vL) (aL vL) (aE vL) .none kV61 dc61 pm61 an61 cd61 ct61),sl61⟩)(c61:PySem.W.codeIn K cd61 "_law_size"=true)(k61:PySem.W.keepIn K (.ref f61)=true)(a62:PySem.W.nsIn K mainGlobals "_law_net"=some (some (.ref f62)))(l62:K.lookup f62=some ⟨oc62,od62,.func (PySem.W.fnOf "_law_net" "_law_net" (aR pI) (aL pI) (aE pI) .none kV62 dc62 pm62 an62 cd62 ct62),sl62⟩)(c62:PySem.W.codeIn K cd62 "_law_net"=true)(k62:PySem.W.keepIn K (.ref f62)=true)(a63:PySem.W.nsIn K mainGlobals "_law_put"=some (some (.ref f63)))(l63:K.lookup f63=some ⟨oc63,od63,.func (PySem.W.fnOf "_law_put" "_law_put" (aR Hj) (aL Hj) (aE Hj) .none kV63 dc63 pm63 an63 cd63 ct63),sl63⟩)(c63:PySem.W.codeIn K cd63 "_law_put"=true)(k63:PySem.W.keepIn K (.ref f63)=true)(a64:PySem.W.nsIn K mainGlobals "_law_hanging"=some (some (.ref f64)))(l64:K.lookup f64=some ⟨oc64,od64,.func (PySem.W.fnOf "_law_hanging" "_law_hanging" (aR wP) (aL wP) (aE wP) .none kV64 dc64 pm64 an64 cd64 ct64),sl64⟩)(c64:PySem.W.codeIn K cd64 "_law_hanging"=true)(k64:PySem.W.keepIn K (.ref f64)=true)(a65:PySem.W.nsIn K mainGlobals "_law_held"=some (some (.ref f65)))(l65:K.lookup f65=some ⟨oc65,od65,.func (PySem.W.fnOf "_law_held" "_law_held" (aR wO) (aL wO) (aE wO) .none kV65 dc65 pm65 an65 cd65 ct65),sl65⟩)(c65:PySem.W.codeIn K cd65 "_law_held"=true)(k65:PySem.W.keepIn K (.ref f65)=true)(a66:PySem.W.nsIn K mainGlobals "_law_shaped"=some (some (.ref f66)))(l66:K.lookup f66=some ⟨oc66,od66,.func (PySem.W.fnOf "_law_shaped" "_law_shaped" (aR lU) (aL lU) (aE lU) .none kV66 dc66 pm66 an66 cd66 ct66),sl66⟩)(c66:PySem.W.codeIn K cd66 "_law_shaped"=true)(k66:PySem.W.keepIn K (.ref f66)=true)(a67:PySem.W.nsIn K mainGlobals "_law_some"=some (some (.ref f67)))(l67:K.lookup f67=some ⟨oc67,od67,.func (PySem.W.fnOf "_law_some" "_law_some" (aR vK) (aL vK) (aE vK) .none kV67 dc67 pm67 an67 cd67 ct67),sl67⟩)(c67:PySem.W.codeIn K cd67 "_law_some"=true)(k67:PySem.W.keepIn K (.ref f67)=true)(a68:PySem.W.nsIn K mainGlobals "_law_other_size"=some (some (.ref f68)))(l68:K.lookup f68=some ⟨oc68,od68,.func (PySem.W.fnOf "_law_other_size" "_law_other_size" (aR qC) (aL qC) (aE qC) .none kV68 dc68 pm68 an68 cd68 ct68),sl68⟩)(c68:PySem.W.codeIn K cd68 "_law_other_size"=true)(k68:PySem.W.keepIn K (.ref f68)=true)(a69:PySem.W.nsIn K mainGlobals "law"=some (some (.ref f69)))(l69:K.lookup f69=some ⟨oc69,od69,.func (PySem.W.fnOf "law" "law" (aR yT) (aL yT) (aE yT) .none kV69 dc69 pm69 an69 cd69 ct69),sl69⟩)(c69:PySem.W.codeIn K cd69 "law"=true)(k69:PySem.W.keepIn K (.ref f69)=true)(v_ONE:PySem.W.nsIn K mainGlobals "ONE"=some (some (.ref aO)))(v_NOUGHT:PySem.W.nsIn K mainGlobals "NOUGHT"=some (some (.ref aN)))(v_JOINING_WORDS:PySem.W.nsIn K mainGlobals "JOINING_WORDS"=some (some (.ref aJ)))(v_MOST_POINTS:PySem.W.nsIn K mainGlobals "MOST_POINTS"=some (some (.int 20 tM)))(v_MOST_ROWS:PySem.W.nsIn K mainGlobals "MOST_ROWS"=some (some (.int 40 tR)))(lO:K.lookup aO=some ⟨.type "tuple",dO,.seq #[.int 1 t2,.int 1 t3] nO,sO⟩)(lN:K.lookup aN=some ⟨.type "tuple",dN,.seq #[.int 0 t0,.int 1 t1] nN,sN⟩)(lJ:K.lookup aJ=some ⟨.type "tuple",dJ,.seq #[.str "piece" tj0,.str "hold" tj1] nJ,sJ⟩)(pg_Piece:PySem.W.plainGet K c_Piece Str.empty=true)(hd_Piece:PySem.W.hasDictIn K c_Piece=true)(po_Piece:PySem.W.plainOver K c_Piece=true)(sa_Piece:PySem.W.findIn K (.ref c_Piece) "__setattr__"=some (some (.builtin "object.__setattr__")))(mk_Piece:PySem.W.makesIn K c_Piece=true)(kc_Piece:PySem.W.keepIn K (.ref c_Piece)=true)(t1_Piece:PySem.W.findIn K (.ref c_Piece) "__class__"=some (some (.builtin "object.__class__")))(t4_Piece:PySem.W.mroIn K c_Piece (.type "object")=some true)(na_Piece_start:PySem.W.findIn K (.ref c_Piece) "start"=some none)(na_Piece_goal:PySem.W.findIn K (.ref c_Piece) "goal"=some none)(na_Piece_size:PySem.W.findIn K (.ref c_Piece) "size"=some none)(pg_Push:PySem.W.plainGet K c_Push Str.empty=true)(hd_Push:PySem.W.hasDictIn K c_Push=true)(po_Push:PySem.W.plainOver K c_Push=true)(sa_Push:PySem.W.findIn K (.ref c_Push) "__setattr__"=some (some (.builtin "object.__setattr__")))(mk_Push:PySem.W.makesIn K c_Push=true)(kc_Push:PySem.W.keepIn K (.ref c_Push)=true)(t1_Push:PySem.W.findIn K (.ref c_Push) "__class__"=some (some (.builtin "object.__class__")))(t4_Push:PySem.W.mroIn K c_Push (.type "object")=some true)(na_Push_start:PySem.W.findIn K (.ref c_Push) "start"=some none)(na_Push_goal:PySem.W.findIn K (.ref c_Push) "goal"=some none)(na_Push_size:PySem.W.findIn K (.ref c_Push) "size"=some none)(pg_Hold:PySem.W.plainGet K c_Hold Str.empty=true)(hd_Hold:PySem.W.hasDictIn K c_Hold=true)(po_Hold:PySem.W.plainOver K c_Hold=true)(sa_Hold:PySem.W.findIn K (.ref c_Hold) "__setattr__"=some (some (.builtin "object.__setattr__")))(mk_Hold:PySem.W.makesIn K c_Hold=true)(kc_Hold:PySem.W.keepIn K (.ref c_Hold)=true)(t1_Hold:PySem.W.findIn K (.ref c_Hold) "__class__"=some (some (.builtin "object.__class__")))(t4_Hold:PySem.W.mroIn K c_Hold (.type "object")=some true)(na_Hold_start:PySem.W.findIn K (.ref c_Hold) "start"=some none)(na_Hold_goal:PySem.W.findIn K (.ref c_Hold) "goal"=some none)(na_Hold_size:PySem.W.findIn K (.ref c_Hold) "size"=some none)(tt2:PySem.W.specialIn K (.builtin "object.__class__") "__get__"=some (some (.builtin "getset_descriptor.__get__")))(tt3:PySem.W.takesIn K (.builtin "object.__class__")=some true)(isR_Piece:PySem.W.kitOne K (.ref c_Piece) (.ref c_Row)=some true)(isR_Push:PySem.W.kitOne K (.ref c_Push) (.ref c_Row)=some true)(isR_Hold:PySem.W.kitOne K (.ref c_Hold) (.ref c_Row)=some true)(isK_Piece_Push:PySem.W.kitOne K (.ref c_Piece) (.ref c_Push)=some false)(isK_Piece_Hold:PySem.W.kitOne K (.ref c_Piece) (.ref c_Hold)=some false)(isK_Push_Piece:PySem.W.kitOne K (.ref c_Push) (.ref c_Piece)=some false)(isK_Push_Hold:PySem.W.kitOne K (.ref c_Push) (.ref c_Hold)=some false)(isK_Hold_Piece:PySem.W.kitOne K (.ref c_Hold) (.ref c_Piece)=some false)(isK_Hold_Push:PySem.W.kitOne K (.ref c_Hold) (.ref c_Push)=some false)(pg_Net:PySem.W.plainGet K c_Net Str.empty=true)(hd_Net:PySem.W.hasDictIn K c_Net=true)(po_Net:PySem.W.plainOver K c_Net=true)(sa_Net:PySem.W.findIn K (.ref c_Net) "__setattr__"=some (some (.builtin "object.__setattr__")))(mk_Net:PySem.W.makesIn K c_Net=true)(kc_Net:PySem.W.keepIn K (.ref c_Net)=true)(t1_Net:PySem.W.findIn K (.ref c_Net) "__class__"=some (some (.builtin "object.__class__")))(t4_Net:PySem.W.mroIn K c_Net (.type "object")=some true)(na_Net_point_count:PySem.W.findIn K (.ref c_Net) "point_count"=some none)(na_Net_kept:PySem.W.findIn K (.ref c_Net) "kept"=some none)(z1:PySem.W.nsIn K mainGlobals "isinstance"=some none)(z2:PySem.W.nsIn K mainGlobals "int"=some none)(z3:PySem.W.nsIn K mainGlobals "bool"=some none)(z4:PySem.W.nsIn K mainGlobals "abs"=some none)(z5:PySem.W.nsIn K mainGlobals "len"=some none)(z6:PySem.W.nsIn K mainGlobals "range"=some none)(z7:PySem.W.nsIn K mainGlobals "str"=some none)(z8:PySem.W.nsIn K mainGlobals "tuple"=some none)(z9:PySem.W.nsIn K mainGlobals "list"=some none)(z10:PySem.W.nsIn K mainGlobals "all"=some none)(z11:PySem.W.nsIn K mainGlobals "zip"=some none)(z12:PySem.W.nsIn K mainGlobals "enumerate"=some none)(z13:PySem.W.nsIn K mainGlobals "min"=some none) :
  ∃fd:FuncData,(∀(s:Shared) (v:Value),BindsTo s fd ⟨[v],[]⟩ [("_law_script",v)])/\∀base:Heap,K.In base->base.Ns mainGlobals mg->aQ l.prog w K mg base CX0 11 fa fd ["_law_script"] (Ef K):=by
 have e:=hfa.symm.trans (PySem.W.mg_of X G a69)
 cases e
 have mc_Row:=PySem.W.mg_of X G y_Row;have mc_Piece:=PySem.W.mg_of X G y_Piece;have mc_Push:=PySem.W.mg_of X G y_Push;have mc_Hold:=PySem.W.mg_of X G y_Hold;have mc_Net:=PySem.W.mg_of X G y_Net;have F1:=aV (st:=qO) l1 c1 k1;have m1:=PySem.W.mg_of X G a1;have b1:=F1.binds (ps:=["thing"]) fun _ _ _ _ _ _ us hl=>by obtain⟨_,rfl⟩:=cU hl;rfl
 have F2:=aV (st:=sGc) l2 c2 k2;have m2:=PySem.W.mg_of X G a2;have b2:=F2.binds (ps:=["one","other"]) fun _ _ _ _ _ _ us hl=>by obtain⟨_,_,rfl⟩:=cJ hl;rfl
 have F3:=aV (st:=pU) l3 c3 k3;have m3:=PySem.W.mg_of X G a3;have b3:=F3.binds (ps:=["one","other"]) fun _ _ _ _ _ _ us hl=>by obtain⟨_,_,rfl⟩:=cJ hl;rfl
 have F4:=aV (st:=kD) l4 c4 k4;have m4:=PySem.W.mg_of X G a4;have b4:aS K _ ["top","bottom"] []:=fun s us XX hl=>match us,hl with | [_,_],_=>PySem.W.binds_K (fd:=PySem.W.fnOf "fraction" "fraction" (aR kD) (aL kD) (aE kD) (.ref T4) kV4 dc4 pm4 an4 cd4 ct4) XX rfl lt4 rfl rfl rfl
 have bd4:aS K _ ["top","bottom"] [.int 1 tk4]:=fun s us XX hl=>match us,(show us.length=1 by simp at hl;omega) with | [_],_=>PySem.W.binds_K (fd:=PySem.W.fnOf "fraction" "fraction" (aR kD) (aL kD) (aE kD) (.ref T4) kV4 dc4 pm4 an4 cd4 ct4) XX rfl lt4 rfl rfl rfl
 have F5:=aV (st:=pZ) l5 c5 k5;have m5:=PySem.W.mg_of X G a5;have b5:=F5.binds (ps:=["one","other"]) fun _ _ _ _ _ _ us hl=>by obtain⟨_,_,rfl⟩:=cJ hl;rfl
 have F6:=aV (st:=vY) l6 c6 k6;have m6:=PySem.W.mg_of X G a6;have b6:=F6.binds (ps:=["one","other"]) fun _ _ _ _ _ _ us hl=>by obtain⟨_,_,rfl⟩:=cJ hl;rfl
 have F7:=aV (st:=wI) l7 c7 k7;have m7:=PySem.W.mg_of X G a7;have b7:=F7.binds (ps:=["one","other"]) fun _ _ _ _ _ _ us hl=>by obtain⟨_,_,rfl⟩:=cJ hl;rfl
 have F8:=aV (st:=Ie) l8 c8 k8;have m8:=PySem.W.mg_of X G a8;have b8:=F8.binds (ps:=["thing"]) fun _ _ _ _ _ _ us hl=>by obtain⟨_,rfl⟩:=cU hl;rfl
 have F9:=aV (st:=qQ) l9 c9 k9;have b9:=F9.binds (ps:=["self","start","goal","size"]) fun _ _ _ _ _ _ us hl=>by obtain⟨_,_,_,_,rfl⟩:=iA hl;rfl
 have F10:=aV (st:=jM) l10 c10 k10;have b10:=F10.binds (ps:=["self"]) fun _ _ _ _ _ _ us hl=>by obtain⟨_,rfl⟩:=cU hl;rfl
 have F11:=aV (st:=jJ) l11 c11 k11;have b11:=F11.binds (ps:=["self"]) fun _ _ _ _ _ _ us hl=>by obtain⟨_,rfl⟩:=cU hl;rfl
 have F12:=aV (st:=jK) l12 c12 k12;have b12:=F12.binds (ps:=["self"]) fun _ _ _ _ _ _ us hl=>by obtain⟨_,rfl⟩:=cU hl;rfl
 have F13:=aV (st:=iE) l13 c13 k13;have b13:=F13.binds (ps:=["self"]) fun _ _ _ _ _ _ us hl=>by obtain⟨_,rfl⟩:=cU hl;rfl
 have F14:=aV (st:=iD) l14 c14 k14;have b14:=F14.binds (ps:=["self"]) fun _ _ _ _ _ _ us hl=>by obtain⟨_,rfl⟩:=cU hl;rfl
 have F15:=aV (st:=iF) l15 c15 k15;have b15:=F15.binds (ps:=["self"]) fun _ _ _ _ _ _ us hl=>by obtain⟨_,rfl⟩:=cU hl;rfl
 have F16:=aV (st:=qH) l16 c16 k16;have b16:=F16.binds (ps:=["self"]) fun _ _ _ _ _ _ us hl=>by obtain⟨_,rfl⟩:=cU hl;rfl
 have F17:=aV (st:=qD) l17 c17 k17;have m17:=PySem.W.mg_of X G a17;have b17:=F17.binds (ps:=["told"]) fun _ _ _ _ _ _ us hl=>by obtain⟨_,rfl⟩:=cU hl;rfl
 have F18:=aV (st:=sPS) l18 c18 k18;have m18:=PySem.W.mg_of X G a18;have b18:=F18.binds (ps:=["thing"]) fun _ _ _ _ _ _ us hl=>by obtain⟨_,rfl⟩:=cU hl;rfl
 have F19:=aV (st:=sNB) l19 c19 k19;have m19:=PySem.W.mg_of X G a19;have b19:=F19.binds (ps:=["thing","bound"]) fun _ _ _ _ _ _ us hl=>by obtain⟨_,_,rfl⟩:=cJ hl;rfl
 have F20:=aV (st:=sRS) l20 c20 k20;have m20:=PySem.W.mg_of X G a20;have b20:=F20.binds (ps:=["word","size"]) fun _ _ _ _ _ _ us hl=>by obtain⟨_,_,rfl⟩:=cJ hl;rfl
 have F21:=aV (st:=sRP) l21 c21 k21;have m21:=PySem.W.mg_of X G a21;have b21:=F21.binds (ps:=["some","many"]) fun _ _ _ _ _ _ us hl=>by obtain⟨_,_,rfl⟩:=cJ hl;rfl
 have F22:=aV (st:=sRN) l22 c22 k22;have m22:=PySem.W.mg_of X G a22;have b22:=F22.binds (ps:=["k","count"]) fun _ _ _ _ _ _ us hl=>by obtain⟨_,_,rfl⟩:=cJ hl;rfl
 have F23:=aV (st:=pS) l23 c23 k23;have b23:=F23.binds (ps:=["self","many"]) fun _ _ _ _ _ _ us hl=>by obtain⟨_,_,rfl⟩:=cJ hl;rfl
 have F24:=aV (st:=vW) l24 c24 k24;have b24:=F24.binds (ps:=["self"]) fun _ _ _ _ _ _ us hl=>by obtain⟨_,rfl⟩:=cU hl;rfl
 have F25:=aV (st:=pH) l25 c25 k25;have b25:=F25.binds (ps:=["self"]) fun _ _ _ _ _ _ us hl=>by obtain⟨_,rfl⟩:=cU hl;rfl
 have F26:=aV (st:=qE) l26 c26 k26;have b26:=F26.binds (ps:=["self"]) fun _ _ _ _ _ _ us hl=>by obtain⟨_,rfl⟩:=cU hl;rfl
 have F27:=aV (st:=Iz) l27 c27 k27;have b27:=F27.binds (ps:=["self","row"]) fun _ _ _ _ _ _ us hl=>by obtain⟨_,_,rfl⟩:=cJ hl;rfl
 have F28:=aV (st:=mE) l28 c28 k28;have b28:=F28.binds (ps:=["self","k","size"]) fun _ _ _ _ _ _ us hl=>by obtain⟨_,_,_,rfl⟩:=jZ hl;rfl
 have F29:=aV (st:=vX) l29 c29 k29;have b29:=F29.binds (ps:=["self"]) fun _ _ _ _ _ _ us hl=>by obtain⟨_,rfl⟩:=cU hl;rfl
 have F30:=aV (st:=mB) l30 c30 k30;have m30:=PySem.W.mg_of X G a30;have b30:=F30.binds (ps:=["marks","row"]) fun _ _ _ _ _ _ us hl=>by obtain⟨_,_,rfl⟩:=cJ hl;rfl
 have F31:=aV (st:=pW) l31 c31 k31;have m31:=PySem.W.mg_of X G a31;have b31:=F31.binds (ps:=["net"]) fun _ _ _ _ _ _ us hl=>by obtain⟨_,rfl⟩:=cU hl;rfl
 have F32:=aV (st:=pG) l32 c32 k32;have m32:=PySem.W.mg_of X G a32;have b32:=F32.binds (ps:=["net"]) fun _ _ _ _ _ _ us hl=>by obtain⟨_,rfl⟩:=cU hl;rfl
 have F33:=aV (st:=qF) l33 c33 k33;have m33:=PySem.W.mg_of X G a33;have b33:=F33.binds (ps:=["rows","numbers","point"]) fun _ _ _ _ _ _ us hl=>by obtain⟨_,_,_,rfl⟩:=jZ hl;rfl
 have F34:=aV (st:=Ja) l34 c34 k34;have m34:=PySem.W.mg_of X G a34;have b34:=F34.binds (ps:=["rows","numbers","begin","end"]) fun _ _ _ _ _ _ us hl=>by obtain⟨_,_,_,_,rfl⟩:=iA hl;rfl
 have F35:=aV (st:=hJ) l35 c35 k35;have m35:=PySem.W.mg_of X G a35;have b35:aS K _ ["net","words"] []:=fun s us XX hl=>match us,hl with | [_,_],_=>PySem.W.binds_K (fd:=PySem.W.fnOf "rings" "rings" (aR hJ) (aL hJ) (aE hJ) (.ref T35) kV35 dc35 pm35 an35 cd35 ct35) XX rfl lt35 rfl rfl rfl
 have bd35:aS K _ ["net","words"] [.none]:=fun s us XX hl=>match us,(show us.length=1 by simp at hl;omega) with | [_],_=>PySem.W.binds_K (fd:=PySem.W.fnOf "rings" "rings" (aR hJ) (aL hJ) (aE hJ) (.ref T35) kV35 dc35 pm35 an35 cd35 ct35) XX rfl lt35 rfl rfl rfl
 have F36:=aV (st:=qK) l36 c36 k36;have m36:=PySem.W.mg_of X G a36;have b36:=F36.binds (ps:=["line","column","amount"]) fun _ _ _ _ _ _ us hl=>by obtain⟨_,_,_,rfl⟩:=jZ hl;rfl
 have F37:=aV (st:=pT) l37 c37 k37;have m37:=PySem.W.mg_of X G a37;have b37:=F37.binds (ps:=["matrix","row","column","amount"]) fun _ _ _ _ _ _ us hl=>by obtain⟨_,_,_,_,rfl⟩:=iA hl;rfl
 have F38:=aV (st:=lQ) l38 c38 k38;have m38:=PySem.W.mg_of X G a38;have b38:=F38.binds (ps:=["matrix","row"]) fun _ _ _ _ _ _ us hl=>by obtain⟨_,_,rfl⟩:=cJ hl;rfl
 have F39:=aV (st:=lP) l39 c39 k39;have m39:=PySem.W.mg_of X G a39;have b39:=F39.binds (ps:=["right","row"]) fun _ _ _ _ _ _ us hl=>by obtain⟨_,_,rfl⟩:=cJ hl;rfl
 have F40:=aV (st:=lH) l40 c40 k40;have m40:=PySem.W.mg_of X G a40;have b40:=F40.binds (ps:=["matrix","right","row","column"]) fun _ _ _ _ _ _ us hl=>by obtain⟨_,_,_,_,rfl⟩:=iA hl;rfl
 have F41:=aV (st:=Ia) l41 c41 k41;have m41:=PySem.W.mg_of X G a41;have b41:=F41.binds (ps:=["net"]) fun _ _ _ _ _ _ us hl=>by obtain⟨_,rfl⟩:=cU hl;rfl
 have F42:=aV (st:=sIW) l42 c42 k42;have m42:=PySem.W.mg_of X G a42;have b42:=F42.binds (ps:=["some"]) fun _ _ _ _ _ _ us hl=>by obtain⟨_,rfl⟩:=cU hl;rfl
 have F43:=aV (st:=Ij) l43 c43 k43;have m43:=PySem.W.mg_of X G a43;have b43:=F43.binds (ps:=["rows","rank","column"]) fun _ _ _ _ _ _ us hl=>by obtain⟨_,_,_,rfl⟩:=jZ hl;rfl
 have F44:=aV (st:=Hv) l44 c44 k44;have m44:=PySem.W.mg_of X G a44;have b44:=F44.binds (ps:=["row","upper","column","divisor"]) fun _ _ _ _ _ _ us hl=>by obtain⟨_,_,_,_,rfl⟩:=iA hl;rfl
 have F45:=aV (st:=jD) l45 c45 k45;have m45:=PySem.W.mg_of X G a45;have b45:=F45.binds (ps:=["rows","rank","column","divisor"]) fun _ _ _ _ _ _ us hl=>by obtain⟨_,_,_,_,rfl⟩:=iA hl;rfl
 have F46:=aV (st:=wH) l46 c46 k46;have m46:=PySem.W.mg_of X G a46;have b46:=F46.binds (ps:=["rows","width"]) fun _ _ _ _ _ _ us hl=>by obtain⟨_,_,rfl⟩:=cJ hl;rfl
 have F47:=aV (st:=lW) l47 c47 k47;have m47:=PySem.W.mg_of X G a47;have b47:=F47.binds (ps:=["matrix","right"]) fun _ _ _ _ _ _ us hl=>by obtain⟨_,_,rfl⟩:=cJ hl;rfl
 have F48:=aV (st:=Gs) l48 c48 k48;have m48:=PySem.W.mg_of X G a48;have b48:=F48.binds (ps:=["net"]) fun _ _ _ _ _ _ us hl=>by obtain⟨_,rfl⟩:=cU hl;rfl
 have F49:=aV (st:=Hw) l49 c49 k49;have m49:=PySem.W.mg_of X G a49;have b49:=F49.binds (ps:=["net","matrix","right"]) fun _ _ _ _ _ _ us hl=>by obtain⟨_,_,_,rfl⟩:=jZ hl;rfl
 have F50:=aV (st:=Hk) l50 c50 k50;have m50:=PySem.W.mg_of X G a50;have b50:=F50.binds (ps:=["net","start","goal"]) fun _ _ _ _ _ _ us hl=>by obtain⟨_,_,_,rfl⟩:=jZ hl;rfl
 have F51:=aV (st:=Ha) l51 c51 k51;have m51:=PySem.W.mg_of X G a51;have b51:=F51.binds (ps:=["net","k"]) fun _ _ _ _ _ _ us hl=>by obtain⟨_,_,rfl⟩:=cJ hl;rfl
 have F52:=aV (st:=pK) l52 c52 k52;have m52:=PySem.W.mg_of X G a52;have b52:=F52.binds (ps:=["net","k"]) fun _ _ _ _ _ _ us hl=>by obtain⟨_,_,rfl⟩:=cJ hl;rfl
 have F53:=aV (st:=wX) l53 c53 k53;have m53:=PySem.W.mg_of X G a53;have b53:=F53.binds (ps:=["_law_script","_law_k"]) fun _ _ _ _ _ _ us hl=>by obtain⟨_,_,rfl⟩:=cJ hl;rfl
 have F54:=aV (st:=rE) l54 c54 k54;have m54:=PySem.W.mg_of X G a54;have b54:=F54.binds (ps:=["_law_cell","_law_turn","_law_many"]) fun _ _ _ _ _ _ us hl=>by obtain⟨_,_,_,rfl⟩:=jZ hl;rfl
 have F55:=aV (st:=xD) l55 c55 k55;have m55:=PySem.W.mg_of X G a55;have b55:=F55.binds (ps:=["_law_cell","_law_k"]) fun _ _ _ _ _ _ us hl=>by obtain⟨_,_,rfl⟩:=cJ hl;rfl
 have F56:=aV (st:=lK) l56 c56 k56;have m56:=PySem.W.mg_of X G a56;have b56:=F56.binds (ps:=["_law_top","_law_bottom"]) fun _ _ _ _ _ _ us hl=>by obtain⟨_,_,rfl⟩:=cJ hl;rfl
 have F57:=aV (st:=pQ) l57 c57 k57;have m57:=PySem.W.mg_of X G a57;have b57:=F57.binds (ps:=["_law_one","_law_other"]) fun _ _ _ _ _ _ us hl=>by obtain⟨_,_,rfl⟩:=cJ hl;rfl
 have F58:=aV (st:=pV) l58 c58 k58;have m58:=PySem.W.mg_of X G a58;have b58:=F58.binds (ps:=["_law_one","_law_other"]) fun _ _ _ _ _ _ us hl=>by obtain⟨_,_,rfl⟩:=cJ hl;rfl
 have F59:=aV (st:=Gp) l59 c59 k59;have m59:=PySem.W.mg_of X G a59;have b59:=F59.binds (ps:=["_law_one","_law_other"]) fun _ _ _ _ _ _ us hl=>by obtain⟨_,_,rfl⟩:=cJ hl;rfl
 have F60:=aV (st:=vA) l60 c60 k60;have m60:=PySem.W.mg_of X G a60;have b60:=F60.binds (ps:=["_law_found","_law_due"]) fun _ _ _ _ _ _ us hl=>by obtain⟨_,_,rfl⟩:=cJ hl;rfl
 have F61:=aV (st:=vL) l61 c61 k61;have m61:=PySem.W.mg_of X G a61;have b61:=F61.binds (ps:=["_law_cell"]) fun _ _ _ _ _ _ us hl=>by obtain⟨_,rfl⟩:=cU hl;rfl
 have F62:=aV (st:=pI) l62 c62 k62;have m62:=PySem.W.mg_of X G a62;have b62:=F62.binds (ps:=["_law_many","_law_rows"]) fun _ _ _ _ _ _ us hl=>by obtain⟨_,_,rfl⟩:=cJ hl;rfl
 have F63:=aV (st:=Hj) l63 c63 k63;have m63:=PySem.W.mg_of X G a63;have b63:=F63.binds (ps:=["_law_rows","_law_cell","_law_word","_law_ends"]) fun _ _ _ _ _ _ us hl=>by obtain⟨_,_,_,_,rfl⟩:=iA hl;rfl
 have F64:=aV (st:=wP) l64 c64 k64;have m64:=PySem.W.mg_of X G a64;have b64:=F64.binds (ps:=["_law_script","_law_many","_law_most","_law_words"]) fun _ _ _ _ _ _ us hl=>by obtain⟨_,_,_,_,rfl⟩:=iA hl;rfl
 have F65:=aV (st:=wO) l65 c65 k65;have m65:=PySem.W.mg_of X G a65;have b65:=F65.binds (ps:=["_law_rows","_law_many"]) fun _ _ _ _ _ _ us hl=>by obtain⟨_,_,rfl⟩:=cJ hl;rfl
 have F66:=aV (st:=lU) l66 c66 k66;have m66:=PySem.W.mg_of X G a66;have b66:=F66.binds (ps:=["_law_rows","_law_many","_law_at","_law_found"]) fun _ _ _ _ _ _ us hl=>by obtain⟨_,_,_,_,rfl⟩:=iA hl;rfl
 have F67:=aV (st:=vK) l67 c67 k67;have m67:=PySem.W.mg_of X G a67;have b67:=F67.binds (ps:=["_law_rows","_law_cell"]) fun _ _ _ _ _ _ us hl=>by obtain⟨_,_,rfl⟩:=cJ hl;rfl
 have F68:=aV (st:=qC) l68 c68 k68;have m68:=PySem.W.mg_of X G a68;have b68:=F68.binds (ps:=["_law_net_here","_law_rows","_law_many","_law_asked","_law_cell"]) fun _ _ _ _ _ _ us hl=>by obtain⟨_,_,_,_,_,rfl⟩:=Og hl;rfl
 have F69:=aV (st:=yT) l69 c69 k69;have m69:=PySem.W.mg_of X G a69;have b69:=F69.binds (ps:=["_law_script"]) fun _ _ _ _ _ _ us hl=>by obtain⟨_,rfl⟩:=cU hl;rfl
 have mv_ONE:=PySem.W.mg_of X G v_ONE;have mv_NOUGHT:=PySem.W.mg_of X G v_NOUGHT;have mv_JOINING_WORDS:=PySem.W.mg_of X G v_JOINING_WORDS;have mv_MOST_POINTS:=PySem.W.mg_of X G v_MOST_POINTS;have mv_MOST_ROWS:=PySem.W.mg_of X G v_MOST_ROWS;have n_isinstance:=PySem.W.mg_none_of X G z1;have n_int:=PySem.W.mg_none_of X G z2;have n_bool:=PySem.W.mg_none_of X G z3;have n_abs:=PySem.W.mg_none_of X G z4;have n_len:=PySem.W.mg_none_of X G z5;have n_range:=PySem.W.mg_none_of X G z6;have n_str:=PySem.W.mg_none_of X G z7;have n_tuple:=PySem.W.mg_none_of X G z8;have n_list:=PySem.W.mg_none_of X G z9;have n_all:=PySem.W.mg_none_of X G z10;have n_zip:=PySem.W.mg_none_of X G z11;have n_enumerate:=PySem.W.mg_none_of X G z12;have n_min:=PySem.W.mg_none_of X G z13;refine⟨PySem.W.fnOf "law" "law" (aR yT) (aL yT) (aE yT) .none kV69 dc69 pm69 an69 cd69 ct69,fun s v=>.of_eq rfl,fun base _ _=>?_⟩;have bl:Bl mg:=⟨n_isinstance,n_int,n_bool,n_abs⟩
 have T:RT K mg c_Row (kd3 c_Piece c_Push c_Hold):=⟨jH ⟨pg_Piece,hd_Piece,po_Piece,sa_Piece⟩ ⟨pg_Push,hd_Push,po_Push,sa_Push⟩ ⟨pg_Hold,hd_Hold,po_Hold,sa_Hold⟩,jH na_Piece_start na_Push_start na_Hold_start,jH na_Piece_goal na_Push_goal na_Hold_goal,jH na_Piece_size na_Push_size na_Hold_size,jH t1_Piece t1_Push t1_Hold,tt2,tt3,jH t4_Piece t4_Push t4_Hold,jH isR_Piece isR_Push isR_Hold,jH (jH (sE _ _) isK_Piece_Push isK_Piece_Hold) (jH isK_Push_Piece (sE _ _) isK_Push_Hold) (jH isK_Hold_Piece isK_Hold_Push (sE _ _)),mc_Row,jH mc_Piece mc_Push mc_Hold⟩
 have fN:∀H,Fq K H aN (0,1):=Fq.mod lN;have fO:∀H,Fq K H aO (1,1):=Fq.mod lO;have fJ:∀H,SqT K H aJ [.str "piece",.str "hold"]:=fun H=>.inr ⟨_,_,_,lJ,rfl,rfl,(by show 2<=sizeLine;decide),.cons ⟨_,rfl⟩ (.cons ⟨_,rfl⟩ .nil)⟩;have NTx:NT K mg c_Net:=⟨⟨pg_Net,hd_Net,po_Net,sa_Net⟩,na_Net_point_count,na_Net_kept,t1_Net,tt2,tt3,t4_Net,mc_Net⟩
 have R1:=Lz (P:=l.prog) (w:=w) (K:=K) (mg:=mg) (base:=base) (CX:=CX0) F1 bl;have R2:=Wf (P:=l.prog) (w:=w) (K:=K) (mg:=mg) (base:=base) (CX:=CX0) F2 bl;have R3:=Nm (P:=l.prog) (w:=w) (K:=K) (mg:=mg) (base:=base) (CX:=CX0) F3;have R4:=Rl (P:=l.prog) (w:=w) (K:=K) (mg:=mg) (base:=base) (CX:=CX0) F4  R1 b1 k1 m1 R2 b2 k2 m2;have R5:=Ko (P:=l.prog) (w:=w) (K:=K) (mg:=mg) (base:=base) (CX:=CX0) F5  R4 b4 k4 m4;have R6:=Oj (P:=l.prog) (w:=w) (K:=K) (mg:=mg) (base:=base) (CX:=CX0) F6  R4 b4 k4 m4;have R7:=Rg (P:=l.prog) (w:=w) (K:=K) (mg:=mg) (base:=base) (CX:=CX0) F7  R4 b4 k4 m4;have R8:=Tt (P:=l.prog) (w:=w) (K:=K) (mg:=mg) (base:=base) (CX:=CX0) F8 bl n_len n_tuple R1 b1 k1 m1 R2 b2 k2 m2;have R9:=Nv (P:=l.prog) (w:=w) (K:=K) (mg:=mg) (base:=base) (CX:=CX0) F9 T;have R10:=Cu (P:=l.prog) (w:=w) (K:=K) (mg:=mg) (base:=base) (CX:=CX0) F10;have R11:=Ch (P:=l.prog) (w:=w) (K:=K) (mg:=mg) (base:=base) (CX:=CX0) F11;have R12:=Az (P:=l.prog) (w:=w) (K:=K) (mg:=mg) (base:=base) (CX:=CX0) F12;have GW:∀k,aQ l.prog w K mg base CX0 1 (kd3 f10 f11 f12 k) (kd3 _ _ _ k) ["self"] (jV k):=jH (R10) (R11) (R12);have bW:∀k,aS K (kd3 _ _ _ k) ["self"] []:=jH (b10) (b11) (b12);have mW:∀k,gH K (kd3 c_Piece c_Push c_Hold k) "word" (kd3 f10 f11 f12 k):=jH (⟨a10_0,i10,k10⟩) (⟨a11_0,i11,k11⟩) (⟨a12_0,i12,k12⟩);have R13:=Ad (P:=l.prog) (w:=w) (K:=K) (mg:=mg) (base:=base) (CX:=CX0) F13;have R14:=Af (P:=l.prog) (w:=w) (K:=K) (mg:=mg) (base:=base) (CX:=CX0) F14;have R15:=zL (P:=l.prog) (w:=w) (K:=K) (mg:=mg) (base:=base) (CX:=CX0) F15;have GJ:∀k,aQ l.prog w K mg base CX0 1 (kd3 f13 f14 f15 k) (kd3 _ _ _ k) ["self"] (oH k):=jH (R13) (R14) (R15);have bJ:∀k,aS K (kd3 _ _ _ k) ["self"] []:=jH (b13) (b14) (b15);have mJ:∀k,gH K (kd3 c_Piece c_Push c_Hold k) "joins" (kd3 f13 f14 f15 k):=jH (⟨a13_0,i13,k13⟩) (⟨a14_0,i14,k14⟩) (⟨a15_0,i15,k15⟩);have R16:=Mz (P:=l.prog) (w:=w) (K:=K) (mg:=mg) (base:=base) (CX:=CX0) F16 T GW bW mW;have mT:∀k,gH K (kd3 c_Piece c_Push c_Hold k) "told" f16:=jH (⟨a16_0,i16,k16⟩) (⟨a16_1,i16,k16⟩) (⟨a16_2,i16,k16⟩);have MK:∀k,Mk K (kd3 c_Piece c_Push c_Hold k) f9:=jH (⟨mk_Piece,a9_0,i9,kc_Piece⟩) (⟨mk_Push,a9_1,i9,kc_Push⟩) (⟨mk_Hold,a9_2,i9,kc_Hold⟩);have R17:=Lu (P:=l.prog) (w:=w) (K:=K) (mg:=mg) (base:=base) (CX:=CX0) F17 T bl n_str R9 b9 MK;have R18:=Xi (P:=l.prog) (w:=w) (K:=K) (mg:=mg) (base:=base) (CX:=CX0) F18 fN mv_NOUGHT (zO R8) b8 k8 m8 R3 b3 k3 m3;have R19:=Wo (P:=l.prog) (w:=w) (K:=K) (mg:=mg) (base:=base) (CX:=CX0) F19  R1 b1 k1 m1;have R20:=Xa (P:=l.prog) (w:=w) (K:=K) (mg:=mg) (base:=base) (CX:=CX0) F20 (zO R8) b8 k8 m8 R18 b18 k18 m18;have R21:=Xm (P:=l.prog) (w:=w) (K:=K) (mg:=mg) (base:=base) (CX:=CX0) F21 n_all R19 b19 k19 m19;have R22:=Xu (P:=l.prog) (w:=w) (K:=K) (mg:=mg) (base:=base) (CX:=CX0) F22  R19 b19 k19 m19;have R23:=Kp (P:=l.prog) (w:=w) (K:=K) (mg:=mg) (base:=base) (CX:=CX0) F23 NTx mv_MOST_POINTS R1 b1 k1 m1;have R24:=Oo (P:=l.prog) (w:=w) (K:=K) (mg:=mg) (base:=base) (CX:=CX0) F24 NTx;have R25:=Kb (P:=l.prog) (w:=w) (K:=K) (mg:=mg) (base:=base) (CX:=CX0) F25 NTx n_len;have R26:=Mv (P:=l.prog) (w:=w) (K:=K) (mg:=mg) (base:=base) (CX:=CX0) F26 NTx n_list;have R27:=Ue (P:=l.prog) (w:=w) (K:=K) (mg:=mg) (base:=base) (CX:=CX0) F27 NTx mv_MOST_ROWS n_len T R16 b16 mT R21 b21 k21 m21 R20 b20 k20 m20;have R28:=Go (P:=l.prog) (w:=w) (K:=K) (mg:=mg) (base:=base) (CX:=CX0) F28 NTx n_len R22 b22 k22 m22 R20 b20 k20 m20;have R29:=Qr (P:=l.prog) (w:=w) (K:=K) (mg:=mg) (base:=base) (CX:=CX0) F29 NTx R17 b17 k17 m17;have MN:Mk K c_Net f23:=⟨mk_Net,a23_0,i23,kc_Net⟩
 have R30:=Ip (P:=l.prog) (w:=w) (K:=K) (mg:=mg) (base:=base) (CX:=CX0) F30 T;have R31:=Jl (P:=l.prog) (w:=w) (K:=K) (mg:=mg) (base:=base) (CX:=CX0) F31 n_list n_range NTx T GJ bJ mJ R24 b24 ⟨a24_0,i24,k24⟩ R29 b29 ⟨a29_0,i29,k29⟩ R30 b30 k30 m30;have R32:=Lq (P:=l.prog) (w:=w) (K:=K) (mg:=mg) (base:=base) (CX:=CX0) F32 n_enumerate R31 b31 k31 m31;have R33:=Ml (P:=l.prog) (w:=w) (K:=K) (mg:=mg) (base:=base) (CX:=CX0) F33 T;have R34:=Tg (P:=l.prog) (w:=w) (K:=K) (mg:=mg) (base:=base) (CX:=CX0) F34 n_len R33 b33 k33 m33;have R35:=Np (P:=l.prog) (w:=w) (K:=K) (mg:=mg) (base:=base) (CX:=CX0) F35 NTx T n_enumerate fJ mv_JOINING_WORDS GW bW mW R29 b29 ⟨a29_0,i29,k29⟩ R34 b34 k34 m34;have R36:=Kl (P:=l.prog) (w:=w) (K:=K) (mg:=mg) (base:=base) (CX:=CX0) F36  R6 b6 k6 m6;have R37:=Kf (P:=l.prog) (w:=w) (K:=K) (mg:=mg) (base:=base) (CX:=CX0) F37 T fN mv_NOUGHT R36 b36 k36 m36 R5 b5 k5 m5;have R38:=Id (P:=l.prog) (w:=w) (K:=K) (mg:=mg) (base:=base) (CX:=CX0) F38 T fN mv_NOUGHT fO mv_ONE R7 b7 k7 m7 R37 b37 k37 m37 R5 b5 k5 m5;have R39:=Hc (P:=l.prog) (w:=w) (K:=K) (mg:=mg) (base:=base) (CX:=CX0) F39 T fN mv_NOUGHT R36 b36 k36 m36 R5 b5 k5 m5;have R40:=Iw (P:=l.prog) (w:=w) (K:=K) (mg:=mg) (base:=base) (CX:=CX0) F40 T fN mv_NOUGHT fO mv_ONE R37 b37 k37 m37 R36 b36 k36 m36 R5 b5 k5 m5;have R41:=Su (P:=l.prog) (w:=w) (K:=K) (mg:=mg) (base:=base) (CX:=CX0) F41 NTx T n_len n_range fN mv_NOUGHT GW bW mW R29 b29 ⟨a29_0,i29,k29⟩ R24 b24 ⟨a24_0,i24,k24⟩ R38 b38 k38 m38 R39 b39 k39 m39 R40 b40 k40 m40;have R42:=Wx (P:=l.prog) (w:=w) (K:=K) (mg:=mg) (base:=base) (CX:=CX0) F42  R2 b2 k2 m2;have R43:=Tb (P:=l.prog) (w:=w) (K:=K) (mg:=mg) (base:=base) (CX:=CX0) F43 n_len n_range;have R44:=Tc (P:=l.prog) (w:=w) (K:=K) (mg:=mg) (base:=base) (CX:=CX0) F44 n_zip;have R45:=Cc (P:=l.prog) (w:=w) (K:=K) (mg:=mg) (base:=base) (CX:=CX0) F45 n_enumerate R44 b44 k44 m44;have R46:=Qs (P:=l.prog) (w:=w) (K:=K) (mg:=mg) (base:=base) (CX:=CX0) F46 n_range n_list R43 b43 k43 m43 R45 b45 k45 m45;have R47:=Ht (P:=l.prog) (w:=w) (K:=K) (mg:=mg) (base:=base) (CX:=CX0) F47 n_len n_zip R42 b42 k42 m42 R46 b46 k46 m46 R4 b4 k4 m4;have R48:=Ul (P:=l.prog) (w:=w) (K:=K) (mg:=mg) (base:=base) (CX:=CX0) F48 n_len R35 b35 k35 m35 R32 b32 k32 m32;have R49:=Uf (P:=l.prog) (w:=w) (K:=K) (mg:=mg) (base:=base) (CX:=CX0) F49 NTx fN mv_NOUGHT R24 b24 ⟨a24_0,i24,k24⟩ R47 b47 k47 m47;have R50:=Th (P:=l.prog) (w:=w) (K:=K) (mg:=mg) (base:=base) (CX:=CX0) F50 T n_len fN mv_NOUGHT fO mv_ONE R9 b9 MK R41 b41 k41 m41 R39 b39 k39 m39 R49 b49 k49 m49;have R51:=Uv (P:=l.prog) (w:=w) (K:=K) (mg:=mg) (base:=base) (CX:=CX0) F51 NTx T n_len fN mv_NOUGHT fO mv_ONE GW bW mW R24 b24 ⟨a24_0,i24,k24⟩ R29 b29 ⟨a29_0,i29,k29⟩ R41 b41 k41 m41 R49 b49 k49 m49;have R52:=Kh (P:=l.prog) (w:=w) (K:=K) (mg:=mg) (base:=base) (CX:=CX0) F52 NTx T GW bW mW R25 b25 ⟨a25_0,i25,k25⟩ R29 b29 ⟨a29_0,i29,k29⟩ R22 b22 k22 m22 R48 b48 k48 m48 R51 b51 k51 m51 R50 b50 k50 m50;have R53:=Rc (P:=l.prog) (w:=w) (K:=K) (mg:=mg) (base:=base) (CX:=CX0) F53;have R54:=Ta (P:=l.prog) (w:=w) (K:=K) (mg:=mg) (base:=base) (CX:=CX0) F54 n_range;have R55:=Pb (P:=l.prog) (w:=w) (K:=K) (mg:=mg) (base:=base) (CX:=CX0) F55 n_range;have R56:=Gi (P:=l.prog) (w:=w) (K:=K) (mg:=mg) (base:=base) (CX:=CX0) F56 bl;have R57:=Jq (P:=l.prog) (w:=w) (K:=K) (mg:=mg) (base:=base) (CX:=CX0) F57  R56 b56 k56 m56;have R58:=Jy (P:=l.prog) (w:=w) (K:=K) (mg:=mg) (base:=base) (CX:=CX0) F58  R56 b56 k56 m56;have R59:=So (P:=l.prog) (w:=w) (K:=K) (mg:=mg) (base:=base) (CX:=CX0) F59  R56 b56 k56 m56;have R60:=Od (P:=l.prog) (w:=w) (K:=K) (mg:=mg) (base:=base) (CX:=CX0) F60 bl n_len n_tuple;have R61:=Po (P:=l.prog) (w:=w) (K:=K) (mg:=mg) (base:=base) (CX:=CX0) F61  R54 b54 k54 m54 R56 b56 k56 m56;have R62:=Jr (P:=l.prog) (w:=w) (K:=K) (mg:=mg) (base:=base) (CX:=CX0) F62 NTx R27 b27 ⟨a27_0,i27,k27⟩ R23 b23 MN R17 b17 k17 m17;have R63:=Tv (P:=l.prog) (w:=w) (K:=K) (mg:=mg) (base:=base) (CX:=CX0) F63 n_len R54 b54 k54 m54 R56 b56 k56 m56 R61 b61 k61 m61;have R64:=Re (P:=l.prog) (w:=w) (K:=K) (mg:=mg) (base:=base) (CX:=CX0) F64 n_range n_len R53 b53 k53 m53 R54 b54 k54 m54 R63 b63 k63 m63;have R65:=Qt (P:=l.prog) (w:=w) (K:=K) (mg:=mg) (base:=base) (CX:=CX0) F65 n_list n_range;have R66:=Gq (P:=l.prog) (w:=w) (K:=K) (mg:=mg) (base:=base) (CX:=CX0) F66 bl n_len n_list n_all n_range R60 b60 k60 m60 R65 b65 k65 m65 R58 b58 k58 m58 R57 b57 k57 m57 R59 b59 k59 m59;have R67:=Qh (P:=l.prog) (w:=w) (K:=K) (mg:=mg) (base:=base) (CX:=CX0) F67 n_len n_range n_min R54 b54 k54 m54 R55 b55 k55 m55;have R68:=Kv (P:=l.prog) (w:=w) (K:=K) (mg:=mg) (base:=base) (CX:=CX0) F68 NTx n_len n_range n_all R28 b28 ⟨a28_0,i28,k28⟩ R54 b54 k54 m54 R56 b56 k56 m56 R66 b66 k66 m66 R52 b52 k52 m52;exact Uk (P:=l.prog) (w:=w) (K:=K) (mg:=mg) (base:=base) (CX:=CX0) F69 NTx n_len n_range n_list R26 b26 ⟨a26_0,i26,k26⟩ R28 b28 ⟨a28_0,i28,k28⟩ R53 b53 k53 m53 R64 b64 k64 m64 R54 b54 k54 m54 R62 b62 k62 m62 R67 b67 k67 m67 R52 b52 k52 m52 R66 b66 k66 m66 R56 b56 k56 m56 R55 b55 k55 m55 R68 b68 k68 m68
theorem Yr {l:PySem.W.OpenLaw}{q:Program}{loose:List Str}{XP:(Str->Option Value)->Heap->Prop}{YP:World->Heap->Prop}{d:DefRec}{K:Params->PySem.W.Frag}(hn:l.most=some 63)(hdf:d.params.defaults=[])(hY:∀(w:World) (h:Heap),YP w h->(K w.params).In h)(F:∀(w:World) (mg:Str->Option Value) (fa:Addr) (h:Heap),(K w.params).In h->h.Ns mainGlobals mg->mg d.name=some (.ref fa)->
   ∃fd:FuncData,(∀(s:Shared) (u:Value),BindsTo s fd ⟨[u],[]⟩ [("_law_script",u)])/\∀base:Heap,(K w.params).In base->base.Ns mainGlobals mg->aQ l.prog w (K w.params) mg base CX0 11 fa fd ["_law_script"] (Ef (K w.params))) :
  PySem.W.WalkO q loose XP YP l.row.toRowW d [] (fun f vs=>PySem.call f vs):=
 L2.Ra (n:=63) (k:=11) (x:="_law_script") (CX:=fun _=>CX0) (sp:=fun w=>Ef (K w.params)) hn (by decide) hdf ⟨rfl,by decide,by decide⟩ hY F (fun _ _ a ns hl _ hS=>⟨a,ns,rfl,hS,hl,fun _=>rfl⟩) fun _ _ _ _ _ z=>z
end K72
namespace PySem.W.Fast
def tw10326150873235533042:=0
def tw7384640842265828288:=0
def tw11881332663375596194:=0
def tw7321665389162408928:=0
def tw17452471482633143036:=0
def tw4947603026937917108:=0
def tw3989834733366064153:=0
def tw3465215184909338013:=0
def tw18349405747523378885:=0
def tw6775591090067168933:=0
def tw12974271844053107580:=0
def tw11410533702628982125:=0
def tw15879505826213494734:=0
def tw3531041403179508286:=0
def tw12376022308708165595:=0
def tw15028667334696820685:=0
def tw6660209253708546545:=0
def tw5164189856588060299:=0
def tw602216616515253834:=0
def tw403321110811627719:=0
def tw1813611128668212428:=0
def tw12997078862606132948:=0
def tw15742633128195943304:=0
def tw13872498160580430663:=0
def tw12177905781240192664:=0
def tw5312268158906931903:=0
def tw11842873700399911336:=0
def tw4055878242067610221:=0
def tw2627557876628326485:=0
def tw17703740070249637919:=0
def tw5572997355160291404:=0
def tw17114554381993877490:=0
def tw14142341161846473913:=0
def tw17275685638089923443:=0
def tw9788540844951209844:=0
def tw1124500824214874434:=0
def tw18178067766062626575:=0
def tw1800758961530595441:=0
def tw4205529000853676958:=0
def tw17356553742472375539:=0
def tw6986364974855262300:=0
def tw17031019402772436331:=0
def tw4873767688383565124:=0
def tw8406473345859581658:=0
def tw1836997394023094626:=0
def tw13465661068681291534:=0
def tw1407727386185489141:=0
def tw17728471866150960299:=0
def tw16707123004641878296:=0
def tw12319190768620623571:=0
def tw7088166442594378228:=0
def tw8051649504741311798:=0
def tw1563848818054552413:=0
def tw6461046958918037564:=0
def tw17178239128860956330:=0
def tw10125218172182190897:=0
def tw10251078864879827981:=0
def tw16718529100227612513:=0
def tw160766769278301759:=0
def tw5613752097602443287:=0
def tw17699075162828746827:=0
def tw18182132047780505011:=0
def tw8616709020541752746:=0
def tw4459957251512593323:=0
def tw4937063327222540043:=0
def tw11245052422954668795:=0
def tw4214868644006331429:=0
def tw4581633866069148695:=0
def tw3897021443433120286:=0
def tw3078991891472443172:=0
def tw16003329053550788055:=0
def tw15850471735492810617:=0
def tw18423166552979014451:=0
def tw11382478762334592381:=0
def tw1588517894413142991:=0
def tw12360600436799111389:=0
def tw4516935568274651523:=0
def tw7679865974246069305:=0
def tw9684039370435739368:=0
def tw10669743648165747066:=0
def tw8144641673359065813:=0
def tw6691428384458769815:=0
def tw16738916883607825358:=0
def tw10020381710716164323:=0
def tw5466818503790819583:=0
def tw11121726974985633749:=0
def tw9129067769314049678:=0
def tw17089197504565426369:=0
def tw15210584860788165887:=0
def tw17469093935188715277:=0
def tw16934497260621028953:=0
def tw16574553830826548360:=0
def tw13683982058651549332:=0
def tw12829234789090672837:=0
def tw11763850003503378259:=0
def tw18409331480382852235:=0
def tw13583339397349709053:=0
def tw8099407722544807266:=0
def tw6588809392699953546:=0
def tw2681559859028033053:=0
def tw5344040174195231703:=0
def tw8231508323721292386:=0
def tw9526446919268291085:=0
def tw6880066698965684848:=0
def tw15350587449120187538:=0
def tw15955225160540562425:=0
def tw18208768544138734004:=0
def tw12714632484556849456:=0
def tw15095290806089462818:=0
def tw12193136354564687099:=0
def tw17374787820391513775:=0
def tw11996729692726244792:=0
def tw13866886514341300647:=0
def tw10590167078822809768:=0
def tw4112151707604360037:=0
def tw6529037706954979541:=0
def tw6807235335650533573:=0
def tw17578476077819511614:=0
def tw12859326152143449226:=0
def tw14938914123520048157:=0
def tw9529695273642780440:=0
def tw401307732690806061:=0
def tw9021044277820073796:=0
def tw4665789173771043045:=0
def tw14561245095100281757:=0
def tw9089228045425205209:=0
def tw2442260039010356815:=0
def tw1138758168529200220:=0
def tw13421634044499397724:=0
def tw9914395935975063864:=0
def tw5227313940570909894:=0
def tw3295635466812666467:=0
def tw17852435560943422309:=0
def tw6871472202454034806:=0
def tw6340337471485246325:=0
def tw13942797582842563533:=0
def tw13276362166836138513:=0
def tw2268517189979029346:=0
def tw6570840588954141230:=0
def tw17825942293963554601:=0
def tw4035558782756402689:=0
def tw1267619363941031533:=0
def tw5903223340229968334:=0
def tw10701334384504260426:=0
def tw9178178910684215747:=0
def tw4878911994370214621:=0
def tw7711095172230165692:=0
def tw806208342222032255:=0
def tw7263465701957213637:=0
def tw1280881040837655468:=0
def tw5664182592032125746:=0
def tw4736480897032266786:=0
def tw11682156287970233887:=0
def tw12851453167692877229:=0
def tw3231879430487929052:=0
def tw16129979398179175571:=0
def tw3516894949716123574:=0
def tw8007391385868212344:=0
def tw10270324783984400270:=0
def tw3643210432301088128:=0
def tw15083541022269551112:=0
def tw6998980489655337458:=0
def tw350865877838176008:=0
def tw840335786525286619:=0
def tw18198985581683788448:=0
def tw14411521152389031010:=0
def tw17277595858713283887:=0
def tw17009443025927729981:=0
def tw858748946584155929:=0
def tw14388248493540059743:=0
def tw12842966453131665920:=0
def tw13092644172585408092:=0
def tw12212080632855699471:=0
def tw8797718084838550100:=0
def tw4285000019700741566:=0
def tw7308022711181314436:=0
def tw5098833670035663627:=0
def tw9861836964569704858:=0
def tw804304958601965193:=0
def tw12528097945319924073:=0
def tw389125066168096479:=0
def tw17253457960196850597:=0
def tw15205452350783220298:=0
def tw15729464888614764873:=0
def tw9339586895973589970:=0
def tw14339840957526542148:=0
def tw16793213558466136967:=0
def tw9080772073028516085:=0
def tw11699072990069240837:=0
def tw1148013420593750054:=0
def tw13259836935404289867:=0
def tw5767426833895503214:=0
def tw2288578436158737188:=0
def tw7369450205121481828:=0
def tw11835219742607725122:=0
def tw16121435572668701225:=0
def tw3413886436614668999:=0
def tw13634952581255321072:=0
def tw16057580838278134269:=0
def tw13475731817943041964:=0
def tw5345857065989324970:=0
def tw15100949876954964363:=0
def tw6426439897785108527:=0
def tw13636554395886219768:=0
def tw722293777973219414:=0
def tw8792927299230533715:=0
def tw15220526034787292170:=0
def tw7975595573747896986:=0
def tw4518708672131872912:=0
def tw2564923817311602992:=0
def tw13413194646127218811:=0
def tw7502512804323539779:=0
def tw9865676213896613449:=0
def tw2492164338653678096:=0
def tw5248859396680143675:=0
def tw14862952209288532601:=0
def tw22181716318446580:=0
def tw1332488806265563499:=0
def tw3432026950971597369:=0
def tw4169051063281552190:=0
def tw6001669891650149298:=0
def tw357455586173307208:=0
def tw5748402130996499888:=0
def tw4645338675075807073:=0
def tw1711319355562322849:=0
def tw16067570222150671344:=0
def tw16064402956845912739:=0
def tw9641471623796911927:=0
def tw2577435737123912914:=0
def tw46788361256280596:=0
def tw5256131463973128811:=0
def tw13153976954754466467:=0
def tw16687290643573511306:=0
def tw4321320054641974860:=0
def tw8844368905079199356:=0
def tw6414432379432721591:=0
def tw13418119398912280531:=0
def tw8622683878336879442:=0
def tw866402338010551356:=0
def tw107430833465695196:=0
def tw17140888573287600394:=0
def tw9076108118757462792:=0
def tw11387755666209952576:=0
def tw13631424278198827025:=0
def tw2857514184157616449:=0
def tw6734582162017852185:=0
def tw2701289636767007171:=0
def tw12036509998539767426:=0
def tw17286915077269682338:=0
def tw6115104425538100381:=0
def tw11803823164694769011:=0
def tw3341579290954280338:=0
def tw18069756097212914839:=0
def tw3445917811135764480:=0
def tw3764756321832029328:=0
def tw8412614146196618016:=0
def tw3424557276160925491:=0
def tw2374807458578277760:=0
def tw12869999898000682118:=0
def tw7237065245281206121:=0
def tw5227488335375456503:=0
def tw16581650001056190218:=0
def tw15863661695982434984:=0
def tw2064720343322050216:=0
def tw1922563134090711883:=0
def tw2966951183149417808:=0
def tw10540589340290591734:=0
def tw14624194474782805089:=0
def tw13970368642889593834:=0
def tw824811159177757281:=0
def tw2752081105076978896:=0
def tw17994573974867567551:=0
def tw5929880885114612727:=0
def tw11392121821397490895:=0
def tw13083687602101617692:=0
def tw2143783595578936685:=0
def tw5720127284401588901:=0
def tw1863648686939353697:=0
def tw17227074894793571477:=0
def tw6320829401937670314:=0
def tw3108298851273890603:=0
def tw9969109110778142306:=0
def tw3922516784017730492:=0
def tw17595245443937607821:=0
def tw12550804074940210977:=0
def tw8683098029251930755:=0
def tw3298168889021896991:=0
def tw13067800986084684729:=0
def tw3940702731153038446:=0
def tw12768952866297578921:=0
def tw18126198326217864767:=0
def tw6298152513702901467:=0
def tw5541947079675669587:=0
def tw7174333085122669472:=0
def tw13309720296731143372:=0
def tw11109106026541501341:=0
def tw3127661124405366764:=0
def tw12897249407522152383:=0
def tw11764883000342616489:=0
def tw755251353715080375:=0
def tw849960304131060:=0
def tw3948251924576399630:=0
def tw14524937107713843065:=0
def tw2854752212116393225:=0
def tw2742585821143783163:=0
def tw997333012905468710:=0
def tw12063626788804101058:=0
def tw2331809864217085874:=0
def tw9340710690366453316:=0
def tw14016208246811307382:=0
def tw17642117632830031092:=0
def tw16805073145586136517:=0
def tw2048285946441385178:=0
def tw17215092188394858509:=0
def tw16572236006808086807:=0
def tw14896417000212793051:=0
def tw13198035643044027991:=0
def tw17908759205950454039:=0
def tw9396681698151399917:=0
def tw8427538036329405498:=0
def tw6418754705068690863:=0
def tw15918815012320364649:=0
def tw1393234455118464557:=0
def tw10324427769405847618:=0
def tw3373380409450016535:=0
def tw14637515530193144768:=0
def tw1388387672480107917:=0
def tw9047036275095091708:=0
def tw4526572766966116420:=0
def tw6344103204857235793:=0
def tw3678559778114156871:=0
def tw15867525059777761489:=0
def tw5830327477398012953:=0
def tw4849703315357673763:=0
def tw7377270032511998067:=0
def tw15133806820629574164:=0
def tw15251779677466448423:=0
def tw1202854578647402800:=0
def tw15384019282622736792:=0
def tw13423406930648997838:=0
def tw13787655422078934994:=0
def tw8553301063897029516:=0
def tw3074241890708135591:=0
def tw399537769267103601:=0
def tw13205623049248043532:=0
def tw8028974806059383425:=0
def tw17842390412373635898:=0
def tw14395950764707114363:=0
def tw15363836947293335202:=0
def tw6673249826227381025:=0
def tw7007032692115384200:=0
def tw4775699384173857:=0
def tw9831908039758624121:=0
def tw13254770097008550096:=0
def tw8825916204918603596:=0
def tw16434235117554835132:=0
def tw10805602031730404242:=0
def tw11841924496545020007:=0
def tw7499627979085054267:=0
def tw16587888611750711266:=0
def tw4409622164278497506:=0
def tw15133748209342632528:=0
def tw12294395960728387974:=0
def tw9741676513749692874:=0
def tw13969915584578114184:=0
def tw4540433741950830257:=0
def tw14193250446039223308:=0
def tw5516335790126755052:=0
def tw4621951435879508884:=0
def tw5063980769992228656:=0
def tw4437581802381987081:=0
def tw8441238531274136775:=0
def tw12374527044581904150:=0
def tw692739844873688310:=0
def tw6454549544761336239:=0
def tw17852397246368958287:=0
def tw7111255150493061096:=0
def tw9033904405682396613:=0
def tw6125616935159327380:=0
def tw9444812640285103786:=0
def tw9490460806838384806:=0
def tw8348869254753270777:=0
def tw7726785385942056375:=0
def tw17894437240335592236:=0
def tw10420039153510056026:=0
def tw15020910708541406942:=0
def tw8430262383696155460:=0
def tw8605794188837268898:=0
def tw7983001894960129478:=0
def tw321250919424869854:=0
def tw8071331437837385728:=0
def tw6640864554847646320:=0
def tw10368006296612912486:=0
def tw17000739848034127135:=0
def tw10724117504254102134:=0
def tw13990691941721756067:=0
def tw5532507140554805056:=0
def tw17606110848412677242:=0
def tw18029706415129144906:=0
def tw15659994431362042414:=0
def tw6561563281507864664:=0
def tw7747711156728504727:=0
def tw12696173350513847209:=0
def tw17768793611097157072:=0
def tw13743446254329356924:=0
def tw10353519348485175643:=0
def tw15379852347714649363:=0
def tw16082933912517055877:=0
def tw17839069480837678782:=0
def tw5152721463015160631:=0
def tw4563652983181907475:=0
def tw2966398977806458455:=0
def tw9947499024573132689:=0
def tw12039443953854061016:=0
def tw14897756836713755227:=0
def tw504436651318203816:=0
def tw12920147203018192424:=0
def tw14858627535354548643:=0
def tw6770715957423070909:=0
def tw3989368193027070448:=0
def tw9995943232790453325:=0
def tw1362455349983129245:=0
def tw742438100271990087:=0
def tw13987809448374943579:=0
def tw7546639998040318044:=0
def tw10834058422558536109:=0
def tw746360477142354824:=0
def tw6002198948552582926:=0
def tw3855052360204652015:=0
def tw13870939906239849104:=0
def tw2073399032699533594:=0
def tw15713302418999931738:=0
def tw1936759509172124308:=0
def tw6529060387396569187:=0
def tw9836517181248425472:=0
def tw798288111892098734:=0
def tw5888718076077171082:=0
def tw6151658642217763668:=0
def tw3287836174859965007:=0
def tw15158272922887475235:=0
def tw7127195425072184569:=0
def tw12872016439189631127:=0
def tw838669823896992186:=0
def tw15061072599300077678:=0
def tw17914767500086966956:=0
def tw5077414785620485021:=0
def tw9416294130556491079:=0
def tw1360079580757893361:=0
def tw6942482839119711175:=0
def tw9999474003192249693:=0
def tw15744224292014783256:=0
def tw9842339838427220756:=0
def tw14284512072350678552:=0
def tw3411462549157213545:=0
def tw11932383349265314884:=0
def tw7852874449831100100:=0
def tw10048522605524394078:=0
def tw12066577081603109367:=0
def tw10075668474596574702:=0
def tw640231129898849963:=0
def tw14458619768039837638:=0
def tw13711980512108753298:=0
def tw6036523016490224390:=0
def tw15923201057275930851:=0
def tw3593006524426669331:=0
def tw1600523105505860101:=0
def tw1566983575197018064:=0
def tw10769944461423172317:=0
def tw4835105532651327064:=0
def tw6633925667142080001:=0
def tw7180725094440109865:=0
def tw17934747605002525213:=0
def tw15045534694204393835:=0
def tw3507544223412171792:=0
def tw18194864566105517529:=0
def tw4472097835020121694:=0
def tw14901178041449047367:=0
def tw7627112420923874821:=0
def tw15747806231540478474:=0
def tw15004611030493330834:=0
def tw15935123729158620645:=0
def tw8299555841933213451:=0
def tw13844321965900706857:=0
def tw14589359585716770045:=0
def tw17292115044564065761:=0
def tw18094879288537489021:=0
def tw15876506268603304631:=0
def tw14260388924828681974:=0
def tw7713689052083108429:=0
def tw13938294681359529399:=0
def tw16301354469689559727:=0
def tw14281108565789227114:=0
def tw9941661591910486290:=0
def tw13336629511319390035:=0
def tw4324295219425977690:=0
def tw14974012377059803472:=0
def tw1841772695707461163:=0
def tw3157691520006818214:=0
def tw14296194849794611793:=0
def tw14902129627816119651:=0
def tw12470536374238738464:=0
def tw15858063024898431412:=0
def tw11584344197306137091:=0
def tw11279658746892036563:=0
def tw10930917217480434788:=0
def tw2375803288046122467:=0
def tw17295904380275917651:=0
def tw6025144371658776235:=0
def tw9128648296240848987:=0
def tw9107153666681626373:=0
def tw10555120479216380295:=0
def tw844260783075184033:=0
def tw6821354142597091939:=0
def tw5129856163024940713:=0
def tw16304259091199002780:=0
def tw9122831614330888537:=0
def tw17853980440386920707:=0
def tw13276569727833053637:=0
def tw10800032931746895341:=0
def tw15550568851366601404:=0
def tw4162536266846145902:=0
def tw9268867705651565529:=0
def tw16428915487528198429:=0
def tw17412632397486868293:=0
def tw13857879934143759714:=0
def tw11851867634848185461:=0
def tw9538788763036092660:=0
def tw3396622975125130396:=0
def tw890848946819466131:=0
def tw8558227023570744146:=0
def tw4735563710742519615:=0
def tw5227551894826092230:=0
def tw4389461372486086075:=0
def tw12278461153456811125:=0
def tw11647936765590773093:=0
def tw10950110909766500837:=0
def tw6509026726106629087:=0
def tw9288352582672983284:=0
def tw9933457405930382869:=0
def tw15474769664809913977:=0
def tw244490675662208440:=0
def tw14122440350145130444:=0
def tw16790371228459973248:=0
def tw13740352695334869938:=0
def tw13245473982251162954:=0
def tw15483541498471389050:=0
def tw1815195713944439001:=0
def tw10694428616359916877:=0
def tw7278007708279926498:=0
def tw13011650598417399602:=0
def tw2762282958828910129:=0
def tw11280831259772694625:=0
def tw15818631266087875544:=0
def tw12399189576044042232:=0
def tw9502058564514121474:=0
def tw4253393498211712134:=0
def tw12843995540660786986:=0
def tw14604618540620200161:=0
def tw10043042209297842521:=0
def tw13196842284897502418:=0
def tw6519994902866235562:=0
def tw8437265070973864999:=0
def tw13126405807734579063:=0
def tw7077024550356313457:=0
def tw4669848791484575646:=0
def tw9976167417245906007:=0
def tw16595576523095927668:=0
def tw3313328743178754412:=0
def tw17799949850549903743:=0
def tw3417489409586022016:=0
def tw5157931167156538407:=0
def tw1327908999606271784:=0
def tw8980156965584170463:=0
def tw13128472823343582712:=0
def tw6558125396884604967:=0
def tw9130557207944241161:=0
def tw15930434412712552561:=0
def tw4649558313835757487:=0
def tw5464773612420412511:=0
def tw6578169795047996998:=0
def tw15187523626602156889:=0
def tw10681154549637031843:=0
def tw16985432762936255678:=0
def tw17951538297871009422:=0
def tw13545379045346391272:=0
def tw11213956862273388342:=0
def tw2945527124667480461:=0
def tw10611860365599211515:=0
def tw4786585543834918736:=0
def tw14530577823510220871:=0
def tw17590693463460688909:=0
def tw87079981535660033:=0
def tw11330181334952306830:=0
def tw13660735109934782820:=0
def tw13893288541966841291:=0
def tw11286118021114630919:=0
def tw135499453476170042:=0
def tw4653252518616981042:=0
def tw10109310482391278613:=0
def tw3228235093414144956:=0
def tw16098896911989901769:=0
def tw13304690001566345051:=0
def tw18127830095465957761:=0
def tw15529393188953515809:=0
def tw17936171462850561213:=0
def tw10177876596078167911:=0
def tw14271850454251653014:=0
def tw14197623678361161490:=0
def tw12019558168770017064:=0
def tw13802325925725886242:=0
def tw748384933710303347:=0
def tw12814513035069887358:=0
def tw12619808664513458978:=0
def tw12523528395772510394:=0
def tw16594598841323840067:=0
def tw6826471792216453746:=0
def tw17060153363146782407:=0
def tw17597994675877032271:=0
def tw4829487326176423854:=0
def tw3428625105954133940:=0
def tw4068296778364001764:=0
def tw8762868646968098885:=0
def tw13747761821510591984:=0
def tw5651257667196250179:=0
def tw10203139882530062068:=0
def tw5593964628004041151:=0
def tw8932222355853604563:=0
def tw10723584990804798743:=0
def tw9349236654309549623:=0
def tw10843796441006151483:=0
def tw10431946154771742099:=0
def tw1771355165003326392:=0
def tw6393337859734476327:=0
def tw13431897817446018446:=0
def tw15283077225475885882:=0
def tw1038753593572770001:=0
def tw12802485889342777064:=0
def tw16972663412621591415:=0
def tw839296041822494654:=0
def tw13505394099522262381:=0
def tw1353391120616358106:=0
def tw1833408003896053626:=0
def tw9933716051766411588:=0
def tw10312642266716641767:=0
def tw5505844563883490959:=0
def tw401377181065937058:=0
def tw17530029185512572516:=0
def tw11972246311424878108:=0
def tw5671144201321569143:=0
def tw2831905692093988022:=0
def tw1737209452519005449:=0
def tw14550896518536969559:=0
def tw15375520671942724399:=0
def tw16759735160944564624:=0
def tw3476754879541875457:=0
def tw18269209867422455705:=0
def tw17356069065683806579:=0
def tw2916140994799439003:=0
def tw3520150480546388648:=0
def tw9041492669216653811:=0
def tw13383845581666613514:=0
def tw3217083928240321733:=0
def tw7997301904897939630:=0
def tw6609436732531415958:=0
def tw17599752345366787791:=0
def tw1905300253423747289:=0
def tw7387834806899287623:=0
def tw14241717705588349715:=0
def tw13944937252168157131:=0
def tw5188482467839830741:=0
def tw11639910428970290711:=0
def tw9097783115312440697:=0
def tw149326872478900943:=0
def tw9157442990732594686:=0
def tw1873106785825131324:=0
def tw5714825168083147992:=0
def tw12273284310744348981:=0
def tw198023942699524119:=0
def tw8766300553458952488:=0
def tw1895255609958308685:=0
def tw1453138216604777304:=0
def tw9570163040718894621:=0
def tw4478945167880166685:=0
def tw4865176714032576868:=0
def tw6429127193408010432:=0
def tw14520556525190875116:=0
def tw11023484398194407559:=0
def tw13254734000656532604:=0
def tw2267271335554508438:=0
def tw14291989820483469912:=0
def tw10727785766199321551:=0
def tw1281516793717201625:=0
def tw958794898977635983:=0
def tw4222465254126751861:=0
def tw6360291306322688396:=0
def tw14984584552912525658:=0
def tw12145556859670961120:=0
def tw16850980959531109785:=0
def tw7741653339583194213:=0
def tw10546574772071510340:=0
def tw4126960792759940133:=0
def tw18329640448469942842:=0
def tw11588217851455510030:=0
def tw8750072337501525568:=0
def tw6333980554345217965:=0
def tw10283753625819247312:=0
def tw16671763377564878558:=0
def tw12499800578890924454:=0
def tw3911471250368371857:=0
def tw5938938963134610676:=0
def tw13584053163608463846:=0
def tw16941689063980804213:=0
def tw1617786064053802990:=0
def tw12330508677139243561:=0
def tw12509891455222462125:=0
def tw1423255630570830462:=0
def tw13719468171536035151:=0
def tw12614078836901562289:=0
def tw5440725452271766382:=0
def tw4177838254509242081:=0
def tw9553401488525297043:=0
def tw9031981326980600412:=0
def tw298105364770357391:=0
def tw2390247814824695146:=0
def tw13778556597791996041:=0
def tw12862864111166288671:=0
def tw11806633612686811269:=0
def tw4660664976179426542:=0
def tw8401378266536890648:=0
def tw13001896280508737909:=0
def tw4968104276428633158:=0
def tw395050702384311280:=0
def tw13693314772360699322:=0
def tw13028601205565614212:=0
def tw12938236908502707985:=0
def tw8822991497876184649:=0
def tw8010028807516843131:=0
def tw4912488152962460744:=0
def tw890962174338765637:=0
def tw11647939149082007968:=0
def tw344945573539473894:=0
def tw12358998902193231348:=0
end PySem.W.Fast
open PySem PySem.W PyProof.Rows
set_option maxRecDepth 100000 in
set_option maxHeartbeats 0 in
theorem PySem.Challenge.cw_ohmyard_k72_shapes_holds : PySem.Challenge.rw_ohmyard_k72_shapes.Holds := by
  w_on; o_law; z_head; (case hw => w_witness2)
  k_fill
  refine L2.Mo (fun _ => by kernel_rfl) (K72.Yr (l := PySem.Challenge.rw_ohmyard_k72_shapes) rfl rfl (fun w h Y => Y) ?F)
  case F =>
    intro w mg fa h KX G hmg
    refine' K72.Sw KX G hmg ?y_Row ?y_Piece ?y_Push ?y_Hold ?y_Net ?a1 ?l1 ?c1 ?k1 ?a2 ?l2 ?c2 ?k2 ?a3 ?l3 ?c3 ?k3 ?a4 ?l4 ?c4 ?k4 ?lt4 ?a5 ?l5 ?c5 ?k5 ?a6 ?l6 ?c6 ?k6 ?a7 ?l7 ?c7 ?k7 ?a8 ?l8 ?c8 ?k8 ?a9_0 ?a9_1 ?a9_2 ?i9 ?l9 ?c9 ?k9 ?a10_0 ?i10 ?l10 ?c10 ?k10 ?a11_0 ?i11 ?l11 ?c11 ?k11 ?a12_0 ?i12 ?l12 ?c12 ?k12 ?a13_0 ?i13 ?l13 ?c13 ?k13 ?a14_0 ?i14 ?l14 ?c14 ?k14 ?a15_0 ?i15 ?l15 ?c15 ?k15 ?a16_0 ?a16_1 ?a16_2 ?i16 ?l16 ?c16 ?k16 ?a17 ?l17 ?c17 ?k17 ?a18 ?l18 ?c18 ?k18 ?a19 ?l19 ?c19 ?k19 ?a20 ?l20 ?c20 ?k20 ?a21 ?l21 ?c21 ?k21 ?a22 ?l22 ?c22 ?k22 ?a23_0 ?i23 ?l23 ?c23 ?k23 ?a24_0 ?i24 ?l24 ?c24 ?k24 ?a25_0 ?i25 ?l25 ?c25 ?k25 ?a26_0 ?i26 ?l26 ?c26 ?k26 ?a27_0 ?i27 ?l27 ?c27 ?k27 ?a28_0 ?i28 ?l28 ?c28 ?k28 ?a29_0 ?i29 ?l29 ?c29 ?k29 ?a30 ?l30 ?c30 ?k30 ?a31 ?l31 ?c31 ?k31 ?a32 ?l32 ?c32 ?k32 ?a33 ?l33 ?c33 ?k33 ?a34 ?l34 ?c34 ?k34 ?a35 ?l35 ?c35 ?k35 ?lt35 ?a36 ?l36 ?c36 ?k36 ?a37 ?l37 ?c37 ?k37 ?a38 ?l38 ?c38 ?k38 ?a39 ?l39 ?c39 ?k39 ?a40 ?l40 ?c40 ?k40 ?a41 ?l41 ?c41 ?k41 ?a42 ?l42 ?c42 ?k42 ?a43 ?l43 ?c43 ?k43 ?a44 ?l44 ?c44 ?k44 ?a45 ?l45 ?c45 ?k45 ?a46 ?l46 ?c46 ?k46 ?a47 ?l47 ?c47 ?k47 ?a48 ?l48 ?c48 ?k48 ?a49 ?l49 ?c49 ?k49 ?a50 ?l50 ?c50 ?k50 ?a51 ?l51 ?c51 ?k51 ?a52 ?l52 ?c52 ?k52 ?a53 ?l53 ?c53 ?k53 ?a54 ?l54 ?c54 ?k54 ?a55 ?l55 ?c55 ?k55 ?a56 ?l56 ?c56 ?k56 ?a57 ?l57 ?c57 ?k57 ?a58 ?l58 ?c58 ?k58 ?a59 ?l59 ?c59 ?k59 ?a60 ?l60 ?c60 ?k60 ?a61 ?l61 ?c61 ?k61 ?a62 ?l62 ?c62 ?k62 ?a63 ?l63 ?c63 ?k63 ?a64 ?l64 ?c64 ?k64 ?a65 ?l65 ?c65 ?k65 ?a66 ?l66 ?c66 ?k66 ?a67 ?l67 ?c67 ?k67 ?a68 ?l68 ?c68 ?k68 ?a69 ?l69 ?c69 ?k69 ?v_ONE ?v_NOUGHT ?v_JOINING_WORDS ?v_MOST_POINTS ?v_MOST_ROWS ?lO ?lN ?lJ ?pg_Piece ?hd_Piece ?po_Piece ?sa_Piece ?mk_Piece ?kc_Piece ?t1_Piece ?t4_Piece ?na_Piece_start ?na_Piece_goal ?na_Piece_size ?pg_Push ?hd_Push ?po_Push ?sa_Push ?mk_Push ?kc_Push ?t1_Push ?t4_Push ?na_Push_start ?na_Push_goal ?na_Push_size ?pg_Hold ?hd_Hold ?po_Hold ?sa_Hold ?mk_Hold ?kc_Hold ?t1_Hold ?t4_Hold ?na_Hold_start ?na_Hold_goal ?na_Hold_size ?tt2 ?tt3 ?isR_Piece ?isR_Push ?isR_Hold ?isK_Piece_Push ?isK_Piece_Hold ?isK_Push_Piece ?isK_Push_Hold ?isK_Hold_Piece ?isK_Hold_Push ?pg_Net ?hd_Net ?po_Net ?sa_Net ?mk_Net ?kc_Net ?t1_Net ?t4_Net ?na_Net_point_count ?na_Net_kept ?z1 ?z2 ?z3 ?z4 ?z5 ?z6 ?z7 ?z8 ?z9 ?z10 ?z11 ?z12 ?z13
    (case y_Row=>k_is)
    (case y_Piece=>k_is)
    (case y_Push=>k_is)
    (case y_Hold=>k_is)
    (case y_Net=>k_is)
    (case a1=>k_is);(case l1=>k_is);(case c1=>k_is);(case k1=>k_is)
    (case a2=>k_is);(case l2=>k_is);(case c2=>k_is);(case k2=>k_is)
    (case a3=>k_is);(case l3=>k_is);(case c3=>k_is);(case k3=>k_is)
    (case a4=>k_is);(case l4=>k_is);(case c4=>k_is);(case k4=>k_is);(case lt4=>k_is)
    (case a5=>k_is);(case l5=>k_is);(case c5=>k_is);(case k5=>k_is)
    (case a6=>k_is);(case l6=>k_is);(case c6=>k_is);(case k6=>k_is)
    (case a7=>k_is);(case l7=>k_is);(case c7=>k_is);(case k7=>k_is)
    (case a8=>k_is);(case l8=>k_is);(case c8=>k_is);(case k8=>k_is)
    (case a9_0=>k_is);(case a9_1=>k_is);(case a9_2=>k_is);(case i9=>k_is);(case l9=>k_is);(case c9=>k_is);(case k9=>k_is)
    (case a10_0=>k_is);(case i10=>k_is);(case l10=>k_is);(case c10=>k_is);(case k10=>k_is)
    (case a11_0=>k_is);(case i11=>k_is);(case l11=>k_is);(case c11=>k_is);(case k11=>k_is)
    (case a12_0=>k_is);(case i12=>k_is);(case l12=>k_is);(case c12=>k_is);(case k12=>k_is)
    (case a13_0=>k_is);(case i13=>k_is);(case l13=>k_is);(case c13=>k_is);(case k13=>k_is)
    (case a14_0=>k_is);(case i14=>k_is);(case l14=>k_is);(case c14=>k_is);(case k14=>k_is)
    (case a15_0=>k_is);(case i15=>k_is);(case l15=>k_is);(case c15=>k_is);(case k15=>k_is)
    (case a16_0=>k_is);(case a16_1=>k_is);(case a16_2=>k_is);(case i16=>k_is);(case l16=>k_is);(case c16=>k_is);(case k16=>k_is)
    (case a17=>k_is);(case l17=>k_is);(case c17=>k_is);(case k17=>k_is)
    (case a18=>k_is);(case l18=>k_is);(case c18=>k_is);(case k18=>k_is)
    (case a19=>k_is);(case l19=>k_is);(case c19=>k_is);(case k19=>k_is)
    (case a20=>k_is);(case l20=>k_is);(case c20=>k_is);(case k20=>k_is)
    (case a21=>k_is);(case l21=>k_is);(case c21=>k_is);(case k21=>k_is)
    (case a22=>k_is);(case l22=>k_is);(case c22=>k_is);(case k22=>k_is)
    (case a23_0=>k_is);(case i23=>k_is);(case l23=>k_is);(case c23=>k_is);(case k23=>k_is)
    (case a24_0=>k_is);(case i24=>k_is);(case l24=>k_is);(case c24=>k_is);(case k24=>k_is)
    (case a25_0=>k_is);(case i25=>k_is);(case l25=>k_is);(case c25=>k_is);(case k25=>k_is)
    (case a26_0=>k_is);(case i26=>k_is);(case l26=>k_is);(case c26=>k_is);(case k26=>k_is)
    (case a27_0=>k_is);(case i27=>k_is);(case l27=>k_is);(case c27=>k_is);(case k27=>k_is)
    (case a28_0=>k_is);(case i28=>k_is);(case l28=>k_is);(case c28=>k_is);(case k28=>k_is)
    (case a29_0=>k_is);(case i29=>k_is);(case l29=>k_is);(case c29=>k_is);(case k29=>k_is)
    (case a30=>k_is);(case l30=>k_is);(case c30=>k_is);(case k30=>k_is)
    (case a31=>k_is);(case l31=>k_is);(case c31=>k_is);(case k31=>k_is)
    (case a32=>k_is);(case l32=>k_is);(case c32=>k_is);(case k32=>k_is)
    (case a33=>k_is);(case l33=>k_is);(case c33=>k_is);(case k33=>k_is)
    (case a34=>k_is);(case l34=>k_is);(case c34=>k_is);(case k34=>k_is)
    (case a35=>k_is);(case l35=>k_is);(case c35=>k_is);(case k35=>k_is);(case lt35=>k_is)
    (case a36=>k_is);(case l36=>k_is);(case c36=>k_is);(case k36=>k_is)
    (case a37=>k_is);(case l37=>k_is);(case c37=>k_is);(case k37=>k_is)
    (case a38=>k_is);(case l38=>k_is);(case c38=>k_is);(case k38=>k_is)
    (case a39=>k_is);(case l39=>k_is);(case c39=>k_is);(case k39=>k_is)
    (case a40=>k_is);(case l40=>k_is);(case c40=>k_is);(case k40=>k_is)
    (case a41=>k_is);(case l41=>k_is);(case c41=>k_is);(case k41=>k_is)
    (case a42=>k_is);(case l42=>k_is);(case c42=>k_is);(case k42=>k_is)
    (case a43=>k_is);(case l43=>k_is);(case c43=>k_is);(case k43=>k_is)
    (case a44=>k_is);(case l44=>k_is);(case c44=>k_is);(case k44=>k_is)
    (case a45=>k_is);(case l45=>k_is);(case c45=>k_is);(case k45=>k_is)
    (case a46=>k_is);(case l46=>k_is);(case c46=>k_is);(case k46=>k_is)
    (case a47=>k_is);(case l47=>k_is);(case c47=>k_is);(case k47=>k_is)
    (case a48=>k_is);(case l48=>k_is);(case c48=>k_is);(case k48=>k_is)
    (case a49=>k_is);(case l49=>k_is);(case c49=>k_is);(case k49=>k_is)
    (case a50=>k_is);(case l50=>k_is);(case c50=>k_is);(case k50=>k_is)
    (case a51=>k_is);(case l51=>k_is);(case c51=>k_is);(case k51=>k_is)
    (case a52=>k_is);(case l52=>k_is);(case c52=>k_is);(case k52=>k_is)
    (case a53=>k_is);(case l53=>k_is);(case c53=>k_is);(case k53=>k_is)
    (case a54=>k_is);(case l54=>k_is);(case c54=>k_is);(case k54=>k_is)
    (case a55=>k_is);(case l55=>k_is);(case c55=>k_is);(case k55=>k_is)
    (case a56=>k_is);(case l56=>k_is);(case c56=>k_is);(case k56=>k_is)
    (case a57=>k_is);(case l57=>k_is);(case c57=>k_is);(case k57=>k_is)
    (case a58=>k_is);(case l58=>k_is);(case c58=>k_is);(case k58=>k_is)
    (case a59=>k_is);(case l59=>k_is);(case c59=>k_is);(case k59=>k_is)
    (case a60=>k_is);(case l60=>k_is);(case c60=>k_is);(case k60=>k_is)
    (case a61=>k_is);(case l61=>k_is);(case c61=>k_is);(case k61=>k_is)
    (case a62=>k_is);(case l62=>k_is);(case c62=>k_is);(case k62=>k_is)
    (case a63=>k_is);(case l63=>k_is);(case c63=>k_is);(case k63=>k_is)
    (case a64=>k_is);(case l64=>k_is);(case c64=>k_is);(case k64=>k_is)
    (case a65=>k_is);(case l65=>k_is);(case c65=>k_is);(case k65=>k_is)
    (case a66=>k_is);(case l66=>k_is);(case c66=>k_is);(case k66=>k_is)
    (case a67=>k_is);(case l67=>k_is);(case c67=>k_is);(case k67=>k_is)
    (case a68=>k_is);(case l68=>k_is);(case c68=>k_is);(case k68=>k_is)
    (case a69=>k_is);(case l69=>k_is);(case c69=>k_is);(case k69=>k_is)
    (case v_ONE=>k_is)
    (case v_NOUGHT=>k_is)
    (case v_JOINING_WORDS=>k_is)
    (case v_MOST_POINTS=>k_is)
    (case v_MOST_ROWS=>k_is)
    (case lO=>k_is)
    (case lN=>k_is)
    (case lJ=>k_is)
    (case pg_Piece=>k_is)
    (case hd_Piece=>k_is)
    (case po_Piece=>k_is)
    (case sa_Piece=>k_is)
    (case mk_Piece=>k_is)
    (case kc_Piece=>k_is)
    (case t1_Piece=>k_is)
    (case t4_Piece=>k_is)
    (case na_Piece_start=>k_is)
    (case na_Piece_goal=>k_is)
    (case na_Piece_size=>k_is)
    (case pg_Push=>k_is)
    (case hd_Push=>k_is)
    (case po_Push=>k_is)
    (case sa_Push=>k_is)
    (case mk_Push=>k_is)
    (case kc_Push=>k_is)
    (case t1_Push=>k_is)
    (case t4_Push=>k_is)
    (case na_Push_start=>k_is)
    (case na_Push_goal=>k_is)
    (case na_Push_size=>k_is)
    (case pg_Hold=>k_is)
    (case hd_Hold=>k_is)
    (case po_Hold=>k_is)
    (case sa_Hold=>k_is)
    (case mk_Hold=>k_is)
    (case kc_Hold=>k_is)
    (case t1_Hold=>k_is)
    (case t4_Hold=>k_is)
    (case na_Hold_start=>k_is)
    (case na_Hold_goal=>k_is)
    (case na_Hold_size=>k_is)
    (case tt2=>k_is)
    (case tt3=>k_is)
    (case isR_Piece=>kit_is)
    (case isR_Push=>kit_is)
    (case isR_Hold=>kit_is)
    (case isK_Piece_Push=>kit_is)
    (case isK_Piece_Hold=>kit_is)
    (case isK_Push_Piece=>kit_is)
    (case isK_Push_Hold=>kit_is)
    (case isK_Hold_Piece=>kit_is)
    (case isK_Hold_Push=>kit_is)
    (case pg_Net=>k_is)
    (case hd_Net=>k_is)
    (case po_Net=>k_is)
    (case sa_Net=>k_is)
    (case mk_Net=>k_is)
    (case kc_Net=>k_is)
    (case t1_Net=>k_is)
    (case t4_Net=>k_is)
    (case na_Net_point_count=>k_is)
    (case na_Net_kept=>k_is)
    (case z1=>k_is)
    (case z2=>k_is)
    (case z3=>k_is)
    (case z4=>k_is)
    (case z5=>k_is)
    (case z6=>k_is)
    (case z7=>k_is)
    (case z8=>k_is)
    (case z9=>k_is)
    (case z10=>k_is)
    (case z11=>k_is)
    (case z12=>k_is)
    (case z13=>k_is)
