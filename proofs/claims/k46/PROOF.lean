import PyProof.Rows.All
import Wide.All
import OpenK.AllK
import Wide.FinOn
import Lean
import PyProof.EqAt
import PyProof.EqKinds
import PyProof.TupleCall
import PyProof.Cells
import PyProof.SumWalkG
import PyProof.EnumStmt
import PyProof.EnumMake
import PyProof.InstStoreFacts
import KE.KDictList
import PySem.Challenge.RW_ohmyard_k46_amounts
set_option Elab.async false
set_option linter.all false
set_option maxRecDepth 100000
open PySem.W (Frag)
set_option maxHeartbeats 4000000
open List
namespace L2
open PySem PySem.Spec PyProof.Rows
abbrev Key:=Sum Int Str
def uZ:Key->Value->Bool
 | .inl k,v=>Value.isInt k v
 | .inr x,v=>Value.isStrOf x v
def qc0 (w:World):Key->Int
 | .inl k=>hashInt k
 | .inr x=>hashStr w x
theorem eG:∀{k:Key} {v:Value},uZ k v=true->(∃i t,k=Sum.inl i/\v=Value.int i t)\/(∃x t,k=Sum.inr x/\v=Value.str x t)
 | .inl i,v,h=>by
  obtain⟨t,e⟩:=Value.isInt_shape (k:=i) (v:=v) h;exact .inl ⟨i,t,rfl,e⟩
 | .inr x,v,h=>by
  obtain⟨t,e⟩:=Value.isStrOf_shape (x:=x) (v:=v) h;exact .inr ⟨x,t,rfl,e⟩
theorem Id (i:Int)(t:Tok):uZ (.inl i) (.int i t)=true:=by simp[uZ,Value.isInt]
theorem Hy (x:Str)(t:Tok):uZ (.inr x) (.str x t)=true:=by simp[uZ,Value.isStrOf]
theorem Xj (a b:Int):decide ((Sum.inl a:Key)=Sum.inl b)=(a == b):=by
 by_cases e:a=b
 ·subst e;simp
 ·have h:¬(Sum.inl a:Key)=Sum.inl b:=fun q=>e (Sum.inl.inj q);rw[decide_eq_false h];exact(beq_eq_false_iff_ne.mpr e).symm
theorem Vg (a b:Str):decide ((Sum.inr a:Key)=Sum.inr b)=decide (a=b):=by
 by_cases e:a=b
 ·subst e;simp
 ·have h:¬(Sum.inr a:Key)=Sum.inr b:=fun q=>e (Sum.inr.inj q);rw[decide_eq_false h,decide_eq_false e]
theorem Wy (a:Int)(b:Str):decide ((Sum.inl a:Key)=Sum.inr b)=false:=decide_eq_false (fun q=>nomatch q)
theorem Xh (a:Str)(b:Int):decide ((Sum.inr a:Key)=Sum.inl b)=false:=decide_eq_false (fun q=>nomatch q)
def dY (prog:Program)(w:World):PySem.KeyKind prog w Key where
 is:=uZ
 hash:=qc0 w
 inj:=fun v a b ha hb=>by
  rcases eG ha with ⟨i,t,rfl,rfl⟩ | ⟨x,t,rfl,rfl⟩
  ·rcases eG hb with ⟨j,u,rfl,e⟩ | ⟨y,u,rfl,e⟩
   ·injection e with e1 _;rw[e1]
   ·exact nomatch e
  ·rcases eG hb with ⟨j,u,rfl,e⟩ | ⟨y,u,rfl,e⟩
   ·exact nomatch e
   ·injection e with e1 _;rw[e1]
 byValue:=fun k v h=>by
  rcases eG h with ⟨i,t,rfl,rfl⟩ | ⟨x,t,rfl,rfl⟩<;>rfl
 pyHash:=fun hv h=>by
  rcases eG hv with ⟨i,t,rfl,rfl⟩ | ⟨x,t,rfl,rfl⟩
  ·exact wpAny_pyHash_int h
  ·exact wpAny_pyHash_str h
 eqBool:=fun hu hv h=>by
  rcases eG hu with ⟨i,t,rfl,rfl⟩ | ⟨x,t,rfl,rfl⟩
  ·rcases eG hv with ⟨j,u,rfl,rfl⟩ | ⟨y,u,rfl,rfl⟩
   ·rw[Xj] at h;exact wpAny_eqBool_int h
   ·rw[Wy] at h;exact SeqAt.EqAt.int_str i t y u _ _ _ _ h
  ·rcases eG hv with ⟨j,u,rfl,rfl⟩ | ⟨y,u,rfl,rfl⟩
   ·rw[Xh] at h;exact SeqAt.EqAt.str_int x t j u _ _ _ _ h
   ·rw[Vg] at h;exact wpAny_eqBool_str h
 «strs»:=fun k x t v h=>by
  rcases eG h with ⟨i,u,rfl,e⟩ | ⟨y,u,rfl,e⟩
  ·exact nomatch e
  ·injection e with e1 _
   subst e1
   cases v<;>rfl
theorem Ay (prog:Program)(w:World)(i:Int)(t:Tok):(dY prog w).is (.inl i) (.int i t)=true:=Id i t
theorem zN (prog:Program)(w:World)(x:Str)(t:Tok):(dY prog w).is (.inr x) (.str x t)=true:=Hy x t
inductive V where
 |non | bl (b:Bool) | int (i:Int) | str (x:Str) | byt (b:Array UInt8) | flt (b:UInt64) | ref (a:Addr) | ty (n:String)
 deriving DecidableEq
def cC:V->Value->Prop
 | .non,u=>u=Value.none
 | .bl b,u=>u=Value.bool b
 | .int i,u=>∃t,u=Value.int i t
 | .str x,u=>∃t,u=Value.str x t
 | .byt b,u=>∃t,u=Value.bytes b t
 | .flt b,u=>∃t,u=Value.float b t
 | .ref a,u=>u=Value.ref a
 | .ty n,u=>u=Value.type n
abbrev bZ:List V->List Value->Prop:=Paired cC
theorem bZ.length {xs:List V}{us:List Value}(r:bZ xs us):xs.length=us.length:=Paired.length r
theorem bZ.get:∀{xs:List V} {us:List Value} {i:Nat} {x:V},bZ xs us->xs[i]?=some x->∃u,us[i]?=some u/\cC x u
 |_,_,_,_,.nil,e=>by simp at e
 |_,_,0,_,.cons r _,e=>by simp at e;subst e;exact⟨_,rfl,r⟩
 |_,_,i+1,x,.cons _ t,e=>by
  obtain⟨u,h1,h2⟩:=bZ.get (i:=i) (x:=x) t (by simpa using e);exact⟨u,by simpa using h1,h2⟩
theorem bZ.set {x:V}{u:Value}(r:cC x u):∀{xs:List V} {us:List Value} (i:Nat),bZ xs us->bZ (xs.set i x) (us.set i u)
 |_,_,_,.nil=>.nil
 |_,_,0,.cons _ t=>.cons r t
 |_,_,i+1,.cons q t=>.cons q (bZ.set r i t)
theorem bZ.append:∀{xs ys:List V} {us ws:List Value},bZ xs us->bZ ys ws->bZ (xs++ys) (us++ws)
 |_,_,_,_,.nil,s=>s
 |_,_,_,_,.cons r t,s=>.cons r (bZ.append t s)
theorem bZ.take:∀{xs:List V} {us:List Value} (n:Nat),bZ xs us->bZ (xs.take n) (us.take n)
 |_,_,0,_=>.nil
 |_,_,_+1,.nil=>.nil
 |_,_,n+1,.cons r t=>.cons r (bZ.take n t)
theorem bZ.drop:∀{xs:List V} {us:List Value} (n:Nat),bZ xs us->bZ (xs.drop n) (us.drop n)
 |_,_,0,r=>r
 |_,_,_+1,.nil=>.nil
 |_,_,n+1,.cons _ t=>bZ.drop n t
def kP:Option V->Option Value->Prop
 |some v,some u=>cC v u
 |none,none=>True
 |_,_=>False
def KV {κ:Type}:List (κ × V)->List (κ × Value)->Prop:=Paired fun (p:κ × V) (q:κ × Value)=>p.1=q.1/\cC p.2 q.2
def kV:Key->V
 | .inl i=>.int i
 | .inr x=>.str x
inductive HO where
 |lst (xs:List V)
 |tup (xs:List V)
 |dK (kvs:List (Key × V)) | dT (kvs:List (List Key × V))
 |set (S:Int->Bool) (n:Nat)
 |ins (C dx:Addr) (fs:List (Str × V))
 |own (x:Addr)
 |xd (fs:List (Str × V))
 |met (f x:Addr)
 |rng (lo hi:Int)
 |frz (o:Obj) (u:HO)
 |tbl (ps:Array Value)
 |ext (φ:Heap->Prop)
abbrev Hp:=Addr->Option HO
def upd (H:Hp)(a:Addr)(o:HO):Hp:=fun b=>if b=a then some o else H b
theorem aB {H:Hp}{a:Addr}{o:HO}:upd H a o a=some o:=by unfold upd;rw[if_pos rfl]
theorem aU {H:Hp}{a b:Addr}{o:HO}(h:b≠a):upd H a o b=H b:=by unfold upd;rw[if_neg h]
theorem pN {H:Hp}{a:Addr}{o u:HO}:upd (upd H a o) a u=upd H a u:=by
 funext b;unfold upd;split<;>rfl
theorem fM {H:Hp}{a b:Addr}{o u:HO}(h:H a=some o)(h':H b=some u)(d:o≠u):a≠b:=by
 intro e;subst e;rw[h] at h';exact d (Option.some.inj h')
theorem bF {H:Hp}{a b:Addr}{o:HO}(h:H a=some o)(h':H b=none):a≠b:=by
 intro e;subst e;rw[h] at h';cases h'
section
variable (P:Program) (w:World)
def eI (H:Hp)(h:Heap)(a:Addr):HO->Prop
 | .lst xs=>xs.length<=sizeLine/\∃(its:List Value) (n:Nat),bZ xs its/\h.get? a=some { cls:=.type "list",data:=.seq its.toArray n }
 | .tup xs=>xs.length<=sizeLine/\∃its:List Value,bZ xs its/\IsTup h a its.toArray
 | .dK kvs=>kvs.length<=sizeLine/\(a == sysModules)=false/\∃vs,KV kvs vs/\h.DictOf (dY P w) a vs
 | .dT kvs=>kvs.length<=sizeLine/\(a == sysModules)=false/\∃xs:List (List Key × Addr × Value),
   Paired (fun (p:List Key × V) (q:List Key × Addr × Value)=>p.1=q.1/\H q.2.1=some (.tup (p.1.map kV))/\cC p.2 q.2.2) kvs xs/\
   ∃o es ep,h.get? a=some o/\o.ExactDict/\o.data=.dict es ep/\es.toList=xs.map (entryOfKey (tupleKind (dY P w)))/\(xs.map (·.1)).Nodup
 | .set S n=>h.SetOf (intKind P w) a S n
 | .ins C dx fs=>H dx=some (.own a)/\fs.length<=1000/\dx≠a/\h.get? a=some (W.instObj C dx)/\
   ∃mA,h.Ns1 dx mA/\(∀f,kP (fs.lookup f) (mA f))/\PySem.Within mA (fs.map (·.1))
 | .own _=>∃o,h.get? a=some o
 | .xd fs=>∃mA,h.Ns1 a mA/\∀f,kP (fs.lookup f) (mA f)
 | .rng lo hi=>∃t u v,h.get? a=some { cls:=.type "range",data:=.fields #[.int lo t,.int hi u,.int 1 v] }
 | .frz o u=>h.get? a=some o/\eI H h a u
 | .tbl ps=>h.get? a=some { cls:=.none,data:=.fields ps }
 | .met f x=>h.get? a=some (W.methodObj (.ref f) (.ref x))
 | .ext φ=>φ h/\(∃o,h.get? a=some o)/\∀h1 h2:Heap,φ h1->(∀o,h1.get? a=some o->h2.get? a=some o)->φ h2
def HOk (H:Hp)(h:Heap):Prop:=∀a o,H a=some o->eI P w H h a o
end
section
variable {P:Program} {w:World} {H H':Hp} {h h':Heap} {a:Addr} {o:HO}
theorem eI.lt (x:eI P w H h a o):a < h.objs.size:=by
 cases o with
 |lst xs=>obtain⟨_,_,_,_,e⟩:=x;exact Heap.lt_size e
 |tup xs=>obtain⟨_,_,_,p⟩:=x;exact p.lt
 |dK kvs=>obtain⟨_,_,_,_,o,_,_,e,_⟩:=x;exact Heap.lt_size e
 |dT kvs=>obtain⟨_,_,_,_,o,_,_,e,_⟩:=x;exact Heap.lt_size e
 |set S n=>obtain⟨o,_,_,_,e,_⟩:=x;exact Heap.lt_size e
 |ins C dx fs=>obtain⟨_,_,_,e,_⟩:=x;exact Heap.lt_size e
 |own y=>obtain⟨_,e⟩:=x;exact Heap.lt_size e
 |xd fs=>obtain⟨_,⟨_,_,_,e,_⟩,_⟩:=x;exact Heap.lt_size e
 |rng lo hi=>obtain⟨_,_,_,e⟩:=x;exact Heap.lt_size e
 |frz ob u=>obtain⟨e,_⟩:=x;exact Heap.lt_size e
 |tbl ps=>exact Heap.lt_size (show h.get? a=some _ from x)
 |met f y=>exact Heap.lt_size (show h.get? a=some _ from x)
 |ext φ=>obtain⟨_,⟨_,e⟩,_⟩:=x;exact Heap.lt_size e
theorem Paired.mapP {α β:Type}{F G:α->β->Prop}:∀{l₁:List α} {l₂:List β},Paired F l₁ l₂->(∀a b,F a b->G a b)->Paired G l₁ l₂
 |_,_,.nil,_=>.nil
 |_,_,.cons r t,f=>.cons (f _ _ r) (Paired.mapP t f)
theorem eI.stay (x:eI P w H h a o)(k:∀b u,(b=a\/H b=some (.own a))->h.get? b=some u->h'.get? b=some u)(ho:∀b,H b=some (.own a)->H' b=some (.own a))(ht:∀b xs,H b=some (.tup xs)->H' b=some (.tup xs)):eI P w H' h' a o:=by
 induction o with
 |lst xs=>obtain⟨z,its,n,r,e⟩:=x;exact⟨z,its,n,r,k _ _ (.inl rfl) e⟩
 |tup xs=>obtain⟨z,its,r,ob,e,c⟩:=x;exact⟨z,its,r,ob,k _ _ (.inl rfl) e,c⟩
 |dK kvs=>obtain⟨z,y,vs,r,ob,es,ep,e,c⟩:=x;exact⟨z,y,vs,r,ob,es,ep,k _ _ (.inl rfl) e,c⟩
 |dT kvs=>
  obtain⟨z,y,xs,r,ob,es,ep,e,c⟩:=x;exact⟨z,y,xs,Paired.mapP r fun p q z=>⟨z.1,ht _ _ z.2.1,z.2.2⟩,ob,es,ep,k _ _ (.inl rfl) e,c⟩
 |set S n=>obtain⟨ob,es,ep,t,e,c⟩:=x;exact⟨ob,es,ep,t,k _ _ (.inl rfl) e,c⟩
 |ins C dx fs=>
  obtain⟨d,z,ne,e,mA,⟨od,es,ep,e2,c⟩,r⟩:=x;exact⟨ho _ d,z,ne,k _ _ (.inl rfl) e,mA,⟨od,es,ep,k _ _ (.inr d) e2,c⟩,r⟩
 |own y=>obtain⟨ob,e⟩:=x;exact⟨ob,k _ _ (.inl rfl) e⟩
 |xd fs=>obtain⟨mA,⟨od,es,ep,e,c⟩,r⟩:=x;exact⟨mA,⟨od,es,ep,k _ _ (.inl rfl) e,c⟩,r⟩
 |rng lo hi=>obtain⟨t,u,v,e⟩:=x;exact⟨t,u,v,k _ _ (.inl rfl) e⟩
 |frz ob u ih=>obtain⟨e,q⟩:=x;exact⟨k _ _ (.inl rfl) e,ih q⟩
 |tbl ps=>
  have e:h.get? a=some { cls:=.none,data:=.fields ps }:=x;show h'.get? a=some { cls:=.none,data:=.fields ps };exact k a _ (.inl rfl) e
 |met f y=>
  have e:h.get? a=some (W.methodObj (.ref f) (.ref y)):=x;show h'.get? a=some (W.methodObj (.ref f) (.ref y));exact k a _ (.inl rfl) e
 |ext φ=>obtain⟨p,⟨o,e⟩,st⟩:=x;exact⟨st _ _ p fun o q=>k _ _ (.inl rfl) q,⟨o,k _ _ (.inl rfl) e⟩,st⟩
theorem HOk.lt (x:HOk P w H h)(e:H a=some o):a < h.objs.size:=(x a o e).lt
theorem HOk.fresh (x:HOk P w H h)(e:h.objs.size<=a):H a=none:=by
 cases q:H a with
 |none=>rfl
 |some u=>exact absurd (Nat.lt_of_lt_of_le (x.lt q) e) (Nat.lt_irrefl _)
theorem HOk.kept (x:HOk P w H h)(k:∀b u,h.get? b=some u->h'.get? b=some u):HOk P w H h':=fun a o e=>
 (x a o e).stay (fun b u _ q=>k b u q) (fun _ q=>q) fun _ _ q=>q
theorem HOk.laid (x:HOk P w H h)(k:∀b u,h.get? b=some u->h'.get? b=some u)(hp:h.objs.size<=a)(new:eI P w (upd H a o) h' a o):HOk P w (upd H a o) h':=fun b u e=>by
 have hn:=x.fresh hp
 by_cases hb:b=a
 ·subst hb;rw[aB] at e;cases e;exact new
 ·rw[aU hb] at e;exact(x b u e).stay (fun c v _ q=>k c v q) (fun c q=>by rw[aU (bF q hn)];exact q) fun c xs q=>by rw[aU (bF q hn)];exact q
end
def Rd (H:Hp)(a:Addr)(u:HO):Prop:=H a=some u\/∃o,H a=some (.frz o u)
theorem Rd.ok {P:Program}{w:World}{H:Hp}{h:Heap}{a:Addr}{u:HO}(r:Rd H a u)(x:HOk P w H h):eI P w H h a u:=by
 rcases r with r | ⟨o,r⟩
 ·exact x a u r
 ·obtain⟨_,q⟩:=x a _ r;exact q
def Mut:Option HO->Prop
 |some (.lst _)=>True
 |some (.dK _)=>True
 |some (.dT _)=>True
 |some (.set _ _)=>True
 |some (.ins _ _ _)=>True
 |some (.ext _)=>True
 |_=>False
section
variable {P:Program} {w:World} {H:Hp} {h h':Heap} {x e:Addr} {o':HO}
theorem HOk.write (ok:HOk P w H h)(mu:Mut (H x))(he:e=x\/H e=some (.own x))(k:∀b u,b≠e->h.get? b=some u->h'.get? b=some u)(heo:∃u,h'.get? e=some u)(new:eI P w (upd H x o') h' x o'):HOk P w (upd H x o') h':=fun b u q=>by
 have nown:∀c y,H c=some (.own y)->c≠x:=fun c y r z=>by subst z;rw[r] at mu;exact mu
 have ntup:∀c xs,H c=some (.tup xs)->c≠x:=fun c xs r z=>by subst z;rw[r] at mu;exact mu
 by_cases hb:b=x
 ·subst hb;rw[aB] at q;cases q;exact new
 ·rw[aU hb] at q
  by_cases hbe:b=e
  ·have q':H b=some (.own x):=by
    rcases he with z | z
    ·exact absurd (hbe.trans z) hb
    ·rw[hbe];exact z
   rw[q] at q';cases q';obtain⟨v,hv⟩:=heo;exact⟨v,by rw[hbe];exact hv⟩
  ·refine(ok b u q).stay (fun c v hc r=>k c v ?_ r) (fun c r=>by rw[aU (nown c b r)];exact r) fun c xs r=>by rw[aU (ntup c xs r)];exact r
   rcases hc with rfl | hc
   ·exact hbe
   ·rintro rfl;rcases he with z | z
    ·exact nown c b hc z
    ·rw[hc] at z;cases z;exact hb rfl
end
structure Un (fs ex:List Addr) (H H':Hp) (h h':Heap):Prop where
 keep:∀b o,h.get? b=some o->H b=none->b∉fs->b∉ex->h'.get? b=some o
 slot:∀b o,h.get? b=some o->H b=none->b∈fs->b∉ex->∃sl,h'.get? b=some { o with slots:=sl }
 free:∀b o,h.get? b=some o->H b=none->b∉ex->H' b=none
 there:∀b o,h.get? b=some o->b∉ex->∃o',h'.get? b=some o'
 tups:∀b xs,H b=some (.tup xs)->H' b=some (.tup xs)
 frzs:∀b o u,H b=some (.frz o u)->H' b=some (.frz o u)
 tbls:∀b ps,H b=some (.tbl ps)->∃more,H' b=some (.tbl (ps++more))
section
variable {fs fs' ex ex':List Addr} {H H1 H2:Hp} {h h1 h2 h':Heap} {a x e:Addr} {o:HO}
theorem Un.any (u:Un fs ex H H1 h h1){b:Addr}{ob:Obj}(q:h.get? b=some ob)(n:H b=none)(hx:b∉ex):∃sl,h1.get? b=some { ob with slots:=sl }:=by
 by_cases hb:b∈fs
 ·exact u.slot b ob q n hb hx
 ·exact⟨ob.slots,u.keep b ob q n hb hx⟩
theorem Un.kept (k:∀b u,h.get? b=some u->h'.get? b=some u):Un fs ex H H h h':=
 ⟨fun b ob q _ _ _=>k b ob q,fun b ob q _ _ _=>⟨ob.slots,k b ob q⟩,fun _ _ _ n _=>n,fun b ob q _=>⟨ob,k b ob q⟩,fun _ _ q=>q,fun _ _ _ q=>q,fun _ ps q=>⟨#[],by rw[q];simp⟩⟩
theorem Un.refl:Un fs ex H H h h:=Un.kept fun _ _ q=>q
theorem Un.laid (k:∀b u,h.get? b=some u->h'.get? b=some u)(hp:h.objs.size<=a)(hn:H a=none):Un fs ex H (upd H a o) h h' where
 keep:=fun b u q _ _ _=>k b u q
 slot:=fun b u q _ _ _=>⟨u.slots,k b u q⟩
 free:=fun b u q n _=>by rw[aU (Nat.ne_of_lt (Nat.lt_of_lt_of_le (Heap.lt_size q) hp))];exact n
 there:=fun b u q _=>⟨u,k b u q⟩
 tups:=fun b xs q=>by rw[aU (bF q hn)];exact q
 frzs:=fun b u xs q=>by rw[aU (bF q hn)];exact q
 tbls:=fun b ps q=>⟨#[],by rw[aU (bF q hn),q];simp⟩
theorem Un.write (mu:Mut (H x))(he:e=x\/H e=some (.own x))(k:∀b u,b≠e->h.get? b=some u->h'.get? b=some u)(heo:∃u,h'.get? e=some u):Un fs ex H (upd H x o) h h':=by
 have hx:∀b,H b=none->b≠x:=fun b n z=>by subst z;rw[n] at mu;exact mu
 have hb:∀b,H b=none->b≠e:=fun b n z=>by
  subst z;rcases he with r | r
  ·exact hx b n r
  ·rw[n] at r;cases r
 have hm:∀b u,H b=some u->¬Mut (some u)->b≠x:=fun b u q nm z=>by subst z;rw[q] at mu;exact nm mu
 refine⟨fun b u q n _ _=>k b u (hb b n) q,fun b u q n _ _=>⟨u.slots,k b u (hb b n) q⟩,fun b u q n _=>by rw[aU (hx b n)];exact n,fun b u q _=>?_,
  fun b xs q=>by rw[aU (hm b _ q fun z=>z)];exact q,fun b u xs q=>by rw[aU (hm b _ q fun z=>z)];exact q,fun b ps q=>⟨#[],by rw[aU (hm b _ q fun z=>z),q];simp⟩⟩
 by_cases hbe:b=e
 ·subst hbe;exact heo
 ·exact⟨u,k b u hbe q⟩
end
def trk (h:Heap)(H:Hp):List Addr:=(List.range h.objs.size).filter fun a=>(H a).isSome
def yF (h:Heap)(H:Hp):Heap:=W.hideAll h (trk h H)
theorem Ia (h:Heap)(H:Hp):(yF h H).objs.size=h.objs.size:=W.hideAll_size _ _
theorem Pa {h:Heap}{H:Hp}{b:Addr}{o:Obj}(e:h.get? b=some o)(n:H b=none):(yF h H).get? b=some o:=
 W.hideAll_get _ e fun hm=>by
  have q:(H b).isSome=true:=(mem_filter.mp hm).2;rw[n] at q;simp at q
theorem Qx {h:Heap}{H:Hp}{b:Addr}{o:Obj}(e:(yF h H).get? b=some o):h.get? b=some o/\H b=none:=by
 have e':h.get? b=some o:=W.of_hideAll (trk h H) e;refine⟨e',?_⟩
 cases q:H b with
 |none=>rfl
 |some x=>
  have hm:b∈trk h H:=mem_filter.mpr ⟨mem_range.mpr (Heap.lt_size e'),by simp[q]⟩;have z:(yF h H).get? b=none:=W.hideAll_none (trk h H) hm;rw[z] at e;cases e
structure Mod (K:Frag) (mg:Str->Option Value) (base:Heap):Prop where
 kin:K.In base
 glob:base.Ns mainGlobals mg
 blt:∃mb,base.Ns builtinsNs mb/\∀x:Str,x≠"__name__"->mb x=bootBuiltins x
 nolimit:base.NoLimit
structure Cx where
 prog:Program
 w:World
 K:Frag
 mg:Str->Option Value
 base:Heap
 A:Around
 N:List Str
 s₀:Shared
 H₀:Hp
 env:Env
 outer:List Env
 stack:List Env
 ex:List Addr
 fn:Str->Bool
 calm:Bool
 pn:List (Addr × Obj)
 xe:Value->Shared->Prop
def frs (l:List Env):List Addr:=l.filterMap (·.frame)
abbrev Cx.fs (X:Cx):List Addr:=frs X.outer
def Vis (sc:Scope)(x:Str):Prop:=sc.names.lookup x=some .local\/sc.names.lookup x=some .cell\/sc.names.lookup x=some .free
def Loc (sc:Scope)(x:Str):Prop:=sc.names.lookup x=some .local\/sc.names.lookup x=some .cell
def qc5 (env:Env)(h:Heap)(m:Str->Option Value)(x:Str)(u:Value):Prop:=
 (env.kindOf x=some .local/\m x=some u)\/((env.kindOf x=some .cell\/env.kindOf x=some .free)/\∃c,env.cells.lookup x=some c/\h.IsCell c (some u))
structure Cx.Ok (X:Cx):Prop where
 mod:Mod X.K X.mg X.base
 kind:X.env.scope.kind=.function
 glob:X.env.globals=mainGlobals
 blt:X.env.builtins=builtinsNs
 above:X.s₀.heap.objs.size<=X.env.locals
 inj:∀x y c,X.env.cells.lookup x=some c->X.env.cells.lookup y=some c->x=y
 has:∀x,(X.env.kindOf x=some .cell\/X.env.kindOf x=some .free)->∃c,X.env.cells.lookup x=some c
 cab:∀x c,X.fn x=true->X.env.cells.lookup x=some c->X.s₀.heap.objs.size<=c
 hd:X.calm=true->X.A.handled=none
 frames:X.A.frames=some X.stack
 stk:X.stack=X.outer\/(X.stack=X.env :: X.outer/\X.env.frame=some X.env.locals)
 exf:∀b∈X.ex,b≠X.env.locals/\∀x c,X.env.cells.lookup x=some c->c≠b
 bs:∀b o,X.base.get? b=some o->X.s₀.heap.get? b=some o/\X.H₀ b=none
 bsz:X.base.objs.size<=X.s₀.heap.objs.size
 noex:∀b o,X.base.get? b=some o->b∉X.ex
 exfs:∀b∈X.ex,b∉X.fs
 funs:X.s₀.heap.FunFrames X.base X.outer
 frf:∀b∈X.fs,X.H₀ b=none
structure Inv (X:Cx) (pins:List (Addr × Obj)) (σ:List (Option V)) (H:Hp) (s:Shared):Prop where
 ok:X.Ok
 os:s.os=X.s₀.os
 bare:AllBare s.gens
 base:Un X.fs X.ex X.H₀ H X.s₀.heap s.heap
 loc:∃m,s.heap.Ns X.env.locals m/\∀(i:Nat) (x:Str) (v:V),X.N[i]?=some x->σ[i]?=some (some v)->Vis X.env.scope x->∃u,cC v u/\qc5 X.env s.heap m x u
 cell:∀x c,X.env.cells.lookup x=some c->∃v,s.heap.IsCell c v
 free:H X.env.locals=none
 freeC:∀x c,X.env.cells.lookup x=some c->H c=none
 pin:∀p∈X.pn++pins,s.heap.get? p.1=some p.2/\H p.1=none/\p.1≠X.env.locals/\p.1∉X.fs/\∀v,p.2.data≠.cell v
 hok:HOk X.prog X.w H s.heap
 len:σ.length=X.N.length
section
variable {X:Cx} {pins:List (Addr × Obj)} {σ:List (Option V)} {H H':Hp} {s:Shared} {h':Heap}
theorem Cx.Ok.nofr (ok:X.Ok){b:Addr}{o:Obj}(e:X.base.get? b=some o):b∉X.fs:=fun hb=>by
 have:=(ok.funs.mem hb).1;rw[e] at this;cases this
theorem Inv.bs (I:Inv X pins σ H s):∀b o,X.base.get? b=some o->s.heap.get? b=some o/\H b=none:=fun b o e=>
 ⟨I.base.keep b o (I.ok.bs b o e).1 (I.ok.bs b o e).2 (I.ok.nofr e) (I.ok.noex b o e),I.base.free b o (I.ok.bs b o e).1 (I.ok.bs b o e).2 (I.ok.noex b o e)⟩
theorem Inv.bk (I:Inv X pins σ H s):∀b o,X.base.get? b=some o->s.heap.get? b=some o:=fun b o e=>(I.bs b o e).1
theorem Inv.mod (I:Inv X pins σ H s):Mod X.K X.mg X.base:=I.ok.mod
theorem Inv.kIn (I:Inv X pins σ H s):X.K.In s.heap:=I.ok.mod.kin.keeps I.bk
theorem Inv.lt (I:Inv X pins σ H s):X.env.locals < s.heap.objs.size:=let ⟨_,hn,_⟩:=I.loc;hn.lt
theorem Inv.sz (I:Inv X pins σ H s):X.s₀.heap.objs.size<=s.heap.objs.size:=Nat.le_trans I.ok.above (Nat.le_of_lt I.lt)
theorem Inv.nofs (I:Inv X pins σ H s){a:Addr}(h:s.heap.objs.size<=a):a∉X.fs:=fun hb=>by
 obtain⟨_,o,ho,_⟩:=I.ok.funs.mem hb;exact absurd (Nat.lt_of_lt_of_le (Heap.lt_size ho) (Nat.le_trans I.sz h)) (Nat.lt_irrefl _)
theorem Inv.cne (I:Inv X pins σ H s):∀x c,X.env.cells.lookup x=some c->c≠X.env.locals:=fun x c e z=>by
 obtain⟨v,o,ho,hd⟩:=I.cell x c e;obtain⟨m,⟨o',es,ep,ho',hd',_⟩,_⟩:=I.loc;rw[z,ho'] at ho;cases ho;rw[hd'] at hd;cases hd
theorem Inv.funs (I:Inv X pins σ H s):s.heap.FunFrames X.base X.outer:=by
 have all:∀(l:List Env),(∀b∈frs l,b∈X.fs)->X.s₀.heap.FunFrames X.base l->s.heap.FunFrames X.base l:=by
  intro l
  induction l with
  |nil=>intro _ _;trivial
  |cons env r ih=>
   intro hs hl;obtain⟨hk,⟨L,o,hf,hn,ho,hd⟩,hr⟩:=hl;have hL:L∈X.fs:=hs L (by unfold frs;rw[filterMap_cons,hf];exact mem_cons_self);obtain⟨sl,e⟩:=I.base.slot L o ho (I.ok.frf L hL) hL fun z=>I.ok.exfs L z hL;exact⟨hk,⟨L,_,hf,hn,e,hd⟩,ih (fun b hb=>hs b (by unfold frs;rw[filterMap_cons,hf];exact mem_cons_of_mem _ hb)) hr⟩
 exact all X.outer (fun _ hb=>hb) I.ok.funs
theorem Inv.stack (I:Inv X pins σ H s):s.heap.FunFrames X.base X.stack:=by
 rcases I.ok.stk with e | ⟨e,hf⟩
 ·rw[e];exact I.funs
 ·rw[e];obtain⟨m,hn,_⟩:=I.loc;refine .cons (by rw[I.ok.kind];decide) hf hn ?_ I.funs;exact Heap.get?_none_of_le (Nat.le_trans I.ok.bsz I.ok.above)
theorem Inv.stkSub (I:Inv X pins σ H s):∀b∈frs X.stack,b∈X.env.locals :: X.fs:=fun b hb=>by
 rcases I.ok.stk with e | ⟨e,hf⟩
 ·rw[e] at hb;exact mem_cons_of_mem _ hb
 ·rw[e] at hb;unfold frs at hb;rw[filterMap_cons,hf] at hb;exact hb
theorem Inv.stkFree (I:Inv X pins σ H s):∀b∈frs X.stack,H b=none:=fun b hb=>by
 rcases mem_cons.mp (I.stkSub b hb) with e | hb
 ·rw[e];exact I.free
 ·obtain⟨_,o,ho,_⟩:=I.ok.funs.mem hb;exact I.base.free b o ho (I.ok.frf b hb) fun z=>I.ok.exfs b z hb
theorem Inv.step {g':Array GenState}{t':Nat}{d':Drawn}{ch:List Addr}(I:Inv X pins σ H s)(hch:∀b∈ch,(b∈X.ex\/X.s₀.heap.objs.size<=b)/\b≠X.env.locals/\(∀x c,X.env.cells.lookup x=some c->c≠b)/\∀p∈X.pn++pins,p.1≠b)(keep:∀b o,b≠X.env.locals->b∉X.fs->b∉ch->s.heap.get? b=some o->H b=none->h'.get? b=some o)(slot:∀b o,b≠X.env.locals->b∈X.fs->b∉ch->s.heap.get? b=some o->H b=none->∃sl,h'.get? b=some { o with slots:=sl })(free:∀b o,b∉ch->s.heap.get? b=some o->H b=none->H' b=none)(there:∀b o,b∉ch->s.heap.get? b=some o->∃o',h'.get? b=some o')(tups:∀b xs,H b=some (.tup xs)->H' b=some (.tup xs))(frzs:∀b o u,H b=some (.frz o u)->H' b=some (.frz o u))(tbls:∀b ps,H b=some (.tbl ps)->∃more,H' b=some (.tbl (ps++more)))(ns:∀m,s.heap.Ns X.env.locals m->h'.Ns X.env.locals m)(hok:HOk X.prog X.w H' h')(hg:AllBare g') :
  Inv X pins σ H' { s with heap:=h',gens:=g',drawn:=d',toks:=t' }:=by
 have neL:∀b o,X.s₀.heap.get? b=some o->b≠X.env.locals:=fun b o e=>Nat.ne_of_lt (Nat.lt_of_lt_of_le (Heap.lt_size e) I.ok.above);have neC:∀b o,X.s₀.heap.get? b=some o->b∉X.ex->b∉ch:=fun b o e hx hb=>by
  rcases (hch b hb).1 with z | z
  ·exact hx z
  ·exact absurd (Nat.lt_of_lt_of_le (Heap.lt_size e) z) (Nat.lt_irrefl _)
 have cellK:∀x c,X.env.cells.lookup x=some c->∀v,s.heap.IsCell c v->h'.IsCell c v:=fun x c e v ⟨o,ho,hd⟩=>by
  have nch:c∉ch:=fun z=>(hch c z).2.2.1 x c e rfl
  by_cases hc:c∈X.fs
  ·obtain⟨sl,q⟩:=slot c o (I.cne x c e) hc nch ho (I.freeC x c e);exact⟨_,q,hd⟩
  ·exact⟨o,keep c o (I.cne x c e) hc nch ho (I.freeC x c e),hd⟩
 refine⟨I.ok,I.os,hg,⟨fun b o e n hb hx=>?_,fun b o e n hb hx=>?_,fun b o e n hx=>?_,fun b o e hx=>?_,fun b xs e=>tups b xs (I.base.tups b xs e),fun b o xs e=>frzs b o xs (I.base.frzs b o xs e),fun b ps e=>?_⟩,?_,fun x c e=>?_,?_,fun x c e=>?_,fun p hp=>?_,hok,I.len⟩
 ·exact keep b o (neL b o e) hb (neC b o e hx) (I.base.keep b o e n hb hx) (I.base.free b o e n hx)
 ·obtain⟨sl,e1⟩:=I.base.slot b o e n hb hx;obtain⟨sl',e2⟩:=slot b _ (neL b o e) hb (neC b o e hx) e1 (I.base.free b o e n hx);exact⟨sl',e2⟩
 ·obtain⟨o',e1⟩:=I.base.there b o e hx;exact free b o' (neC b o e hx) e1 (I.base.free b o e n hx)
 ·obtain⟨o',e1⟩:=I.base.there b o e hx;exact there b o' (neC b o e hx) e1
 ·obtain⟨m1,e1⟩:=I.base.tbls b ps e;obtain⟨m2,e2⟩:=tbls b _ e1;exact⟨m1++m2,by rw[e2,Array.append_assoc]⟩
 ·obtain⟨m,hn,hl⟩:=I.loc;refine⟨m,ns m hn,fun i x v e1 e2 e3=>?_⟩;obtain⟨u,r,l⟩:=hl i x v e1 e2 e3;refine⟨u,r,?_⟩;rcases l with l | ⟨k,c,e,z⟩
  ·exact .inl l
  ·exact .inr ⟨k,c,e,cellK x c e _ z⟩
 ·obtain⟨v,z⟩:=I.cell x c e;exact⟨v,cellK x c e v z⟩
 ·obtain⟨m,⟨o,_,_,ho,_⟩,_⟩:=I.loc;exact free _ o (fun z=>(hch _ z).2.1 rfl) ho I.free
 ·obtain⟨v,o,ho,hd⟩:=I.cell x c e;exact free c o (fun z=>(hch c z).2.2.1 x c e rfl) ho (I.freeC x c e)
 ·obtain⟨e,n,ne,nf,d⟩:=I.pin p hp;have nch:p.1∉ch:=fun z=>(hch p.1 z).2.2.2 p hp rfl;exact⟨keep p.1 p.2 ne nf nch e n,free p.1 p.2 nch e n,ne,nf,d⟩
theorem Inv.un {t':Nat}(I:Inv X pins σ H s)(u:Un X.fs [] H H' s.heap h')(hok:HOk X.prog X.w H' h'):Inv X pins σ H' { s with heap:=h',toks:=t' }:=by
 obtain⟨m,⟨o,es,ep,ho,r⟩,_⟩:=id I.loc;obtain⟨sl,hL⟩:=u.any ho I.free (by simp);exact I.step (g':=s.gens) (d':=s.drawn) (ch:=[]) (fun _ z=>nomatch z) (fun b o _ hb _ e n=>u.keep b o e n hb (by simp)) (fun b o _ hb _ e n=>u.slot b o e n hb (by simp)) (fun b o _ e n=>u.free b o e n (by simp)) (fun b o _ e=>u.there b o e (by simp)) u.tups u.frzs u.tbls (fun m' hm=>by
  obtain⟨o',es',ep',ho',r'⟩:=hm;rw[ho] at ho';cases ho';exact⟨_,es',ep',hL,r'⟩) hok I.bare
theorem Inv.call {g':Array GenState}{t':Nat}{d':Drawn}{ch:List Addr}(I:Inv X pins σ H s)(u:Un (frs X.stack) ch H H' s.heap h')(hok:HOk X.prog X.w H' h')(hg:AllBare g')(hch:∀b∈ch,(b∈X.ex\/X.s₀.heap.objs.size<=b)/\b≠X.env.locals/\(∀x c,X.env.cells.lookup x=some c->c≠b)/\∀p∈X.pn++pins,p.1≠b) :
  Inv X pins σ H' { s with heap:=h',gens:=g',drawn:=d',toks:=t' }:=by
 obtain⟨m,⟨o,es,ep,ho,r⟩,_⟩:=id I.loc;obtain⟨sl,hL⟩:=u.any ho I.free fun z=>(hch _ z).2.1 rfl;exact I.step (ch:=ch) hch (fun b o hL hb hc e n=>u.keep b o e n (fun z=>(mem_cons.mp (I.stkSub b z)).elim hL hb) hc) (fun b o _ _ hc e n=>u.any e n hc) (fun b o hc e n=>u.free b o e n hc) (fun b o hc e=>u.there b o e hc) u.tups u.frzs u.tbls (fun m' hm=>by
  obtain⟨o',es',ep',ho',r'⟩:=hm;rw[ho] at ho';cases ho';exact⟨_,es',ep',hL,r'⟩) hok hg
theorem Inv.turned {t':Nat}{it:Addr}(I:Inv X pins σ H s)(k:∀b o,b≠it->s.heap.get? b=some o->h'.get? b=some o)(hn:H it=none)(hL:it≠X.env.locals)(h1:it∈X.ex\/X.s₀.heap.objs.size<=it)(h2:∀x c,X.env.cells.lookup x=some c->c≠it)(h3:∀p∈X.pn++pins,p.1≠it):Inv X pins σ H { s with heap:=h',toks:=t' }:=by
 have nit:∀b u,H b=some u->b≠it:=fun b u e z=>by rw[z,hn] at e;cases e
 refine I.step (g':=s.gens) (d':=s.drawn) (ch:=[it]) (fun b hb=>?_) (fun b o _ _ hc e _=>k b o (fun z=>hc (by simp[z])) e) (fun b o _ _ hc e _=>⟨o.slots,k b o (fun z=>hc (by simp[z])) e⟩) (fun _ _ _ _ n=>n)
  (fun b o hc e=>⟨o,k b o (fun z=>hc (by simp[z])) e⟩) (fun _ _ e=>e) (fun _ _ _ e=>e) (fun b ps e=>⟨#[],by rw[e];simp⟩) (fun m hm=>?_) (fun b u e=>?_) I.bare
 ·have e:b=it:=by simpa using hb
  subst e;exact⟨h1,hL,h2,h3⟩
 ·obtain⟨o,es,ep,ho,r⟩:=hm;exact⟨o,es,ep,k _ o (Ne.symm hL) ho,r⟩
 ·refine(I.hok b u e).stay (fun c v hc q=>k c v ?_ q) (fun _ q=>q) fun _ _ q=>q;rcases hc with z | z
  ·rw[z];exact nit b u e
  ·exact nit c _ z
theorem Inv.tok (I:Inv X pins σ H s)(t:Nat):Inv X pins σ H { s with toks:=t }:=I.un (h':=s.heap) (t':=t) Un.refl I.hok
theorem Inv.kept {t':Nat}(I:Inv X pins σ H s)(k:∀b u,s.heap.get? b=some u->h'.get? b=some u):Inv X pins σ H { s with heap:=h',toks:=t' }:=I.un (Un.kept k) (I.hok.kept k)
theorem Inv.laid {a:Addr}{o:HO}{t':Nat}(I:Inv X pins σ H s)(k:∀b u,s.heap.get? b=some u->h'.get? b=some u)(hp:s.heap.objs.size<=a)(new:eI X.prog X.w (upd H a o) h' a o) :
  Inv X pins σ (upd H a o) { s with heap:=h',toks:=t' }:=I.un (Un.laid k hp (I.hok.fresh hp)) (I.hok.laid k hp new)
theorem Inv.write {x e:Addr}{o:HO}{t':Nat}(I:Inv X pins σ H s)(mu:Mut (H x))(he:e=x\/H e=some (.own x))(k:∀b u,b≠e->s.heap.get? b=some u->h'.get? b=some u)(heo:∃u,h'.get? e=some u)(new:eI X.prog X.w (upd H x o) h' x o):Inv X pins σ (upd H x o) { s with heap:=h',toks:=t' }:=I.un (Un.write mu he k heo) (I.hok.write mu he k heo new)
theorem Inv.weak {σ':List (Option V)}(I:Inv X pins σ H s)(hl:σ'.length=σ.length)(w:∀(i:Nat) v,σ'[i]?=some (some v)->σ[i]?=some (some v)):Inv X pins σ' H s:=
 ⟨I.ok,I.os,I.bare,I.base,let ⟨m,hn,hl'⟩:=I.loc;⟨m,hn,fun i x v e1 e2 e3=>hl' i x v e1 (w i v e2) e3⟩,I.cell,I.free,I.freeC,I.pin,I.hok,hl.trans I.len⟩
theorem Inv.pins_of {pins':List (Addr × Obj)}(I:Inv X pins σ H s)(h:∀p∈pins',s.heap.get? p.1=some p.2/\H p.1=none/\p.1≠X.env.locals/\p.1∉X.fs/\∀v,p.2.data≠.cell v):Inv X pins' σ H s:=
 ⟨I.ok,I.os,I.bare,I.base,I.loc,I.cell,I.free,I.freeC,fun p hp=>(mem_append.mp hp).elim (fun z=>I.pin p (mem_append_left _ z)) (h p),I.hok,I.len⟩
theorem Az {N:List Str}(hN:N.Nodup){i j:Nat}{x:Str}(a:N[i]?=some x)(b:N[j]?=some x):i=j:=by
 obtain⟨h1,e1⟩:=List.getElem?_eq_some_iff.mp a;obtain⟨h2,e2⟩:=List.getElem?_eq_some_iff.mp b;exact(getElem_inj hN).mp (e1.trans e2.symm)
theorem wJ {M:Model}{A:Around}{E:Value->Shared->Prop}{i:Nat}{x:Str}{v:V}{u:Value}{Q:Unit->Shared->Prop}(I:Inv X pins σ H s)(hN:X.N.Nodup)(hi:X.N[i]?=some x)(hx:Loc X.env.scope x)(r:cC v u)(h:∀s',Inv X pins (σ.set i (some v)) H s'->(∃a,Heap.SameBut a s.heap s'.heap/\(a=X.env.locals\/X.env.cells.lookup x=some a))->Q () s')(hf:X.fn x=true\/X.env.scope.names.lookup x=some .local:=by first | exact .inl rfl | exact .inr rfl | assumption):wpAny M A (storeName X.env x u) Q E s:=by
 obtain⟨m,hn,hl⟩:=id I.loc;have hcls:(X.env.scope.kind == .class || (X.env.scope.kind == .module && X.env.locals != X.env.globals))=false:=by rw[I.ok.kind];rfl
 have hiσ:i < σ.length:=by rw[I.len];exact(List.getElem?_eq_some_iff.mp hi).1
 have cne:=I.cne;have tracked:∀{a:Addr} {h':Heap},(∃o,s.heap.get? a=some o/\H a=none)->Heap.SameBut a s.heap h'->HOk X.prog X.w H h':=fun {a h'} ha hs b ob e=>by
  obtain⟨_,_,hfree⟩:=ha;refine(I.hok b ob e).stay (fun c w' hc q=>(hs.2 c ?_).trans q) (fun _ q=>q) fun _ _ q=>q;rintro rfl;rcases hc with rfl | hc
  ·rw[hfree] at e;cases e
  ·rw[hfree] at hc;cases hc
 rcases hx with hk | hk
 ·refine wpAny_storeName_local hk hn (fun h' hn' hs=>?_) hcls;obtain⟨oL,_,_,hoL,_⟩:=id hn;refine h _ ⟨I.ok,I.os,I.bare,⟨fun b o e n hb hx=>?_,fun b o e n hb hx=>?_,I.base.free,fun b o e hx=>?_,I.base.tups,I.base.frzs,I.base.tbls⟩,⟨_,hn',fun j y v' e1 e2 e3=>?_⟩,fun y c e=>?_,I.free,I.freeC,fun p hp=>?_,tracked ⟨oL,hoL,I.free⟩ hs,by simpa using I.len⟩ ⟨_,hs,.inl rfl⟩
  ·exact(hs.2 b (Nat.ne_of_lt (Nat.lt_of_lt_of_le (Heap.lt_size e) I.ok.above))).trans (I.base.keep b o e n hb hx)
  ·obtain⟨sl,e1⟩:=I.base.slot b o e n hb hx;exact⟨sl,(hs.2 b (Nat.ne_of_lt (Nat.lt_of_lt_of_le (Heap.lt_size e) I.ok.above))).trans e1⟩
  ·obtain⟨o',e1⟩:=I.base.there b o e hx;exact⟨o',(hs.2 b (Nat.ne_of_lt (Nat.lt_of_lt_of_le (Heap.lt_size e) I.ok.above))).trans e1⟩
  ·by_cases hj:j=i
   ·subst hj;rw[hi] at e1;cases e1;rw[getElem?_set_self hiσ] at e2
    cases e2
    exact⟨u,r,.inl ⟨hk,by simp⟩⟩
   ·rw[getElem?_set_ne (Ne.symm hj)] at e2;obtain⟨u',r',q⟩:=hl j y v' e1 e2 e3;refine⟨u',r',?_⟩;rcases q with ⟨k,e⟩ | ⟨k,c,e,z⟩
    ·refine .inl ⟨k,?_⟩;have:y≠x:=fun e=>hj (Az hN e1 (e ▸ hi));simp[this,e]
    ·exact .inr ⟨k,c,e,z.sameBut hs (cne y c e)⟩
  ·obtain⟨w',z⟩:=I.cell y c e;exact⟨w',z.sameBut hs (cne y c e)⟩
  ·obtain⟨e,n,ne,nf,d⟩:=I.pin p hp;exact⟨(hs.2 p.1 ne).trans e,n,ne,nf,d⟩
 ·have hfn:X.fn x=true:=by
   rcases hf with z | z
   ·exact z
   ·rw[z] at hk;cases hk
  obtain⟨c,hc⟩:=I.ok.has x (.inl hk);obtain⟨w',z⟩:=I.cell x c hc;refine wpAny_storeName_cell I.ok.kind hk hc z (fun h' hc' hs=>?_);obtain⟨oc,hoc,hocd⟩:=id z;refine h { s with heap:=h' } ⟨I.ok,I.os,I.bare,⟨fun b o e n hb hx=>?_,fun b o e n hb hx=>?_,I.base.free,fun b o e hx=>?_,I.base.tups,I.base.frzs,I.base.tbls⟩,⟨m,hn.sameBut hs (Ne.symm (cne x c hc)),fun j y v' e1 e2 e3=>?_⟩,fun y c' e=>?_,I.free,I.freeC,fun p hp=>?_,tracked ⟨oc,hoc,I.freeC x c hc⟩ hs,by simpa using I.len⟩ ⟨c,hs,.inr hc⟩
  ·exact(hs.2 b (Nat.ne_of_lt (Nat.lt_of_lt_of_le (Heap.lt_size e) (I.ok.cab x c hfn hc)))).trans (I.base.keep b o e n hb hx)
  ·obtain⟨sl,e1⟩:=I.base.slot b o e n hb hx;exact⟨sl,(hs.2 b (Nat.ne_of_lt (Nat.lt_of_lt_of_le (Heap.lt_size e) (I.ok.cab x c hfn hc)))).trans e1⟩
  ·obtain⟨o',e1⟩:=I.base.there b o e hx;exact⟨o',(hs.2 b (Nat.ne_of_lt (Nat.lt_of_lt_of_le (Heap.lt_size e) (I.ok.cab x c hfn hc)))).trans e1⟩
  ·by_cases hj:j=i
   ·subst hj;rw[hi] at e1;cases e1;rw[getElem?_set_self hiσ] at e2
    cases e2
    exact⟨u,r,.inr ⟨.inl hk,c,hc,hc'⟩⟩
   ·rw[getElem?_set_ne (Ne.symm hj)] at e2;obtain⟨u',r',q⟩:=hl j y v' e1 e2 e3;refine⟨u',r',?_⟩;rcases q with q | ⟨k,c',e,z'⟩
    ·exact .inl q
    ·refine .inr ⟨k,c',e,z'.sameBut hs ?_⟩;rintro rfl;exact hj (Az hN e1 (I.ok.inj _ _ _ e hc ▸ hi))
  ·by_cases hcc:c'=c
   ·subst hcc;exact⟨_,hc'⟩
   ·obtain⟨w2,z2⟩:=I.cell y c' e;exact⟨w2,z2.sameBut hs hcc⟩
  ·obtain⟨e,n,ne,nf,d⟩:=I.pin p hp;refine⟨(hs.2 p.1 ?_).trans e,n,ne,nf,d⟩;intro q;rw[q,hoc] at e;have q':oc=p.2:=Option.some.inj e;exact d w' (by rw[<- q'];exact hocd)
theorem lZ {M:Model}{A:Around}{E:Value->Shared->Prop}{i:Nat}{x:Str}{v:V}{u:Value}{Q:Unit->Shared->Prop}(I:Inv X pins σ H s)(hN:X.N.Nodup)(hi:X.N[i]?=some x)(hx:Loc X.env.scope x)(r:cC v u)(h:∀s',Inv X pins (σ.set i (some v)) H s'->Q () s')(hf:X.fn x=true\/X.env.scope.names.lookup x=some .local:=by first | exact .inl rfl | exact .inr rfl | assumption):wpAny M A (storeName X.env x u) Q E s:=
 wJ I hN hi hx r (fun s' I' _=>h s' I') hf
theorem Inv.call' {s':Shared}{ch:List Addr}(I:Inv X pins σ H s)(ho:s'.os=s.os)(u:Un (frs X.stack) ch H H' s.heap s'.heap)(hok:HOk X.prog X.w H' s'.heap)(hg:AllBare s'.gens)(hch:∀b∈ch,(b∈X.ex\/X.s₀.heap.objs.size<=b)/\b≠X.env.locals/\(∀x c,X.env.cells.lookup x=some c->c≠b)/\∀p∈X.pn++pins,p.1≠b):Inv X pins σ H' s':=by
 obtain⟨h',g',d',t',o'⟩:=s';have e:o'=s.os:=ho;subst e;exact I.call (g':=g') (t':=t') (d':=d') u hok hg hch
end
abbrev XK:=Value->Option Addr->Hp->Prop
abbrev St:=List (Option V)
abbrev VK:=V->Hp->Prop
abbrev TE:=St->Hp->VK->Prop
abbrev TT:=St->Hp->(Bool->Hp->Prop)->Prop
abbrev TA:=St->Hp->(List V->Hp->Prop)->Prop
structure lH where
 nx:St->Hp->Prop
 rt:VK
 bk:St->Hp->Prop:=fun _ _=>False
 ct:St->Hp->Prop:=fun _ _=>False
abbrev TS:=lH->St->Hp->Prop
def EP (X:Cx)(pins:List (Addr × Obj))(σ:St)(Q:VK)(u:Value)(s':Shared):Prop:=∃v H',Inv X pins σ H' s'/\cC v u/\Q v H'
def TP (X:Cx)(pins:List (Addr × Obj))(σ:St)(Q:Bool->Hp->Prop)(b:Bool)(s':Shared):Prop:=∃H',Inv X pins σ H' s'/\Q b H'
def AP (X:Cx)(pins:List (Addr × Obj))(σ:St)(Q:List V->Hp->Prop)(us:List Value)(s':Shared):Prop:=∃vs H',Inv X pins σ H' s'/\bZ vs us/\Q vs H'
def SP (X:Cx)(pins:List (Addr × Obj))(D:lH)(f:Flow)(s':Shared):Prop:=
 match f with
 | .next=>∃σ' H',Inv X pins σ' H' s'/\D.nx σ' H'
 | .brk=>∃σ' H',Inv X pins σ' H' s'/\D.bk σ' H'
 | .cont=>∃σ' H',Inv X pins σ' H' s'/\D.ct σ' H'
 | .ret u=>∃v σ' H',Inv X pins σ' H' s'/\cC v u/\D.rt v H'
def PE (X:Cx)(e:Expr)(t:TE):Prop:=
 ∀(pins:List (Addr × Obj)) (s:Shared) (σ:St) (H:Hp) (Q:VK),Inv X pins σ H s->t σ H Q->wpAny (model X.prog X.w) X.A (eval e X.env) (EP X pins σ Q) X.xe s
def PT (X:Cx)(e:Expr)(t:TT):Prop:=
 ∀(pins:List (Addr × Obj)) (s:Shared) (σ:St) (H:Hp) (Q:Bool->Hp->Prop),Inv X pins σ H s->t σ H Q->wpAny (model X.prog X.w) X.A (isTrue e X.env (eval e X.env)) (TP X pins σ Q) X.xe s
def PW (X:Cx)(e:Expr)(t:TT):Prop:=
 ∀(whole:Sem Value) (pins:List (Addr × Obj)) (s:Shared) (σ:St) (H:Hp) (Q:Bool->Hp->Prop),Inv X pins σ H s->t σ H Q->wpAny (model X.prog X.w) X.A (isTrue e X.env whole) (TP X pins σ Q) X.xe s
theorem PW.pt {X:Cx}{e:Expr}{t:TT}(h:PW X e t):PT X e t:=h _
def PA (X:Cx)(es:List Expr)(t:TA):Prop:=
 ∀(pos:Pos) (pins:List (Addr × Obj)) (s:Shared) (σ:St) (H:Hp) (Q:List V->Hp->Prop),Inv X pins σ H s->t σ H Q->wpAny (model X.prog X.w) X.A (spliced (backTo pos (starEach es X.env))) (AP X pins σ Q) X.xe s
def PS (X:Cx)(st:Stmt)(t:TS):Prop:=
 ∀(pins:List (Addr × Obj)) (s:Shared) (σ:St) (H:Hp) (D:lH),Inv X pins σ H s->t D σ H->wpAny (model X.prog X.w) X.A (exec st X.env) (SP X pins D) X.xe s
def PSs (X:Cx)(st:List Stmt)(t:TS):Prop:=
 ∀(pins:List (Addr × Obj)) (s:Shared) (σ:St) (H:Hp) (D:lH),Inv X pins σ H s->t D σ H->wpAny (model X.prog X.w) X.A (execs st X.env) (SP X pins D) X.xe s
theorem thn {α:Type}{t:Sem α}{Q Q':α->Shared->Prop}{M:Model}{A:Around}{E:Value->Shared->Prop}{s:Shared}(h:wpAny M A t Q E s)(hQ:∀a s,Q a s->Q' a s):wpAny M A t Q' E s:=wpAny_mono h hQ fun _ _ x=>x
section
variable {X:Cx}
def Sy (i:Nat):TE:=fun σ H Q=>∃v,σ[i]?=some (some v)/\Q v H
def tC (v:V):TE:=fun _ H Q=>Q v H
theorem My {i:Nat}{x:Str}{pos:Pos}(hN:X.N[i]?=some x)(hv:Vis X.env.scope x)(hd:(x == ("__debug__":Str))=false:=by decide)(hcd:(x == ("__classdict__":Str))=false:=by decide):PE X (.Name x pos) (Sy i):=by
 intro pins s σ H Q I h;obtain⟨v,e,h⟩:=h;obtain⟨m,hn,hl⟩:=I.loc;obtain⟨u,r,l⟩:=hl i x v hN e hv;have fin:EP X pins σ Q u s:=⟨v,H,I,r,h⟩
 rcases l with ⟨hk,hm⟩ | ⟨hk,c,hc,hcell⟩
 ·exact wpAny_Name (wpAny_loadName_local I.ok.kind hk hn hm fin) hd
 ·rcases hk with hk | hk
  ·exact wpAny_Name (wpAny_loadName_cell I.ok.kind hk hc hcell fin) hd
  ·exact wpAny_Name (wpAny_loadName_free I.ok.kind hk hc hcell fin hcd) hd
theorem aE {i j pos}:PE X (.Constant (.int i) j pos) (tC (.int i)):=fun _ _ _ H _ I h=>wpAny_Constant_int ⟨.int i,H,I.tok _,⟨_,rfl⟩,h⟩
theorem iB {b j pos}:PE X (.Constant (.bool b) j pos) (tC (.bl b)):=fun _ _ _ H _ I h=>Constant_bool ⟨.bl b,H,I,rfl,h⟩
theorem Ww {j pos}:PE X (.Constant .none j pos) (tC .non):=fun _ _ _ H _ I h=>Constant_none ⟨.non,H,I,rfl,h⟩
theorem cL {x j pos}:PE X (.Constant (.str x) j pos) (tC (.str x)):=fun _ _ _ H _ I h=>Calls.Constant_str ⟨.str x,H,I.tok _,⟨_,rfl⟩,h⟩
def Gl (X:Cx)(x:Str):Prop:=X.env.kindOf x=some .globalImplicit
theorem xV {E:Value->Shared->Prop}{pins:List (Addr × Obj)}{s:Shared}{σ:St}{H:Hp}{x:Str}{u:Value}{pos:Pos}{Q:Value->Shared->Prop}(I:Inv X pins σ H s)(hg:Gl X x)(hm:X.mg x=some u)(h:Q u s)(hd:(x == ("__debug__":Str))=false:=by decide):wpAny (model X.prog X.w) X.A (eval (.Name x pos) X.env) Q E s:=
 Calls.Name_function_global I.ok.kind hg (Calls.loadGlobal_global (by rw[I.ok.glob];exact I.mod.glob.keeps I.bk) hm h) hd
theorem kJ {E:Value->Shared->Prop}{pins:List (Addr × Obj)}{s:Shared}{σ:St}{H:Hp}{x:Str}{u:Value}{pos:Pos}{Q:Value->Shared->Prop}(I:Inv X pins σ H s)(hg:Gl X x)(hm:X.mg x=none)(hv:bootBuiltins x=some u)(h:Q u s)(hn:x≠"__name__":=by decide)(hd:(x == ("__debug__":Str))=false:=by decide):wpAny (model X.prog X.w) X.A (eval (.Name x pos) X.env) Q E s:=by
 obtain⟨mb,h1,h2⟩:=I.mod.blt;exact Calls.Name_function_global I.ok.kind hg (Calls.loadGlobal_builtin (by rw[I.ok.glob];exact I.mod.glob.keeps I.bk) hm (by rw[I.ok.blt];exact h1.keeps I.bk) ((h2 x hn).trans hv) h) hd
theorem dI {x:Str}{v:V}{u:Value}{pos:Pos}(hg:Gl X x)(hm:X.mg x=some u)(r:cC v u)(hd:(x == ("__debug__":Str))=false:=by decide):PE X (.Name x pos) (tC v):=
 fun _ _ _ H _ I h=>xV I hg hm ⟨v,H,I,r,h⟩ hd
theorem Qi {x:Str}{v:V}{u:Value}{pos:Pos}(hg:Gl X x)(hm:X.mg x=none)(hv:bootBuiltins x=some u)(r:cC v u)(hn:x≠"__name__":=by decide)(hd:(x == ("__debug__":Str))=false:=by decide):PE X (.Name x pos) (tC v):=
 fun _ _ _ H _ I h=>kJ I hg hm hv ⟨v,H,I,r,h⟩ hn hd
variable {a b:Expr} {ta tb:TE} {pos:Pos}
def PC (X:Cx)(op:CmpOp)(a b:Expr)(t:TE):Prop:=
 ∀(pins:List (Addr × Obj)) (s:Shared) (σ:St) (H:Hp) (Q:VK),Inv X pins σ H s->t σ H Q->
  wpAny (model X.prog X.w) X.A (eval a X.env) (fun v s₁=>wpAny (model X.prog X.w) X.A (eval b X.env) (fun u s₂=>wpAny (model X.prog X.w) X.A (compareOp op v u) (EP X pins σ Q) X.xe s₂) X.xe s₁) X.xe s
theorem Kv (b:Expr){op:CmpOp}(h:op≠.In)(h2:op≠.NotIn):behindInMarks op b=false:=by
 have e1:(op == CmpOp.In)=false:=by cases op<;>first | rfl | exact absurd rfl h
 have e2:(op == CmpOp.NotIn)=false:=by cases op<;>first | rfl | exact absurd rfl h2
 cases b<;>simp[behindInMarks,e1,e2]
def qc3 (ta:TE):TE:=fun σ H Q=>ta σ H fun x H1=>Q (.bl (decide (x=.non))) H1
theorem cC.none_iff {x:V}{v:Value}(r:cC x v):(v == Value.none)=decide (x=.non):=by
 cases x with
 |non=>cases r;rfl
 |bl _=>cases r;rfl
 |int _=>obtain⟨t,rfl⟩:=r;rfl
 |str _=>obtain⟨t,rfl⟩:=r;rfl
 |byt _=>obtain⟨t,rfl⟩:=r;rfl
 |flt _=>obtain⟨t,rfl⟩:=r;rfl
 |ref _=>cases r;rfl
 |ty _=>cases r;rfl
theorem Co {j pos'}(ha:PE X a ta):PC X .Is a (.Constant .none j pos') (qc3 ta):=by
 intro pins s σ H Q I h;refine thn (ha pins s σ H _ I h) fun v s1 ⟨x,H1,I1,r1,q1⟩=>?_;exact Constant_none (is_none_gen ⟨.bl _,H1,I1,by rw[r1.none_iff];rfl,q1⟩)
def tB (t:TE):TT:=fun σ H Q=>t σ H fun x H1=>∃c,x=.bl c/\Q c H1
theorem yK {op:CmpOp}{t:TE}(h:PC X op a b t)(h1:behindInMarks op b=false:=by first | exact Kv _ (by decide) (by decide) | rfl):PT X (.Compare a [op] [b] pos) (tB t):=by
 intro pins s σ H Q I hw;refine wpAny_isTrue_Compare1 (thn (h pins s σ H _ I hw) fun v s1 h1=>thn h1 fun u s2 h2=>thn h2 fun c s3 ⟨x,H1,I1,r1,q1⟩=>?_) h1;obtain⟨d,rfl,q⟩:=q1
 cases r1
 exact wpAny_truthy_bool ⟨H1,I1,q⟩
theorem dU {e:Expr}{t:TE}(h:PE X e t)(he:∀whole,isTrue e X.env whole=(do let v <- whole;standAt e.pos;holding [v] (truthy v)):=by intro _;rfl):PT X e (tB t):=by
 intro pins s σ H Q I hw;refine isTrue_plain (thn (h pins s σ H _ I hw) fun v s1 ⟨x,H1,I1,r1,q1⟩=>?_) (he _);obtain⟨d,rfl,q⟩:=q1
 cases r1
 exact wpAny_truthy_bool ⟨H1,I1,q⟩
variable {tA tB':TT} {rest:List Expr}
def qd7 (t u:TT):TT:=fun σ H Q=>t σ H fun c H1=>if c=true then u σ H1 Q else Q false H1
def tOr (t u:TT):TT:=fun σ H Q=>t σ H fun c H1=>if c=true then Q true H1 else u σ H1 Q
def qe7 (t:TT):TT:=fun σ H Q=>t σ H fun c H1=>Q (!c) H1
theorem pG (ha:PT X a tA):PW X (.BoolOp .And [a] pos) tA:=by
 intro wh pins s σ H Q I h;refine isTrue_and (thn (ha pins s σ H Q I h) fun c s1 e=>?_)
 cases c with
 |true=>exact isTrue_and_nil e
 |false=>exact e
theorem lW (ha:PT X a tA):PW X (.BoolOp .Or [a] pos) tA:=by
 intro wh pins s σ H Q I h;refine isTrue_or (thn (ha pins s σ H Q I h) fun c s1 e=>?_)
 cases c with
 |false=>exact isTrue_or_nil e
 |true=>exact e
theorem uK (ha:PT X a tA)(hb:PW X (.BoolOp .And (b :: rest) pos) tB'):PW X (.BoolOp .And (a :: b :: rest) pos) (qd7 tA tB'):=by
 intro wh pins s σ H Q I h;refine isTrue_and (thn (ha pins s σ H _ I h) fun c s1 ⟨H1,I1,q1⟩=>?_)
 cases c with
 |true=>exact hb wh pins s1 σ H1 Q I1 q1
 |false=>exact⟨H1,I1,q1⟩
theorem nT (ha:PT X a tA)(hb:PW X (.BoolOp .Or (b :: rest) pos) tB'):PW X (.BoolOp .Or (a :: b :: rest) pos) (tOr tA tB'):=by
 intro wh pins s σ H Q I h;refine isTrue_or (thn (ha pins s σ H _ I h) fun c s1 ⟨H1,I1,q1⟩=>?_)
 cases c with
 |true=>exact⟨H1,I1,q1⟩
 |false=>exact hb wh pins s1 σ H1 Q I1 q1
theorem fV (ha:PT X a tA):PT X (.UnaryOp .Not a pos) (qe7 tA):=by
 intro pins s σ H Q I h;exact isTrue_not (ha pins s σ H (fun c H1=>Q (!c) H1) I h)
def Yk (ta tb:TE):TE:=fun σ H Q=>ta σ H fun x H1=>∃c,x=.bl c/\if c=true then tb σ H1 Q else Q (.bl false) H1
def Ym (ta:TE):TE:=fun σ H Q=>ta σ H fun x H1=>∃c,x=.bl c/\Q (.bl (!c)) H1
theorem qH {op}{t:TE}(h:PE X a t):PE X (.BoolOp op [a] pos) t:=fun pins s σ H Q I hw=>BoolOp_one (h pins s σ H Q I hw)
theorem kT (ha:PE X a ta)(hb:PE X (.BoolOp .And (b :: rest) pos) tb):PE X (.BoolOp .And (a :: b :: rest) pos) (Yk ta tb):=by
 intro pins s σ H Q I h;refine BoolOp_and (thn (ha pins s σ H _ I h) fun v s1 ⟨x,H1,I1,r1,q1⟩=>?_);obtain⟨c,rfl,q1⟩:=q1
 cases r1
 refine wpAny_truthy_bool ?_
 cases c with
 |true=>exact hb pins s1 σ H1 Q I1 q1
 |false=>exact⟨.bl false,H1,I1,rfl,q1⟩
theorem Vz (ha:PE X a ta):PE X (.UnaryOp .Not a pos) (Ym ta):=by
 intro pins s σ H Q I h;refine UnaryOp_ (thn (ha pins s σ H _ I h) fun v s1 ⟨x,H1,I1,r1,q1⟩=>?_);obtain⟨c,rfl,q1⟩:=q1
 cases r1
 exact not_of (wpAny_truthy_bool ⟨.bl (!c),H1,I1,rfl,q1⟩)
def tIf (t:TT)(ta tb:TE):TE:=fun σ H Q=>t σ H fun c H1=>if c=true then ta σ H1 Q else tb σ H1 Q
theorem sM {c:Expr}(hc:PT X c tA)(ha:PE X a ta)(hb:PE X b tb):PE X (.IfExp c a b pos) (tIf tA ta tb):=by
 intro pins s σ H Q I h;refine wpAny_IfExp (thn (hc pins s σ H _ I h) fun d s1 ⟨H1,I1,q1⟩=>?_)
 cases d with
 |true=>exact ha pins s1 σ H1 Q I1 q1
 |false=>exact hb pins s1 σ H1 Q I1 q1
end
def SqL (K:Frag)(H:Hp)(a:Addr)(xs:List V):Prop:=
 Rd H a (.lst xs)\/
  ∃(o:Obj) (its:Array Value) (n:Nat),K.lookup a=some o/\o.cls=.type "list"/\o.dict=none/\o.data=.seq its n/\its.size<=sizeLine/\bZ xs its.toList
def SqT (K:Frag)(H:Hp)(a:Addr)(xs:List V):Prop:=
 Rd H a (.tup xs)\/
  ∃(o:Obj) (its:Array Value) (n:Nat),K.lookup a=some o/\o.cls=.type "tuple"/\o.data=.seq its n/\its.size<=sizeLine/\bZ xs its.toList
def qb9:Value->Option V
 | .none=>some .non
 | .bool b=>some (.bl b)
 | .int i _=>some (.int i)
 | .str x _=>some (.str x)
 | .bytes b _=>some (.byt b)
 | .float b _=>some (.flt b)
 | .ref a=>some (.ref a)
 | .type n=>some (.ty n)
 |_=>none
theorem cC.abs {x:V}{u:Value}(r:cC x u):qb9 u=some x:=by
 cases x with
 |non=>cases r;rfl
 |bl _=>cases r;rfl
 |int _=>obtain⟨t,rfl⟩:=r;rfl
 |str _=>obtain⟨t,rfl⟩:=r;rfl
 |byt _=>obtain⟨t,rfl⟩:=r;rfl
 |flt _=>obtain⟨t,rfl⟩:=r;rfl
 |ref _=>cases r;rfl
 |ty _=>cases r;rfl
theorem cC.inj {x y:V}{u:Value}(r:cC x u)(q:cC y u):x=y:=Option.some.inj (r.abs.symm.trans q.abs)
theorem bZ.inj:∀{xs ys:List V} {us:List Value},bZ xs us->bZ ys us->xs=ys
 |_,_,_,.nil,.nil=>rfl
 |_,_,_,.cons r t,.cons r' t'=>by rw[r.inj r',bZ.inj t t']
section
variable {X:Cx} {pins:List (Addr × Obj)} {σ:St} {H:Hp} {s:Shared} {a:Addr} {xs ys:List V}
theorem SqL.of {K:Frag}(h:H a=some (.lst xs)):SqL K H a xs:=.inl (.inl h)
theorem SqT.of {K:Frag}(h:H a=some (.tup xs)):SqT K H a xs:=.inl (.inl h)
theorem Inv.list (I:Inv X pins σ H s)(h:SqL X.K H a xs):∃its:List Value,bZ xs its/\PlainL s.heap a its.toArray/\xs.length<=sizeLine:=by
 rcases h with h | ⟨o,its,n,hk,hc,hd,hs,hz,r⟩
 ·obtain⟨z,its,n,r,e⟩:=h.ok I.hok;exact⟨its,r,⟨_,n,e,rfl,rfl,rfl⟩,z⟩
 ·refine⟨its.toList,r,⟨o,n,I.kIn a o hk,hc,hd,by simpa using hs⟩,?_⟩;have e:=r.length;simp only[Array.length_toList] at e;lia
theorem Inv.tuple (I:Inv X pins σ H s)(h:SqT X.K H a xs):∃its:List Value,bZ xs its/\IsTup s.heap a its.toArray/\xs.length<=sizeLine:=by
 rcases h with h | ⟨o,its,n,hk,hc,hs,hz,r⟩
 ·obtain⟨z,its,r,p⟩:=h.ok I.hok;exact⟨its,r,p,z⟩
 ·refine⟨its.toList,r,⟨o,I.kIn a o hk,hc,n,by simpa using hs⟩,?_⟩;have e:=r.length;simp only[Array.length_toList] at e;lia
theorem Inv.list_inj (I:Inv X pins σ H s)(h:SqL X.K H a xs)(h':SqL X.K H a ys):xs=ys:=by
 obtain⟨its,r,⟨o,n,e,_,_,d⟩,_⟩:=I.list h;obtain⟨its',r',⟨o',n',e',_,_,d'⟩,_⟩:=I.list h';rw[e] at e';cases e';rw[d] at d';injection d' with d1 _
 have:its=its':=by simpa using congrArg Array.toList d1
 subst this;exact r.inj r'
theorem Inv.tuple_inj (I:Inv X pins σ H s)(h:SqT X.K H a xs)(h':SqT X.K H a ys):xs=ys:=by
 obtain⟨its,r,⟨o,e,_,n,d⟩,_⟩:=I.tuple h;obtain⟨its',r',⟨o',e',_,n',d'⟩,_⟩:=I.tuple h';rw[e] at e';cases e';rw[d] at d';injection d' with d1 _
 have:its=its':=by simpa using congrArg Array.toList d1
 subst this;exact r.inj r'
end
abbrev Cx.wish (X:Cx)(E:Value->Shared->Prop):Cx:={ X with xe:=E }
abbrev Cx.nox (X:Cx):Cx:=X.wish fun _ _=>False
theorem Cx.Ok.wish {X:Cx}(ok:X.Ok)(E:Value->Shared->Prop):(X.wish E).Ok:=
 ⟨ok.mod,ok.kind,ok.glob,ok.blt,ok.above,ok.inj,ok.has,ok.cab,ok.hd,ok.frames,ok.stk,ok.exf,ok.bs,ok.bsz,ok.noex,ok.exfs,ok.funs,ok.frf⟩
theorem Cx.Ok.unwish {X:Cx}{E:Value->Shared->Prop}(ok:(X.wish E).Ok):X.Ok:=
 ⟨ok.mod,ok.kind,ok.glob,ok.blt,ok.above,ok.inj,ok.has,ok.cab,ok.hd,ok.frames,ok.stk,ok.exf,ok.bs,ok.bsz,ok.noex,ok.exfs,ok.funs,ok.frf⟩
section
variable {X:Cx} {pins:List (Addr × Obj)} {σ:St} {H:Hp} {s:Shared} {E:Value->Shared->Prop}
theorem Inv.wish (I:Inv X pins σ H s)(E:Value->Shared->Prop):Inv (X.wish E) pins σ H s:=⟨I.ok.wish E,I.os,I.bare,I.base,I.loc,I.cell,I.free,I.freeC,I.pin,I.hok,I.len⟩
theorem Inv.unwish (I:Inv (X.wish E) pins σ H s):Inv X pins σ H s:=⟨I.ok.unwish,I.os,I.bare,I.base,I.loc,I.cell,I.free,I.freeC,I.pin,I.hok,I.len⟩
theorem SP.unwish {D:lH}{f:Flow}{s':Shared}(h:SP (X.wish E) pins D f s'):SP X pins D f s':=by
 cases f with
 |next=>obtain⟨σ',H',I,q⟩:=h;exact⟨σ',H',I.unwish,q⟩
 |brk=>obtain⟨σ',H',I,q⟩:=h;exact⟨σ',H',I.unwish,q⟩
 |cont=>obtain⟨σ',H',I,q⟩:=h;exact⟨σ',H',I.unwish,q⟩
 |ret u=>obtain⟨v,σ',H',I,r,q⟩:=h;exact⟨v,σ',H',I.unwish,r,q⟩
theorem PSs.nox {st:List Stmt}{t:TS}(h:PSs X.nox st t):PSs X st t:=fun pins s σ H D I hw=>
 wpAny_mono (h pins s σ H D (I.wish _) hw) (fun _ _ q=>q.unwish) fun _ _ z=>False.elim z
end
section
variable {X:Cx} {st:Stmt} {rest:List Stmt} {t u:TS} {e:Expr} {te:TE} {pos:Pos}
def Yz:TS:=fun D σ H=>D.nx σ H
def gE (t u:TS):TS:=fun D σ H=>t { D with nx:=u D } σ H
theorem bH:PSs X [] Yz:=fun _ _ σ H _ I h=>wpAny_execs_nil ⟨σ,H,I,h⟩
theorem aC (h1:PS X st t)(h2:PSs X rest u):PSs X (st :: rest) (gE t u):=by
 intro pins s σ H D I h;refine wpAny_execs_cons (thn (h1 pins s σ H { D with nx:=u D } I h) fun f s1 q=>?_)
 cases f with
 |next=>
  obtain⟨σ',H',I',q⟩:=q;exact h2 pins s1 σ' H' D I' q
 |ret v=>exact q
 |brk=>exact q
 |cont=>exact q
theorem aF (h1:PS X st t):PSs X [st] t:=by
 intro pins s σ H D I h;refine wpAny_execs_cons (thn (h1 pins s σ H D I h) fun f s1 q=>?_)
 cases f with
 |next=>exact wpAny_execs_nil q
 |ret v=>exact q
 |brk=>exact q
 |cont=>exact q
def Za:TS:=fun D σ H=>D.ct σ H
theorem Bi:PS X (.Continue pos) Za:=fun _ _ σ H _ I h=>wpAny_Continue ⟨σ,H,I,h⟩
theorem Inv.quiet {pins:List (Addr × Obj)}{σ:St}{H:Hp}{s:Shared}(I:Inv X pins σ H s):interactive X.env=false:=by simp[interactive,I.ok.kind]
def Yw (te:TE):TS:=fun D σ H=>te σ H fun _ H1=>D.nx σ H1
theorem bY (he:PE X e te)(hs:swapsWith e none pos.line X.env=pure false:=by rfl):PS X (.Expr e pos) (Yw te):=by
 intro pins s σ H D I h;exact wpAny_Expr_any (thn (he pins s σ H _ I h) fun v s1 ⟨x,H1,I1,r1,q1⟩=>⟨σ,H1,I1,q1⟩) I.quiet hs
def qe5 (te:TE):TS:=fun D σ H=>te σ H D.rt
theorem aX (he:PE X e te):PS X (.Return (some e) pos) (qe5 te):=by
 intro pins s σ H D I h;exact wpAny_Return_some (thn (he pins s σ H _ I h) fun v s1 ⟨x,H1,I1,r1,q1⟩=>⟨x,σ,H1,I1,r1,q1⟩)
def qd4 (c:TT)(t u:TS):TS:=fun D σ H=>c σ H fun b H1=>if b=true then t D σ H1 else u D σ H1
theorem cA {c:Expr}{a b:List Stmt}{tc:TT}(hc:PT X c tc)(ha:PSs X a t)(hb:PSs X b u):PS X (.If c a b pos) (qd4 tc t u):=by
 intro pins s σ H D I h;refine wpAny_If (thn (hc pins s σ H _ I h) fun d s1 ⟨H1,I1,q1⟩=>?_)
 cases d with
 |true=>exact ha pins s1 σ H1 D I1 q1
 |false=>exact hb pins s1 σ H1 D I1 q1
def Oh:TS:=fun _ _ _=>False
theorem fY:PS X st Oh:=fun _ _ _ _ _ _ h=>h.elim
theorem Jn {sts:List Stmt}:PSs X sts Oh:=fun _ _ _ _ _ _ h=>h.elim
end
abbrev TG:=V->St->Hp->(St->Hp->Prop)->Prop
abbrev TGs:=List V->St->Hp->(St->Hp->Prop)->Prop
def PG (X:Cx)(target:Expr)(t:TG):Prop:=
 ∀(pins:List (Addr × Obj)) (s:Shared) (σ:St) (H:Hp) (v:V) (u:Value) (Q:St->Hp->Prop),Inv X pins σ H s->cC v u->t v σ H Q->
  wpAny (model X.prog X.w) X.A (assign target X.env u) (fun _ s'=>∃σ' H',Inv X pins σ' H' s'/\Q σ' H') X.xe s
def PGs (X:Cx)(ts:List Expr)(t:TGs):Prop:=
 ∀(pins:List (Addr × Obj)) (s:Shared) (σ:St) (H:Hp) (vs:List V) (us:List Value) (Q:St->Hp->Prop),Inv X pins σ H s->bZ vs us->t vs σ H Q->
  wpAny (model X.prog X.w) X.A (assignInOrder ((assignEach ts X.env).map (·.2)) us) (fun _ s'=>∃σ' H',Inv X pins σ' H' s'/\Q σ' H') X.xe s
abbrev Uv:=V->V->V->Hp->(Hp->Prop)->Prop
def Yl (X:Cx)(t:Uv):Prop:=
 ∀(pins:List (Addr × Obj)) (s:Shared) (σ:St) (H:Hp) (o i v:V) (ov iv u:Value) (Q:Hp->Prop),Inv X pins σ H s->cC o ov->cC i iv->cC v u->t o i v H Q->
  wpAny (model X.prog X.w) X.A (setItem ov iv u) (fun _ s'=>∃H',Inv X pins σ H' s'/\Q H') X.xe s
abbrev TIp:=V->V->Hp->VK->Prop
def PIp (X:Cx)(op:Operator)(t:TIp):Prop:=
 ∀(pins:List (Addr × Obj)) (s:Shared) (σ:St) (H:Hp) (x y:V) (v u:Value) (Q:VK),Inv X pins σ H s->cC x v->cC y u->t x y H Q->
  wpAny (model X.prog X.w) X.A (inplaceOp op v u) (EP X pins σ Q) X.xe s
section
variable {X:Cx} {pos:Pos}
def jO (i:Nat):TG:=fun v σ H Q=>Q (σ.set i (some v)) H
theorem aZ {i:Nat}{x:Str}(hN:X.N.Nodup)(hi:X.N[i]?=some x)(hx:Loc X.env.scope x)(hf:X.fn x=true\/X.env.scope.names.lookup x=some .local:=by first | exact .inl rfl | exact .inr rfl | assumption):PG X (.Name x pos) (jO i):=by
 intro pins s σ H v u Q I r h;exact wpAny_assign_Name (lZ I hN hi hx r (fun s' I'=>⟨_,H,I',h⟩) hf)
def Jk:TGs:=fun vs σ H Q=>vs=[]/\Q σ H
def kU (t:TG)(u:TGs):TGs:=fun vs σ H Q=>∃v r,vs=v :: r/\t v σ H fun σ' H'=>u r σ' H' Q
theorem fH:PGs X [] Jk:=by
 intro pins s σ H vs us Q I r h;obtain⟨e,h⟩:=h;subst e
 cases r
 exact assignInOrder_nil ⟨σ,H,I,h⟩
theorem bO {e:Expr}{es:List Expr}{t:TG}{u:TGs}(h1:PG X e t)(h2:PGs X es u)(hs:(assignEach (e :: es) X.env).map (·.2)=assign e X.env :: (assignEach es X.env).map (·.2):=by rfl):PGs X (e :: es) (kU t u):=by
 intro pins s σ H vs us Q I r h;obtain⟨v,vr,e1,h⟩:=h;subst e1
 cases r with
 |cons r rr=>
  rw[hs];refine assignInOrder_cons (thn (h1 pins s σ H _ _ _ I r h) fun _ s1 ⟨σ1,H1,I1,q1⟩=>?_);exact h2 pins s1 σ1 H1 _ _ Q I1 rr q1
def Jq (K:Frag)(n:Nat)(t:TGs):TG:=fun v σ H Q=>∃a xs,v=.ref a/\SqT K H a xs/\xs.length=n/\t xs σ H Q
theorem gK {es:List Expr}{k:Nat}{t:TGs}{n:Nat}(hc:X.calm=true)(h:PGs X es t)(hn:(assignEach es X.env).length=n:=by rfl)(hst:(assignEach es X.env).findIdx? (·.1)=none:=by rfl):PG X (.Tuple es k pos) (Jq X.K n t):=by
 intro pins s σ H v u Q I r hw;obtain⟨a,xs,e1,hq,hl,hw⟩:=hw;subst e1
 cases r
 obtain⟨its,rv,ht,hz⟩:=I.tuple hq;refine assign_Tuple_tuple (I.ok.hd hc) ht (by simp[hn,<- hl,rv.length]) hst fun h' hx=>?_;have I1:Inv X pins σ H { s with heap:=h' }:=I.kept (t':=s.toks) fun b o e=>hx b o (Nat.ne_of_lt (Heap.lt_size e)) e;exact h pins _ σ H xs _ Q I1 (by simpa using rv) hw
def qe3 (to ti:TE)(t:Uv):TG:=fun v σ H Q=>to σ H fun o H1=>ti σ H1 fun i H2=>t o i v H2 fun H3=>Q σ H3
theorem jI {o i:Expr}{to ti:TE}{t:Uv}(ho:PE X o to)(hi:PE X i ti)(hs:Yl X t)(ha:∀v,assign (.Subscript o i pos) X.env v=(do
   let ov <- holding [v] (eval o X.env)
   let iv <- holding [v,ov] (eval i X.env)
   standAt pos
   holding [v,ov,iv] (setItem ov iv v)
   release [v,ov,iv] []):=by intro _;rfl):PG X (.Subscript o i pos) (qe3 to ti t):=by
 intro pins s σ H v u Q I r h;rw[ha];refine wpAny_bind (wpAny_holding (thn (ho pins s σ H _ I h) fun ov s1 ⟨x,H1,I1,r1,q1⟩=>?_));refine wpAny_bind (wpAny_holding (thn (hi pins s1 σ H1 _ I1 q1) fun iv s2 ⟨y,H2,I2,r2,q2⟩=>?_));refine wpAny_bind (wpAny_standAt (wpAny_bind (wpAny_holding (thn (hs pins s2 σ H2 x y v ov iv u _ I2 r1 r2 r q2) fun _ s3 ⟨H3,I3,q3⟩=>?_))));exact wpAny_release ⟨σ,H3,I3,q3⟩
def Vu (te:TE)(g:TG):TS:=fun D σ H=>te σ H fun x H1=>g x σ H1 D.nx
theorem gV {tg e:Expr}{te:TE}{g:TG}(he:PE X e te)(hg:PG X tg g)(hs:swapsWithSole [tg] e pos.line X.env=pure false:=by rfl)(hw:swappedStores [tg] e X.env=pure none:=by rfl)(h1:(assignEach [tg] X.env).map (·.2)=[assign tg X.env]:=by rfl):PS X (.Assign [tg] e pos) (Vu te g):=by
 intro pins s σ H D I h;refine wpAny_Assign_stores (thn (he pins s σ H _ I h) fun v s1 ⟨x,H1,I1,r1,q1⟩=>?_) hs hw;rw[h1];exact thn (hg pins s1 σ H1 x v _ I1 r1 q1) fun _ s2 q=>q
theorem aR {i:Nat}{x:Str}{e:Expr}{te:TE}{pos':Pos}(hN:X.N.Nodup)(hi:X.N[i]?=some x)(hx:Loc X.env.scope x)(he:PE X e te)(hs:swapsWith e (some (.Name x pos')) pos.line X.env=pure false:=by rfl)(hf:X.fn x=true\/X.env.scope.names.lookup x=some .local:=by first | exact .inl rfl | exact .inr rfl | assumption) :
  PS X (.Assign [.Name x pos'] e pos) (Vu te (jO i)):=by
 intro pins s σ H D I h;refine wpAny_Assign_Name (thn (he pins s σ H _ I h) fun v s1 ⟨y,H1,I1,r1,q1⟩=>?_) hs;exact lZ I1 hN hi hx r1 (fun s2 I2=>⟨_,H1,I2,q1⟩) hf
def qf3 (i j:Nat)(ta:TA):TS:=fun D σ H=>ta σ H fun vs H1=>∃v w,vs=[v,w]/\D.nx ((σ.set i (some v)).set j (some w)) H1
theorem Ky {i j:Nat}{x y:Str}{a b:Expr}{ta:TA}{px py pt:Pos}{kt k2 pt2}(hc:X.calm=true)(hN:X.N.Nodup)(hi:X.N[i]?=some x)(hj:X.N[j]?=some y)(hij:i≠j)(hx:X.env.scope.names.lookup x=some .local)(hy:X.env.scope.names.lookup y=some .local)(ha:PA X [a,b] ta)(hw:swappedStores [.Tuple [.Name x px,.Name y py] kt pt] (.Tuple [a,b] k2 pt2) X.env=pure (some [x,y]))(hs:swapsWithSole [.Tuple [.Name x px,.Name y py] kt pt] (.Tuple [a,b] k2 pt2) pos.line X.env=pure false:=by rfl) :
  PS X (.Assign [.Tuple [.Name x px,.Name y py] kt pt] (.Tuple [a,b] k2 pt2) pos) (qf3 i j ta):=by
 intro pins s σ H D I h;rw[exec_Assign_arm];refine wpAny_bind (wpAny_standAt ?_);rw[hs];refine wpAny_bind (wpAny_pure ?_);rw[if_neg (by decide)];refine wpAny_bind (Tuple_ (thn (ha _ pins s σ H _ I h) fun us s1 ⟨vs,H1,I1,r1,q1⟩=>?_));obtain⟨v,w,e1,q1⟩:=q1;subst e1;obtain⟨u1,u2,rfl,rv,rw'⟩:∃u1 u2,us=[u1,u2]/\cC v u1/\cC w u2:=by
  cases r1 with
  |cons p q=>
   cases q with
   |cons p' q'=>
    cases q'
    exact⟨_,_,rfl,p,p'⟩
 refine wpAny_newObj_type ?_ (by show 2<=sizeLine;decide);have I2:Inv X pins σ H1 { s1 with heap:=s1.heap.push { cls:=.type "tuple",data:=.seq [u1,u2].toArray } }:=I1.kept (t':=s1.toks) fun b o e=>Heap.get?_push_of_some _ e;rw[hw];refine wpAny_bind (wpAny_pure ?_);show wpAny (model X.prog X.w) X.A (do rule "assign.swapped-stores";let items <- unpackItems (.ref s1.heap.objs.size) 2 none;assignInOrder [fun v=>bindName X.env y v,fun v=>bindName X.env x v] items.reverse;pure Flow.next) _ _ _;refine wpAny_bind (wpAny_rule (wpAny_bind (unpackItems_tuple (items:=#[u1,u2]) (I.ok.hd hc) (IsTup.new s1.heap _) fun h' hx'=>?_)));have I3:=I2.kept (h':=h') (t':=s1.toks) fun b o e=>hx' b o (Nat.ne_of_lt (Heap.lt_size e)) e;show wpAny _ _ (assignInOrder [fun v=>bindName X.env y v,fun v=>bindName X.env x v] [u2,u1] >>= fun _=>pure Flow.next) _ _ _;refine wpAny_bind (assignInOrder_cons (wpAny_bindName (lZ I3 hN hj (.inl hy) rw' (fun s2 I4=>?_) (.inr hy))));refine assignInOrder_cons (wpAny_bindName (lZ I4 hN hi (.inl hx) rv (fun s3 I5=>assignInOrder_nil (wpAny_pure ?_)) (.inr hx)));rw[set_comm _ _ (Ne.symm hij)] at I5;exact⟨_,H1,I5,q1⟩
def qb7 (i:Nat)(te:TE)(ti:TIp):TS:=fun D σ H=>∃x,σ[i]?=some (some x)/\te σ H fun y H1=>ti x y H1 fun z H2=>D.nx (σ.set i (some z)) H2
theorem Dj {i:Nat}{x:Str}{e:Expr}{te:TE}{op:Operator}{ti:TIp}{pos':Pos}(hN:X.N.Nodup)(hi:X.N[i]?=some x)(hx:Loc X.env.scope x)(he:PE X e te)(ho:PIp X op ti)(hf:X.fn x=true\/X.env.scope.names.lookup x=some .local:=by first | exact .inl rfl | exact .inr rfl | assumption) :
  PS X (.AugAssign (.Name x pos') op e pos) (qb7 i te ti):=by
 intro pins s σ H D I h;obtain⟨v,e1,h⟩:=h;obtain⟨m,hn,hl⟩:=I.loc;have vis:Vis X.env.scope x:=by rcases hx with k | k;exact .inl k;exact .inr (.inl k)
 obtain⟨u,r,l⟩:=hl i x v hi e1 vis;refine wpAny_AugAssign_Name ?_;have go:wpAny (model X.prog X.w) X.A (eval e X.env) (fun w s₂=>wpAny (model X.prog X.w) X.A (inplaceOp op u w) (fun r s₃=>wpAny (model X.prog X.w) X.A (storeName X.env x r) (fun _=>SP X pins D .next) X.xe s₃) X.xe s₂) X.xe s:=by
  refine thn (he pins s σ H _ I h) fun w s1 ⟨y,H1,I1,r1,q1⟩=>?_;refine thn (ho pins s1 σ H1 v y u w _ I1 r r1 q1) fun z s2 ⟨zv,H2,I2,r2,q2⟩=>?_;exact lZ I2 hN hi hx r2 (fun s3 I3=>⟨_,H2,I3,q2⟩) hf
 rcases l with ⟨hk,hm⟩ | ⟨hk,c,hc,hcell⟩
 ·exact wpAny_loadName_local I.ok.kind hk hn hm go
 ·rcases hk with hk | hk
  ·exact wpAny_loadName_cell I.ok.kind hk hc hcell go
  ·rcases hx with k | k
   ·have:X.env.scope.names.lookup x=some .free:=hk;rw[k] at this;cases this
   ·have:X.env.scope.names.lookup x=some .free:=hk;rw[k] at this;cases this
def ipI (f:Int->Int->Int):TIp:=fun x y H Q=>∃i j,x=.int i/\y=.int j/\Q (.int (f i j)) H
theorem Eb:PIp X .Add (ipI fun i j=>i+j):=by
 intro pins s σ H x y v u Q I r1 r2 h;obtain⟨i,j,e1,e2,q⟩:=h;subst e1;subst e2;obtain⟨t,rfl⟩:=r1;obtain⟨t',rfl⟩:=r2;exact iadd_int ⟨.int _,H,I.tok _,⟨_,rfl⟩,q⟩
def Nt (c:TT)(tb:TS):TS:=fun D σ H=>∃W:Nat->St->Hp->Prop,(∃m,W m σ H)/\∀m σ H,W m σ H->
 c σ H fun b H1=>if b=true then ∃N:St->Hp->Prop,(∀σ' H',N σ' H'->∃m',m' < m/\W m' σ' H')/\tb { D with nx:=N,ct:=N,bk:=D.nx } σ H1 else D.nx σ H1
theorem rY {c:Expr}{body:List Stmt}{tc:TT}{tb:TS}(hp:PassesOwn (model X.prog X.w) X.A X.env X.xe)(hc:PT X c tc)(hb:PSs X body tb):PS X (.While c body [] pos) (Nt tc tb):=by
 intro pins s σ H D I h;obtain⟨W,⟨m0,w0⟩,turn⟩:=h;refine wpAny_While (codeAny_whileLoop (fun n s'=>∃σ' H',Inv X pins σ' H' s'/\W n σ' H') ?_ m0 ⟨σ,H,I,w0⟩);rintro n s1 ⟨σ1,H1,I1,w1⟩;refine wpAny_passesOwn hp (thn (hc pins s1 σ1 H1 _ I1 (turn n σ1 H1 w1)) fun b s2 ⟨H2,I2,q2⟩=>?_)
 cases b with
 |true=>
  obtain⟨N,hN,q2⟩:=q2;rw[if_pos rfl];refine wpAny_passesOwn hp (thn (hb pins s2 σ1 H2 _ I2 q2) fun f s3 q3=>?_)
  cases f with
  |next=>
   obtain⟨σ3,H3,I3,n3⟩:=q3;obtain⟨m',hm,w3⟩:=hN σ3 H3 n3;exact⟨m',hm,σ3,H3,I3,w3⟩
  |cont=>
   obtain⟨σ3,H3,I3,n3⟩:=q3;obtain⟨m',hm,w3⟩:=hN σ3 H3 n3;exact⟨m',hm,σ3,H3,I3,w3⟩
  |brk=>exact q3
  |ret v=>exact q3
 |false=>
  rw[if_neg Bool.false_ne_true];exact wpAny_execs_nil ⟨σ1,H2,I2,q2⟩
end
structure It where
 go:Nat->Hp->Prop
 yld:Nat->Hp->V->Hp->Prop
 stop:Nat->Hp->Prop
def mU (X:Cx)(pins:List (Addr × Obj))(H:Hp)(b:Addr):Prop:=
 H b=none/\b≠X.env.locals/\b∉X.fs/\(b∈X.ex\/X.s₀.heap.objs.size<=b)/\(∀x c,X.env.cells.lookup x=some c->c≠b)/\∀p∈X.pn++pins,p.1≠b
theorem Inv.fpOk {X:Cx}{pins:List (Addr × Obj)}{σ:St}{H H':Hp}{s:Shared}{b:Addr}(I:Inv X pins σ H s)(hb:s.heap.objs.size<=b)(hn:H' b=none):mU X pins H' b:=by
 refine⟨hn,Nat.ne_of_gt (Nat.lt_of_lt_of_le I.lt hb),I.nofs hb,.inr (Nat.le_trans I.sz hb),fun x c e z=>?_,fun p hp z=>?_⟩
 ·obtain⟨v,q⟩:=I.cell x c e;exact absurd (Nat.lt_of_lt_of_le q.lt (by rw[z];exact hb)) (Nat.lt_irrefl _)
 ·exact absurd (Nat.lt_of_lt_of_le (Heap.lt_size (I.pin p hp).1) (by rw[z];exact hb)) (Nat.lt_irrefl _)
structure Jd (P:Program) (w:World) (K:Frag) (tg:Expr) (J:It) (fp:List Addr) (it:Addr) (tn:Nat->Heap->Prop):Prop where
 mem:it∈fp
 obj:∀i h,tn i h->∀b∈fp,∃o,h.get? b=some o/\∀v,o.data≠.cell v
 keep:∀i h h',tn i h->(∀b∈fp,∀o,h.get? b=some o->h'.get? b=some o)->tn i h'
 item:∀(X:Cx),X.prog=P->X.w=w->X.K=K->X.calm=true->∀(i:Nat) (pins:List (Addr × Obj)) (s:Shared) (σ:St) (H:Hp) (E:Value->Shared->Prop),Inv X pins σ H s->(∀b∈fp,mU X pins H b)->tn i s.heap->J.go i H->
  wpAny (model P w) X.A (pyNext (.ref it)) (fun r s1=>∃u,r=some u/\
   wpAny (model P w) X.A (letOwnedTupleGo tg (.ref it) u) (fun _ s2=>∃x H',Inv X pins σ H' s2/\cC x u/\J.yld i H x H'/\tn (i+1) s2.heap/\∀b∈fp,H' b=none) E s1) E s
 done:∀(X:Cx),X.prog=P->X.w=w->X.K=K->X.calm=true->∀(i:Nat) (pins:List (Addr × Obj)) (s:Shared) (σ:St) (H:Hp) (E:Value->Shared->Prop),Inv X pins σ H s->(∀b∈fp,mU X pins H b)->tn i s.heap->J.stop i H->
  wpAny (model P w) X.A (pyNext (.ref it)) (fun r s1=>r=none/\Inv X pins σ H s1) E s
 self:∀(A:Around) (i:Nat) (s:Shared) (Q:Value->Shared->Prop) (E:Value->Shared->Prop),tn i s.heap->Q (.ref it) s->wpAny (model P w) A (pyIter (.ref it)) Q E s
abbrev TI:=St->Hp->(It->Hp->Prop)->Prop
def PIE (X:Cx)(pins:List (Addr × Obj))(σ:St)(tg:Expr)(R:It->Hp->Prop)(itv:Value)(s2:Shared):Prop:=
 ∃(it:Addr) (fp:List Addr) (tn:Nat->Heap->Prop) (J:It) (H':Hp),itv=.ref it/\Inv X pins σ H' s2/\Jd X.prog X.w X.K tg J fp it tn/\tn 0 s2.heap/\(∀b∈fp,mU X pins H' b)/\R J H'
def PI (X:Cx)(tg iter:Expr)(wi:TI):Prop:=
 ∀(pins:List (Addr × Obj)) (s:Shared) (σ:St) (H:Hp) (R:It->Hp->Prop),Inv X pins σ H s->wi σ H R->
  wpAny (model X.prog X.w) X.A (eval iter X.env) (fun v s1=>wpAny (model X.prog X.w) X.A (pyIter v) (PIE X pins σ tg R) X.xe s1) X.xe s
theorem Pg {M : Model}{A : Around}{E : Value -> Shared -> Prop}{s : Shared}{tg : Expr}{it : Addr}{u : Value}{o : Obj}{n : String}{vs : Array Value}{Q : Unit -> Shared -> Prop}(ho : s.heap.get? it = some o)(hc : o.cls = .type n)(hd : o.data = .fields vs)(hn : ["enumerate", "zip", "dict_itemiterator", "dict_reverseitemiterator", "odict_iterator", "itertools.zip_longest", "itertools.pairwise"].contains n = false)(hQ : Q () s) : wpAny M A (letOwnedTupleGo tg (.ref it) u) Q E s := by
  unfold letOwnedTupleGo
  cases tg <;> first
    | exact wpAny_pure hQ
    | (cases u <;> first
        | exact wpAny_pure hQ
        | (refine wpAny_bind (wpAny_load ho ?_)
           rw [hc, hd];show wpAny M A (if (["enumerate", "zip", "dict_itemiterator", "dict_reverseitemiterator", "odict_iterator", "itertools.zip_longest", "itertools.pairwise"].contains n && vs[0]? == some (rawInt _)) = true then _ else _) Q E s;rw [if_neg (by intro h; rw [hn, Bool.false_and] at h; cases h)];exact wpAny_pure hQ))
def Itl (K:Frag)(a:Addr):It:=
 ⟨fun i H=>∃xs x,SqL K H a xs/\xs[i]?=some x,fun i H x H'=>H'=H/\∀xs,SqL K H a xs->xs[i]?=some x,fun i H=>∃xs,SqL K H a xs/\xs.length<=i⟩
def Itt (K:Frag)(a:Addr):It:=
 ⟨fun i H=>∃xs x,SqT K H a xs/\xs[i]?=some x,fun i H x H'=>H'=H/\∀xs,SqT K H a xs->xs[i]?=some x,fun i H=>∃xs,SqT K H a xs/\xs.length<=i⟩
def Itr (lo:Int)(n:Nat):It:=⟨fun i _=>i < n,fun i H x H'=>H'=H/\x=.int (lo+i),fun i _=>n<=i⟩
theorem Ji {P:Program}{w:World}{K:Frag}{tg:Expr}(a it:Addr):Jd P w K tg (Itl K a) [it] it (fun i h=>h.IsListIter it a i) where
 mem:=by simp
 obj:=fun i h st b hb=>by
  have e:b=it:=by simpa using hb
  subst e;obtain⟨o,e,c,d⟩:=st;exact⟨o,e,fun v z=>by rw[d] at z;cases z⟩
 keep:=fun i h h' st k=>st.at fun o e=>k it (by simp) o e
 item:=by
  intro X hP hw hK hc i pins s σ H E I hf st hg;subst hP hw hK;obtain⟨xs,x,hq,hx⟩:=hg;obtain⟨its,rv,p,hz⟩:=I.list hq;obtain⟨u,hu,ru⟩:=rv.get hx;obtain⟨f0,f1,f2,f3,f4,f5⟩:=hf it (by simp);refine wpAny_pyNext_list_item st p.isList (x:=u) (by simpa using hu) fun h' st' sb=>?_;have I1:Inv X pins σ H { s with heap:=h' }:=I.turned (t':=s.toks) (fun b o hb e=>(sb.2 b hb).trans e) f0 f1 f3 f4 f5;obtain⟨o,e,c,d⟩:=id st';exact⟨u,rfl,Pg (s:={ s with heap:=h' }) e c d (by decide) ⟨x,H,I1,ru,⟨rfl,fun ys hy=>by rw[I.list_inj hy hq];exact hx⟩,st',fun b hb=>(hf b hb).1⟩⟩
 done:=by
  intro X hP hw hK hc i pins s σ H E I hf st hg;subst hP hw hK;obtain⟨xs,hq,hx⟩:=hg;obtain⟨its,rv,p,hz⟩:=I.list hq;obtain⟨f0,f1,f2,f3,f4,f5⟩:=hf it (by simp);have hl:=rv.length;exact wpAny_pyNext_list_end (I.ok.hd hc) st p.isList (by simp;lia) fun h' eb=>⟨rfl,I.turned (t':=s.toks) (fun b o hb e=>eb b o hb e) f0 f1 f3 f4 f5⟩
 self:=fun _ _ _ _ _ st h=>wpAny_pyIter_listiter st h
theorem Dm {P:Program}{w:World}{K:Frag}{tg:Expr}(a it:Addr):Jd P w K tg (Itt K a) [it] it (fun i h=>h.IsTupleIter it a i) where
 mem:=by simp
 obj:=fun i h st b hb=>by
  have e:b=it:=by simpa using hb
  subst e;obtain⟨o,e,c,d⟩:=st;exact⟨o,e,fun v z=>by rw[d] at z;cases z⟩
 keep:=fun i h h' st k=>st.at fun o e=>k it (by simp) o e
 item:=by
  intro X hP hw hK hc i pins s σ H E I hf st hg;subst hP hw hK;obtain⟨xs,x,hq,hx⟩:=hg;obtain⟨its,rv,p,hz⟩:=I.tuple hq;obtain⟨u,hu,ru⟩:=rv.get hx;obtain⟨f0,f1,f2,f3,f4,f5⟩:=hf it (by simp);refine wpAny_pyNext_tuple_item st (show s.heap.IsTuple a its.toArray from p) (x:=u) (by simpa using hu) fun h' st' sb=>?_;have I1:Inv X pins σ H { s with heap:=h' }:=I.turned (t':=s.toks) (fun b o hb e=>(sb.2 b hb).trans e) f0 f1 f3 f4 f5;obtain⟨o,e,c,d⟩:=id st';exact⟨u,rfl,Pg (s:={ s with heap:=h' }) e c d (by decide) ⟨x,H,I1,ru,⟨rfl,fun ys hy=>by rw[I.tuple_inj hy hq];exact hx⟩,st',fun b hb=>(hf b hb).1⟩⟩
 done:=by
  intro X hP hw hK hc i pins s σ H E I hf st hg;subst hP hw hK;obtain⟨xs,hq,hx⟩:=hg;obtain⟨its,rv,p,hz⟩:=I.tuple hq;obtain⟨f0,f1,f2,f3,f4,f5⟩:=hf it (by simp);have hl:=rv.length;exact wpAny_pyNext_tuple_end (I.ok.hd hc) st (show s.heap.IsTuple a its.toArray from p) (by simp;lia) fun h' eb=>⟨rfl,I.turned (t':=s.toks) (fun b o hb e=>eb b o hb e) f0 f1 f3 f4 f5⟩
 self:=fun _ _ _ _ _ st h=>wpAny_pyIter_tupleiter st h
theorem Di {P:Program}{w:World}{K:Frag}{tg:Expr}(it:Addr)(lo:Int)(n:Nat):Jd P w K tg (Itr lo n) [it] it (fun i h=>IsRangeIter h it (lo+(i:Nat)*1) ((n:Int) - (i:Nat)) 1) where
 mem:=by simp
 obj:=fun i h st b hb=>by
  have e:b=it:=by simpa using hb
  subst e;exact⟨_,st,fun v z=>by
   have z':Data.fields _=Data.cell v:=z
   cases z'⟩
 keep:=fun i h h' st k=>k it (by simp) _ st
 item:=by
  intro X hP hw hK hc i pins s σ H E I hf st hg;subst hP hw hK;obtain⟨f0,f1,f2,f3,f4,f5⟩:=hf it (by simp);have W:=Walks.range (prog:=X.prog) (w:=X.w) (I.ok.hd hc) it lo 1 n;refine W.item i s _ _ hg st fun v h' tk hv st' kk=>?_;obtain⟨t,rfl⟩:=hv;have I1:Inv X pins σ H { s with heap:=h',toks:=tk }:=I.turned (fun b o hb e=>kk b o (by simpa using hb) e) f0 f1 f3 f4 f5;refine⟨_,rfl,Pg (s:={ s with heap:=h',toks:=tk }) (n:="range_iterator") st' rfl rfl (by decide) ⟨.int (lo+i),H,I1,⟨t,?_⟩,⟨rfl,rfl⟩,st',fun b hb=>(hf b hb).1⟩⟩;rw[Int.mul_one]
 done:=by
  intro X hP hw hK hc i pins s σ H E I hf st hg;subst hP hw hK;obtain⟨f0,f1,f2,f3,f4,f5⟩:=hf it (by simp);exact wpAny_pyNext_range_end (I.ok.hd hc) st (by have:n<=i:=hg;lia) fun h' eb=>⟨rfl,I.turned (t':=s.toks) (fun b o hb e=>eb b o hb e) f0 f1 f3 f4 f5⟩
 self:=fun _ _ _ _ _ st h=>wpAny_pyIter_rangeiter st h
section
variable {X:Cx} {tg:Expr}
def Zs (K:Frag)(tl:TE):TI:=fun σ H R=>tl σ H fun x H1=>∃a,x=.ref a/\(∃xs,SqL K H1 a xs)/\R (Itl K a) H1
def qe0 (K:Frag)(tl:TE):TI:=fun σ H R=>tl σ H fun x H1=>∃a,x=.ref a/\(∃xs,SqT K H1 a xs)/\R (Itt K a) H1
theorem cU {l:Expr}{tl:TE}(hl:PE X l tl):PI X tg l (Zs X.K tl):=by
 intro pins s σ H R I h;refine thn (hl pins s σ H _ I h) fun v s1 ⟨x,H1,I1,r1,q1⟩=>?_;obtain⟨a,e,⟨xs,hq⟩,q⟩:=q1;subst e
 cases r1
 obtain⟨its,rv,p,hz⟩:=I1.list hq;refine wpAny_pyIter_list p.isList ?_;refine⟨s1.heap.objs.size,[s1.heap.objs.size],_,_,H1,rfl,I1.kept (t':=s1.toks) fun b o e=>Heap.get?_push_of_some _ e,Ji a _,⟨_,Heap.get?_push_size _ rfl,rfl,rfl⟩,fun b hb=>?_,q⟩;have e:b=s1.heap.objs.size:=by simpa using hb
 subst e;exact I1.fpOk (Nat.le_refl _) (I1.hok.fresh (Nat.le_refl _))
theorem Vi {l:Expr}{tl:TE}(hl:PE X l tl):PI X tg l (qe0 X.K tl):=by
 intro pins s σ H R I h;refine thn (hl pins s σ H _ I h) fun v s1 ⟨x,H1,I1,r1,q1⟩=>?_;obtain⟨a,e,⟨xs,hq⟩,q⟩:=q1;subst e
 cases r1
 obtain⟨its,rv,p,hz⟩:=I1.tuple hq;refine wpAny_pyIter_tuple (show s1.heap.IsTuple a its.toArray from p) ?_;refine⟨s1.heap.objs.size,[s1.heap.objs.size],_,_,H1,rfl,I1.kept (t':=s1.toks) fun b o e=>Heap.get?_push_of_some _ e,Dm a _,⟨_,Heap.get?_push_size _ rfl,rfl,rfl⟩,fun b hb=>?_,q⟩;have e:b=s1.heap.objs.size:=by simpa using hb
 subst e;exact I1.fpOk (Nat.le_refl _) (I1.hok.fresh (Nat.le_refl _))
theorem Aa {pins:List (Addr × Obj)}{σ:St}{H:Hp}{s:Shared}{R:It->Hp->Prop}{E:Value->Shared->Prop}{lo hi:Int}{t u v:Tok}{tk:Nat}(I:Inv X pins σ H s)(h1:-(2 ^ 62)<=lo)(h2:lo < 2 ^ 62)(h3:-(2 ^ 62)<=hi)(h4:hi < 2 ^ 62)(q:R (Itr lo (hi - lo).toNat) H):wpAny (model X.prog X.w) X.A (pyIter (.ref s.heap.objs.size)) (PIE X pins σ tg R) E { s with heap:=s.heap.push { cls:=.type "range",data:=.fields #[.int lo t,.int hi u,.int 1 v] },toks:=tk }:=by
 refine wpAny_pyIter_range (IsRange.new ..) (small_one h1 h2 h3 h4) ?_;have I1:Inv X pins σ H { s with heap:=s.heap.push { cls:=.type "range",data:=.fields #[.int lo t,.int hi u,.int 1 v] },toks:=tk }:=I.kept fun b o e=>Heap.get?_push_of_some _ e;refine⟨(s.heap.push { cls:=.type "range",data:=.fields #[.int lo t,.int hi u,.int 1 v] }).objs.size,[(s.heap.push { cls:=.type "range",data:=.fields #[.int lo t,.int hi u,.int 1 v] }).objs.size],_,_,H,rfl,
  I1.kept (t':=tk) fun b o e=>Heap.get?_push_of_some _ e,Di _ lo (hi - lo).toNat,?_,fun b hb=>?_,q⟩
 ·have e1:lo+((0:Nat):Int)*1=lo:=by simp
  have e2:(((hi - lo).toNat:Nat):Int) - ((0:Nat):Int)=Builtin.Range.rangeSize lo hi 1:=by rw[rangeSize_one];split<;>lia
  show IsRangeIter _ _ (lo+((0:Nat):Int)*1) ((((hi - lo).toNat:Nat):Int) - ((0:Nat):Int)) 1;rw[e1,e2];exact Heap.get?_push_size _ rfl
 ·have e:b=(s.heap.push { cls:=.type "range",data:=.fields #[.int lo t,.int hi u,.int 1 v] }).objs.size:=by simpa using hb
  subst e;exact I1.fpOk (Nat.le_refl _) (I1.hok.fresh (Nat.le_refl _))
def Zo (ta:TA):TI:=fun σ H R=>ta σ H fun vs H1=>∃j:Int,vs=[.int j]/\-(2 ^ 62)<=j/\j < 2 ^ 62/\R (Itr 0 j.toNat) H1
def qa0 (ta:TA):TI:=fun σ H R=>ta σ H fun vs H1=>∃i j:Int,vs=[.int i,.int j]/\(-(2 ^ 62)<=i/\i < 2 ^ 62/\-(2 ^ 62)<=j/\j < 2 ^ 62)/\R (Itr i (j - i).toNat) H1
theorem gW {a:Expr}{ta:TA}{p pos:Pos}(hg:Gl X "range")(hm:X.mg "range"=none)(ha:PA X [a] ta)(hs:starEach [a] X.env=[(false,eval a X.env)]:=by rfl):PI X tg (.Call (.Name "range" p) [a] [] pos) (Zo ta):=by
 intro pins s σ H R I h;refine Call_ (kJ I hg hm boot_range (PyProof.Rows.callWith_type1 (thn (ha pos pins s σ H _ I h) fun us s1 ⟨vs,H1,I1,r1,q1⟩=>?_) hs rfl));obtain⟨j,e,q1,q2,q⟩:=q1;subst e
 cases r1 with
 |cons r rr=>
  cases rr
  obtain⟨t,rfl⟩:=r;exact call_range_1 (Aa I1 (by lia) (by lia) q1 q2 (by simpa using q))
theorem pU {a b:Expr}{ta:TA}{p pos:Pos}(hg:Gl X "range")(hm:X.mg "range"=none)(ha:PA X [a,b] ta)(hs:starEach [a,b] X.env=[(false,eval a X.env),(false,eval b X.env)]:=by rfl)(hs2:starEach [b] X.env=[(false,eval b X.env)]:=by rfl) :
  PI X tg (.Call (.Name "range" p) [a,b] [] pos) (qa0 ta):=by
 intro pins s σ H R I h;refine Call_ (kJ I hg hm boot_range (PyProof.Rows.callWith_type1 (thn (ha pos pins s σ H _ I h) fun us s1 ⟨vs,H1,I1,r1,q1⟩=>?_) (by rw[hs,hs2]) (by rw[hs2];rfl)));obtain⟨i,j,e,⟨q1,q2,q3,q4⟩,q⟩:=q1;subst e
 cases r1 with
 |cons r rr=>
  cases rr with
  |cons r' rr=>
   cases rr
   obtain⟨t,rfl⟩:=r;obtain⟨t',rfl⟩:=r';exact call_range_2 (Aa I1 q1 q2 q3 q4 q)
def qb3 (wi:TI)(g:TG)(tb:TS):TS:=fun D σ H=>wi σ H fun J H1=>∃W:Nat->Nat->St->Hp->Prop,(∃m,W 0 m σ H1)/\∀i m σ H,W i m σ H->
 (J.stop i H/\D.nx σ H)\/(J.go i H/\∃N:St->Hp->Prop,(∀σ' H',N σ' H'->∃m',m' < m/\W (i+1) m' σ' H')/\∀x H',J.yld i H x H'->g x σ H' fun σ2 H2=>tb { D with nx:=N,ct:=N,bk:=D.nx } σ2 H2)
def uA (fp:List Addr)(h:Heap):List (Addr × Obj):=fp.filterMap fun b=>(h.get? b).map fun o=>(b,o)
theorem jY {fp:List Addr}{h:Heap}{b:Addr}{o:Obj}(hb:b∈fp)(e:h.get? b=some o):(b,o)∈uA fp h:=mem_filterMap.mpr ⟨b,hb,by rw[e];rfl⟩
theorem Hg {fp:List Addr}{h:Heap}{p:Addr × Obj}(hp:p∈uA fp h):p.1∈fp/\h.get? p.1=some p.2:=by
 obtain⟨b,hb,e⟩:=mem_filterMap.mp hp
 cases q:h.get? b with
 |none=>rw[q] at e;cases e
 |some o=>
  rw[q] at e;have e':(b,o)=p:=Option.some.inj e;subst e';exact⟨hb,q⟩
theorem Inv.pinned {pins:List (Addr × Obj)}{σ:St}{H:Hp}{s:Shared}{fp:List Addr}(I:Inv X pins σ H s)(hf:∀b∈fp,mU X pins H b)(ho:∀b∈fp,∃o,s.heap.get? b=some o/\∀v,o.data≠.cell v):Inv X (pins++uA fp s.heap) σ H s:=
 I.pins_of fun p hp=>(mem_append.mp hp).elim (fun z=>I.pin p (mem_append_right _ z)) fun z=>by
  obtain⟨hb,e⟩:=Hg z;obtain⟨f0,f1,f2,_⟩:=hf p.1 hb;obtain⟨o,e',d⟩:=ho p.1 hb;rw[e] at e';cases e';exact⟨e,f0,f1,f2,d⟩
theorem Inv.unpinned {pins pl:List (Addr × Obj)}{σ:St}{H:Hp}{s:Shared}(I:Inv X (pins++pl) σ H s):Inv X pins σ H s:=I.pins_of fun p hp=>I.pin p (mem_append_right _ (mem_append_left _ hp))
theorem dW {iter:Expr}{body:List Stmt}{wi:TI}{g:TG}{tb:TS}{pos:Pos}(hp:PassesOwn (model X.prog X.w) X.A X.env X.xe)(hc:X.calm=true)(hi:PI X tg iter wi)(hg:PG X tg g)(hb:PSs X body tb)(hs:∀x,foldedSetIterable iter X.env x=pure x:=by intro _;rfl):PS X (.For tg iter body [] pos) (qb3 wi g tb):=by
 intro pins s σ H D I h;refine wpAny_For (thn (hi pins s σ H _ I h) fun v s1 h1=>thn h1 fun itv s2 h2=>?_) hs;obtain⟨it,fp,tn,J,H2,e,I2,T,st2,f2,W,⟨m0,w0⟩,turn⟩:=h2;subst e;have stat:∀{H':Hp},(∀b∈fp,H' b=none)->∀b∈fp,mU X pins H' b:=fun hn b hb=>⟨hn b hb,(f2 b hb).2⟩
 refine codeAny_forLoop_any (fun n s'=>∃i σ' H',Inv X pins σ' H' s'/\tn i s'.heap/\(∀b∈fp,H' b=none)/\W i n σ' H') ?_ m0 ⟨0,σ,H2,I2,st2,fun b hb=>(f2 b hb).1,w0⟩;rintro n s3 ⟨i,σ3,H3,I3,st3,fr3,w3⟩;rcases turn i n σ3 H3 w3 with ⟨stop,qn⟩ | ⟨go,N,hN,step⟩
 ·refine wpAny_passesOwn hp (thn (T.done X rfl rfl rfl hc i pins s3 σ3 H3 X.xe I3 (stat fr3) st3 stop) fun r s4 ⟨hr,I4⟩=>?_);subst hr;exact wpAny_execs_nil ⟨σ3,H3,I4,qn⟩
 ·refine wpAny_passesOwn hp (thn (T.item X rfl rfl rfl hc i pins s3 σ3 H3 X.xe I3 (stat fr3) st3 go) fun r s4 ⟨u,hr,h4⟩=>?_);subst hr;refine wpAny_passesOwn hp (thn h4 fun _ s5 ⟨x,H5,I5,r5,y5,st5,fr5⟩=>?_);have I5':=I5.pinned (stat fr5) (T.obj _ _ st5);refine wpAny_passesOwn hp (thn (hg _ s5 σ3 H5 x u _ I5' r5 (step x H5 y5)) fun _ s6 ⟨σ6,H6,I6,q6⟩=>?_);refine wpAny_passesOwn hp (thn (hb _ s6 σ6 H6 _ I6 q6) fun f s7 q7=>?_);have again:∀{σ7:St} {H7:Hp},Inv X (pins++uA fp s5.heap) σ7 H7 s7->N σ7 H7->∃m,m < n/\∃i σ' H',Inv X pins σ' H' s7/\tn i s7.heap/\(∀b∈fp,H' b=none)/\W i m σ' H':=fun {σ7 H7} I7 n7=>by
   obtain⟨m',hm,w7⟩:=hN σ7 H7 n7;refine⟨m',hm,i+1,σ7,H7,I7.unpinned,T.keep _ _ _ st5 fun b hb o e=>(I7.pin (b,o) (mem_append_right _ (mem_append_right _ (jY hb e)))).1,fun b hb=>?_,w7⟩;obtain⟨o,e,d⟩:=T.obj _ _ st5 b hb;exact(I7.pin (b,o) (mem_append_right _ (mem_append_right _ (jY hb e)))).2.1
  cases f with
  |next=>obtain⟨σ7,H7,I7,n7⟩:=q7;exact again I7 n7
  |cont=>obtain⟨σ7,H7,I7,n7⟩:=q7;exact again I7 n7
  |brk=>obtain⟨σ7,H7,I7,q7⟩:=q7;exact⟨σ7,H7,I7.unpinned,q7⟩
  |ret v=>obtain⟨x7,σ7,H7,I7,r7,q7⟩:=q7;exact⟨x7,σ7,H7,I7.unpinned,r7,q7⟩
end
theorem gP {K:Frag}{a:Addr}{xs:List V}{g:TG}{tb:TS}{D:lH}{σ:St}{H:Hp}(Pv:Nat->St->Hp->Prop)(h0:Pv 0 σ H)(hl:∀i σ H,i<=xs.length->Pv i σ H->SqL K H a xs)(hs:∀i x σ H,xs[i]?=some x->Pv i σ H->g x σ H fun σ2 H2=>tb { D with nx:=Pv (i+1),ct:=Pv (i+1),bk:=D.nx } σ2 H2)(hd:∀σ H,Pv xs.length σ H->D.nx σ H) :
  ∃W:Nat->Nat->St->Hp->Prop,(∃m,W 0 m σ H)/\∀i m σ H,W i m σ H->
   ((Itl K a).stop i H/\D.nx σ H)\/((Itl K a).go i H/\∃N:St->Hp->Prop,(∀σ' H',N σ' H'->∃m',m' < m/\W (i+1) m' σ' H')/\∀x H',(Itl K a).yld i H x H'->g x σ H' fun σ2 H2=>tb { D with nx:=N,ct:=N,bk:=D.nx } σ2 H2):=by
 refine⟨fun i m σ H=>m=xs.length - i/\i<=xs.length/\Pv i σ H,⟨xs.length,by simp,Nat.zero_le _,h0⟩,?_⟩;rintro i m σ H ⟨rfl,hi,p⟩;have q:=hl i σ H hi p
 by_cases hlt:i < xs.length
 ·refine .inr ⟨⟨xs,xs[i],q,by simp[hlt]⟩,Pv (i+1),fun σ' H' p'=>⟨xs.length - (i+1),by lia,rfl,hlt,p'⟩,fun x H' y=>?_⟩;obtain⟨e,y⟩:=y;subst e;exact hs i x σ _ (y xs q) p
 ·have e:i=xs.length:=by lia
  subst e;exact .inl ⟨⟨xs,q,Nat.le_refl _⟩,hd σ H p⟩
theorem Pu {K:Frag}{a:Addr}{xs:List V}{g:TG}{tb:TS}{D:lH}{σ:St}{H:Hp}(Pv:Nat->St->Hp->Prop)(h0:Pv 0 σ H)(hl:∀i σ H,i<=xs.length->Pv i σ H->SqT K H a xs)(hs:∀i x σ H,xs[i]?=some x->Pv i σ H->g x σ H fun σ2 H2=>tb { D with nx:=Pv (i+1),ct:=Pv (i+1),bk:=D.nx } σ2 H2)(hd:∀σ H,Pv xs.length σ H->D.nx σ H) :
  ∃W:Nat->Nat->St->Hp->Prop,(∃m,W 0 m σ H)/\∀i m σ H,W i m σ H->
   ((Itt K a).stop i H/\D.nx σ H)\/((Itt K a).go i H/\∃N:St->Hp->Prop,(∀σ' H',N σ' H'->∃m',m' < m/\W (i+1) m' σ' H')/\∀x H',(Itt K a).yld i H x H'->g x σ H' fun σ2 H2=>tb { D with nx:=N,ct:=N,bk:=D.nx } σ2 H2):=by
 refine⟨fun i m σ H=>m=xs.length - i/\i<=xs.length/\Pv i σ H,⟨xs.length,by simp,Nat.zero_le _,h0⟩,?_⟩;rintro i m σ H ⟨rfl,hi,p⟩;have q:=hl i σ H hi p
 by_cases hlt:i < xs.length
 ·refine .inr ⟨⟨xs,xs[i],q,by simp[hlt]⟩,Pv (i+1),fun σ' H' p'=>⟨xs.length - (i+1),by lia,rfl,hlt,p'⟩,fun x H' y=>?_⟩;obtain⟨e,y⟩:=y;subst e;exact hs i x σ _ (y xs q) p
 ·have e:i=xs.length:=by lia
  subst e;exact .inl ⟨⟨xs,q,Nat.le_refl _⟩,hd σ H p⟩
theorem gR {lo:Int}{n:Nat}{g:TG}{tb:TS}{D:lH}{σ:St}{H:Hp}(Pv:Nat->St->Hp->Prop)(h0:Pv 0 σ H)(hs:∀i σ H,i < n->Pv i σ H->g (.int (lo+i)) σ H fun σ2 H2=>tb { D with nx:=Pv (i+1),ct:=Pv (i+1),bk:=D.nx } σ2 H2)(hd:∀σ H,Pv n σ H->D.nx σ H) :
  ∃W:Nat->Nat->St->Hp->Prop,(∃m,W 0 m σ H)/\∀i m σ H,W i m σ H->
   ((Itr lo n).stop i H/\D.nx σ H)\/((Itr lo n).go i H/\∃N:St->Hp->Prop,(∀σ' H',N σ' H'->∃m',m' < m/\W (i+1) m' σ' H')/\∀x H',(Itr lo n).yld i H x H'->g x σ H' fun σ2 H2=>tb { D with nx:=N,ct:=N,bk:=D.nx } σ2 H2):=by
 refine⟨fun i m σ H=>m=n - i/\i<=n/\Pv i σ H,⟨n,by simp,Nat.zero_le _,h0⟩,?_⟩;rintro i m σ H ⟨rfl,hi,p⟩
 by_cases hlt:i < n
 ·refine .inr ⟨hlt,Pv (i+1),fun σ' H' p'=>⟨n - (i+1),by lia,rfl,hlt,p'⟩,fun x H' y=>?_⟩;obtain⟨e,y⟩:=y;subst e y;exact hs i σ _ hlt p
 ·have e:i=n:=by lia
  subst e;exact .inl ⟨Nat.le_refl _,hd σ H p⟩
theorem rX {c:TT}{tb:TS}{D:lH}{σ:St}{H:Hp}(Pv:St->Hp->Prop)(μ:St->Hp->Nat)(h0:Pv σ H)(hs:∀σ H,Pv σ H->c σ H fun b H1=>if b=true then tb { D with nx:=fun σ' H'=>Pv σ' H'/\μ σ' H' < μ σ H,ct:=fun σ' H'=>Pv σ' H'/\μ σ' H' < μ σ H,bk:=D.nx } σ H1 else D.nx σ H1)(mono:∀σ H Q Q',(∀b H1,Q b H1->Q' b H1)->c σ H Q->c σ H Q'):Nt c tb D σ H:=by
 refine⟨fun m σ H=>m=μ σ H/\Pv σ H,⟨_,rfl,h0⟩,?_⟩;rintro m σ H ⟨rfl,p⟩;refine mono σ H _ _ (fun b H1 q=>?_) (hs σ H p)
 cases b with
 |true=>exact⟨_,fun σ' H' ⟨p',l⟩=>⟨_,l,rfl,p'⟩,q⟩
 |false=>exact q
abbrev R2:=V->V->Hp->VK->Prop
def OpR (X:Cx)(f:Value->Value->Sem Value)(r:R2):Prop:=
 ∀(pins:List (Addr × Obj)) (s:Shared) (σ:St) (H:Hp) (x y:V) (v u:Value) (Q:VK),Inv X pins σ H s->cC x v->cC y u->r x y H Q->
  wpAny (model X.prog X.w) X.A (f v u) (EP X pins σ Q) X.xe s
def UnR (X:Cx)(f:Value->Sem Value)(r:V->Hp->VK->Prop):Prop:=
 ∀(pins:List (Addr × Obj)) (s:Shared) (σ:St) (H:Hp) (x:V) (v:Value) (Q:VK),Inv X pins σ H s->cC x v->r x H Q->
  wpAny (model X.prog X.w) X.A (f v) (EP X pins σ Q) X.xe s
def sS (X:Cx)(f:Value)(r:List V->Hp->VK->Prop):Prop:=
 ∀(pins:List (Addr × Obj)) (s:Shared) (σ:St) (H:Hp) (xs:List V) (us:List Value) (Q:VK),Inv X pins σ H s->bZ xs us->r xs H Q->
  wpAny (model X.prog X.w) X.A (call f us) (EP X pins σ Q) X.xe s
def tOp (r:R2)(ta tb:TE):TE:=fun σ H Q=>ta σ H fun x H1=>tb σ H1 fun y H2=>r x y H2 Q
def tUn (r:V->Hp->VK->Prop)(ta:TE):TE:=fun σ H Q=>ta σ H fun x H1=>r x H1 Q
def rI (C:Int->Int->Prop)(g:Int->Int->V):R2:=fun x y H Q=>∃i j,x=.int i/\y=.int j/\C i j/\Q (g i j) H
def rI0 (g:Int->Int->V):R2:=fun x y H Q=>∃i j,x=.int i/\y=.int j/\Q (g i j) H
def rU (g:Int->V):V->Hp->VK->Prop:=fun x H Q=>∃i,x=.int i/\Q (g i) H
section
variable {X:Cx} {a b c:Expr} {ta tb tc:TE} {pos:Pos}
theorem Ws (ha:PE X a ta)(hb:PE X b tb){pins:List (Addr × Obj)}{s:Shared}{σ:St}{H:Hp}{R:V->V->Hp->Prop}(I:Inv X pins σ H s)(h:ta σ H fun x H1=>tb σ H1 fun y H2=>R x y H2){Q:Value->Shared->Prop}{f:Value->Value->Sem Value}(hf:∀v u s2 x y H2,Inv X pins σ H2 s2->cC x v->cC y u->R x y H2->wpAny (model X.prog X.w) X.A (f v u) Q X.xe s2) :
  wpAny (model X.prog X.w) X.A (eval a X.env) (fun v s₁=>wpAny (model X.prog X.w) X.A (eval b X.env) (fun u s₂=>wpAny (model X.prog X.w) X.A (f v u) Q X.xe s₂) X.xe s₁) X.xe s:=by
 refine thn (ha pins s σ H _ I h) fun v s1 ⟨x,H1,I1,r1,q1⟩=>?_;refine thn (hb pins s1 σ H1 _ I1 q1) fun u s2 ⟨y,H2,I2,r2,q2⟩=>?_;exact hf v u s2 x y H2 I2 r1 r2 q2
theorem aT {op:Operator}{r:R2}(ho:OpR X (binaryOp op) r)(ha:PE X a ta)(hb:PE X b tb):PE X (.BinOp a op b pos) (tOp r ta tb):=by
 intro pins s σ H Q I h;exact wpAny_BinOp (Ws ha hb I h fun v u s2 x y H2 I2 rx ry q=>ho pins s2 σ H2 x y v u Q I2 rx ry q)
theorem Nh {op:UnaryOp}{r:V->Hp->VK->Prop}(ho:UnR X (unaryOp op) r)(ha:PE X a ta):PE X (.UnaryOp op a pos) (tUn r ta):=by
 intro pins s σ H Q I h;exact UnaryOp_ (thn (ha pins s σ H _ I h) fun v s1 ⟨x,H1,I1,r1,q1⟩=>ho pins s1 σ H1 x v Q I1 r1 q1)
theorem opI {f:Value->Value->Sem Value}{C:Int->Int->Prop}{g:Int->Int->Int}(rule:∀(i j:Int) (t u:Tok) (s:Shared) (Q:Value->Shared->Prop) (E:Value->Shared->Prop),C i j->Q (.int (g i j) s.toks) { s with toks:=s.toks+1 }->wpAny (model X.prog X.w) X.A (f (.int i t) (.int j u)) Q E s) :
  OpR X f (rI C fun i j=>.int (g i j)):=by
 intro pins s σ H x y v u Q I rx ry h;obtain⟨i,j,rfl,rfl,hc,q⟩:=h;obtain⟨t,rfl⟩:=rx;obtain⟨t',rfl⟩:=ry;exact rule i j t t' s _ _ hc ⟨.int (g i j),H,I.tok _,⟨_,rfl⟩,q⟩
theorem Yv {f:Value->Value->Sem Value}{g:Int->Int->Int}(rule:∀(i j:Int) (t u:Tok) (s:Shared) (Q:Value->Shared->Prop) (E:Value->Shared->Prop),Q (.int (g i j) s.toks) { s with toks:=s.toks+1 }->wpAny (model X.prog X.w) X.A (f (.int i t) (.int j u)) Q E s) :
  OpR X f (rI0 fun i j=>.int (g i j)):=by
 intro pins s σ H x y v u Q I rx ry h;obtain⟨i,j,rfl,rfl,q⟩:=h;obtain⟨t,rfl⟩:=rx;obtain⟨t',rfl⟩:=ry;exact rule i j t t' s _ _ ⟨.int (g i j),H,I.tok _,⟨_,rfl⟩,q⟩
theorem Wr {f:Value->Value->Sem Value}{g:Int->Int->Bool}(rule:∀(i j:Int) (t u:Tok) (s:Shared) (Q:Value->Shared->Prop) (E:Value->Shared->Prop),Q (.bool (g i j)) s->wpAny (model X.prog X.w) X.A (f (.int i t) (.int j u)) Q E s) :
  OpR X f (rI0 fun i j=>.bl (g i j)):=by
 intro pins s σ H x y v u Q I rx ry h;obtain⟨i,j,rfl,rfl,q⟩:=h;obtain⟨t,rfl⟩:=rx;obtain⟨t',rfl⟩:=ry;exact rule i j t t' s _ _ ⟨.bl (g i j),H,I,rfl,q⟩
def qe8 (i j:Int):Prop:=0 < j/\j < 1073741824
def qe6 (i j:Int):Prop:=0<=j/\j<=1000000/\i.natAbs < 2 ^ 64
def Xb (i j:Int):Prop:=(-(2 ^ 64) < i/\i < 2 ^ 64)\/(-(2 ^ 64) < j/\j < 2 ^ 64)
theorem Xb.ok {i j:Int}(h:Xb i j):IntMulOk i j:=by
 rcases h with ⟨h1,h2⟩ | ⟨h1,h2⟩
 ·exact .of_left (intBits_le_64 h1 h2)
 ·exact .of_right (intBits_le_64 h1 h2)
theorem cW:OpR X (binaryOp .Add) (rI0 fun i j=>.int (i+j)):=Yv fun _ _ _ _ _ _ _ q=>add_int q
theorem jD:OpR X (binaryOp .Sub) (rI0 fun i j=>.int (i - j)):=Yv fun _ _ _ _ _ _ _ q=>sub_int q
theorem lM:OpR X (binaryOp .Mult) (rI Xb fun i j=>.int (i*j)):=opI fun _ _ _ _ _ _ _ hc q=>mul_int q hc.ok
theorem kH:OpR X (binaryOp .FloorDiv) (rI qe8 fun i j=>.int (i / j)):=opI fun i j _ _ _ _ _ hc q=>by
 have h1:(0:Int) < j:=hc.1;have h2:j < 1073741824:=hc.2;exact floordiv_int (by lia) (by rw[Int.fdiv_eq_ediv_of_nonneg i (by lia)];exact q) (.inl (PyProof.noPylong_small (by lia)))
theorem jF:OpR X (binaryOp .Mod) (rI (fun _ j=>0 < j) fun i j=>.int (i % j)):=opI fun i j _ _ _ _ _ hc q=>by
 have h1:(0:Int) < j:=hc;exact mod_int' (by lia) (by rw[Int.fmod_eq_emod_of_nonneg i (by lia)];exact q)
theorem kB:OpR X (binaryOp .Mod) (rI (fun _ j=>j≠0) fun i j=>.int (i.fmod j)):=opI fun _ _ _ _ _ _ _ hc q=>mod_int' hc q
theorem jG:OpR X (binaryOp .Pow) (rI qe6 fun i j=>.int (i ^ j.toNat)):=opI fun _ _ _ _ _ _ _ hc q=>pow_int_small hc.1 hc.2.1 hc.2.2 q
theorem unI {f:Value->Sem Value}{g:Int->Int}(rule:∀(i:Int) (t:Tok) (s:Shared) (Q:Value->Shared->Prop) (E:Value->Shared->Prop),Q (.int (g i) s.toks) { s with toks:=s.toks+1 }->wpAny (model X.prog X.w) X.A (f (.int i t)) Q E s) :
  UnR X f (rU fun i=>.int (g i)):=by
 intro pins s σ H x v Q I rx h;obtain⟨i,rfl,q⟩:=h;obtain⟨t,rfl⟩:=rx;exact rule i t s _ _ ⟨.int (g i),H,I.tok _,⟨_,rfl⟩,q⟩
theorem Cv:UnR X (unaryOp .USub) (rU fun i=>.int (-i)):=unI fun _ _ _ _ _ q=>neg_int q
end
def Yi:V->V->Bool
 | .non,.non=>true | .non,.int _=>true | .int _,.non=>true | .non,.bl _=>true | .bl _,.non=>true | .non,.str _=>true | .str _,.non=>true
 | .int _,.int _=>true | .bl _,.bl _=>true | .str _,.str _=>true | .byt _,.byt _=>true
 | .int _,.str _=>true | .str _,.int _=>true | .bl _,.str _=>true | .str _,.bl _=>true
 |_,_=>false
def rEq:R2:=fun x y H Q=>Yi x y=true/\Q (.bl (decide (x=y))) H
def rNe:R2:=fun x y H Q=>Yi x y=true/\Q (.bl (!decide (x=y))) H
theorem Hc {i j:Int}:decide (V.int i=V.int j)=(i == j):=by
 rw[Bool.eq_iff_iff];simp
theorem Jx {i j:Bool}:decide (V.bl i=V.bl j)=(i == j):=by
 rw[Bool.eq_iff_iff];simp
theorem Gx {i j:Str}:decide (V.str i=V.str j)=(i == j):=by
 rw[Bool.eq_iff_iff];simp
theorem Ff {i j:Array UInt8}:decide (V.byt i=V.byt j)=(i.toList == j.toList):=by
 rw[Bool.eq_iff_iff]
 cases i
 cases j
 simp
section
variable {X:Cx} {a b c:Expr} {ta tb tc:TE} {pos:Pos}
theorem cO {pins:List (Addr × Obj)}{σ:St}{H:Hp}{s:Shared}{Q:VK}{k k':Bool}(I:Inv X pins σ H s)(q:Q (.bl k) H)(e:k=k'):EP X pins σ Q (.bool k') s:=by
 subst e;exact⟨.bl k,H,I,rfl,q⟩
theorem eZ:OpR X (compareOp .Eq) rEq:=by
 intro pins s σ H x y v u Q I rx ry h;obtain⟨hs,q⟩:=h
 cases x with
 |non=>
  cases rx
  cases y with
  |non=>cases ry;exact PySem.EqNone.eq_none_none (cO I q (by simp))
  |bl j=>cases ry;exact PySem.EqNone.eq_none_bool (cO I q (by simp))
  |int j=>obtain⟨t',rfl⟩:=ry;exact PySem.EqNone.eq_none_int (cO I q (by simp))
  |str j=>obtain⟨t',rfl⟩:=ry;exact PySem.EqNone.eq_none_str (cO I q (by simp))
  |_=>exact absurd (show false=true from hs) Bool.false_ne_true
 |bl i=>
  cases rx
  cases y with
  |non=>cases ry;exact PySem.EqNone.eq_bool_none (cO I q (by simp))
  |bl j=>cases ry;exact eq_bool (cO I q Jx)
  |str j=>obtain⟨t',rfl⟩:=ry;exact PySem.EqMixed.eq_bool_str (cO I q (by simp))
  |_=>exact absurd (show false=true from hs) Bool.false_ne_true
 |int i=>
  obtain⟨t,rfl⟩:=rx
  cases y with
  |non=>cases ry;exact PySem.EqNone.eq_int_none (cO I q (by simp))
  |int j=>obtain⟨t',rfl⟩:=ry;exact eq_int (cO I q Hc)
  |str j=>obtain⟨t',rfl⟩:=ry;exact PySem.EqMixed.eq_int_str (cO I q (by simp))
  |_=>exact absurd (show false=true from hs) Bool.false_ne_true
 |str i=>
  obtain⟨t,rfl⟩:=rx
  cases y with
  |non=>cases ry;exact PySem.EqNone.eq_str_none (cO I q (by simp))
  |bl j=>cases ry;exact PySem.EqMixed.eq_str_bool (cO I q (by simp))
  |int j=>obtain⟨t',rfl⟩:=ry;exact PySem.EqMixed.eq_str_int (cO I q (by simp))
  |str j=>obtain⟨t',rfl⟩:=ry;exact eq_str (cO I q Gx)
  |_=>exact absurd (show false=true from hs) Bool.false_ne_true
 |byt i=>
  obtain⟨t,rfl⟩:=rx
  cases y with
  |byt j=>obtain⟨t',rfl⟩:=ry;exact W.eq_bytes (cO I q Ff)
  |_=>exact absurd (show false=true from hs) Bool.false_ne_true
 |_=>cases y<;>exact absurd (show false=true from hs) Bool.false_ne_true
theorem nQ:OpR X (compareOp .NotEq) rNe:=by
 intro pins s σ H x y v u Q I rx ry h;obtain⟨hs,q⟩:=h
 cases x with
 |non=>
  cases rx
  cases y with
  |non=>cases ry;exact PySem.EqNone.ne_none_none (cO I q (by simp))
  |bl j=>cases ry;exact PySem.EqNone.ne_none_bool (cO I q (by simp))
  |int j=>obtain⟨t',rfl⟩:=ry;exact PySem.EqNone.ne_none_int (cO I q (by simp))
  |str j=>obtain⟨t',rfl⟩:=ry;exact PySem.EqNone.ne_none_str (cO I q (by simp))
  |_=>exact absurd (show false=true from hs) Bool.false_ne_true
 |bl i=>
  cases rx
  cases y with
  |non=>cases ry;exact PySem.EqNone.ne_bool_none (cO I q (by simp))
  |bl j=>cases ry;exact ne_bool (cO I q (congrArg not Jx))
  |str j=>obtain⟨t',rfl⟩:=ry;exact PySem.EqMixed.ne_bool_str (cO I q (by simp))
  |_=>exact absurd (show false=true from hs) Bool.false_ne_true
 |int i=>
  obtain⟨t,rfl⟩:=rx
  cases y with
  |non=>cases ry;exact PySem.EqNone.ne_int_none (cO I q (by simp))
  |int j=>obtain⟨t',rfl⟩:=ry;exact ne_int (cO I q (congrArg not Hc))
  |str j=>obtain⟨t',rfl⟩:=ry;exact PySem.EqMixed.ne_int_str (cO I q (by simp))
  |_=>exact absurd (show false=true from hs) Bool.false_ne_true
 |str i=>
  obtain⟨t,rfl⟩:=rx
  cases y with
  |non=>cases ry;exact PySem.EqNone.ne_str_none (cO I q (by simp))
  |bl j=>cases ry;exact PySem.EqMixed.ne_str_bool (cO I q (by simp))
  |int j=>obtain⟨t',rfl⟩:=ry;exact PySem.EqMixed.ne_str_int (cO I q (by simp))
  |str j=>obtain⟨t',rfl⟩:=ry;exact ne_str (cO I q (congrArg not Gx))
  |_=>exact absurd (show false=true from hs) Bool.false_ne_true
 |byt i=>
  obtain⟨t,rfl⟩:=rx
  cases y with
  |byt j=>obtain⟨t',rfl⟩:=ry;exact W.ne_bytes (cO I q (congrArg not Ff))
  |_=>exact absurd (show false=true from hs) Bool.false_ne_true
 |_=>cases y<;>exact absurd (show false=true from hs) Bool.false_ne_true
theorem wM:OpR X (compareOp .Lt) (rI0 fun i j=>.bl (decide (i < j))):=Wr fun _ _ _ _ _ _ _ q=>lt_int q
theorem zW:OpR X (compareOp .Gt) (rI0 fun i j=>.bl (decide (j < i))):=Wr fun _ _ _ _ _ _ _ q=>gt_int q
theorem Mn:OpR X (compareOp .GtE) (rI0 fun i j=>.bl (decide (j<=i))):=Wr fun _ _ _ _ _ _ _ q=>ge_int q
theorem bK (b:Expr){op:CmpOp}(h:op≠.In:=by decide)(h2:op≠.NotIn:=by decide):behindInMarks op b=false:=by
 have e1:(op == CmpOp.In)=false:=by cases op<;>first | rfl | exact absurd rfl h
 have e2:(op == CmpOp.NotIn)=false:=by cases op<;>first | rfl | exact absurd rfl h2
 cases b<;>simp[behindInMarks,e1,e2]
theorem iK {op:CmpOp}{r:R2}(ho:OpR X (compareOp op) r)(ha:PE X a ta)(hb:PE X b tb)(hm:behindInMarks op b=false):PE X (.Compare a [op] [b] pos) (tOp r ta tb):=by
 intro pins s σ H Q I h;exact wpAny_Compare1 (Ws ha hb I h fun v u s2 x y H2 I2 rx ry q=>ho pins s2 σ H2 x y v u Q I2 rx ry q) hm
def Zf (t:TE):TT:=fun σ H Q=>t σ H fun x H'=>∃k,x=.bl k/\Q k H'
theorem bG {op:CmpOp}{r:R2}(ho:OpR X (compareOp op) r)(ha:PE X a ta)(hb:PE X b tb)(hm:behindInMarks op b=false):PT X (.Compare a [op] [b] pos) (Zf (tOp r ta tb)):=by
 intro pins s σ H Q I h;refine wpAny_isTrue_Compare1 (thn (ha pins s σ H _ I h) fun v s1 ⟨x,H1,I1,r1,q1⟩=>thn (hb pins s1 σ H1 _ I1 q1) fun u s2 ⟨y,H2,I2,r2,q2⟩=>
  thn (ho pins s2 σ H2 x y v u _ I2 r1 r2 q2) fun c s3 ⟨z,H3,I3,r3,k,e,q3⟩=>?_) hm
 subst e
 cases r3
 exact wpAny_truthy_bool ⟨H3,I3,q3⟩
theorem xG:(sizeLine:Nat) < 2 ^ 63:=by rw[sizeLine_eq];decide
theorem Ai {x:V}{us:List Value}(r:bZ [x] us):∃u,us=[u]/\cC x u:=by
 cases r with
 |cons r1 r2=>cases r2;exact⟨_,rfl,r1⟩
theorem Og {x y:V}{us:List Value}(r:bZ [x,y] us):∃u w',us=[u,w']/\cC x u/\cC y w':=by
 cases r with
 |cons r1 r2=>
  cases r2 with
  |cons r3 r4=>cases r4;exact⟨_,_,rfl,r1,r3⟩
theorem tT:sS X (.builtin "abs") (fun xs H Q=>∃i,xs=[.int i]/\Q (.int (if i < 0 then -i else i)) H):=by
 intro pins s σ H xs us Q I r h;obtain⟨i,rfl,q⟩:=h;obtain⟨u,rfl,t,rfl⟩:=Ai r;exact call_abs_int fun u tk=>⟨.int (if i < 0 then -i else i),H,I.tok _,⟨_,rfl⟩,q⟩
end
structure Da (h:Heap) (x dx C:Addr) (mA:Str->Option Value):Prop where
 obj:h.get? x=some (W.instObj C dx)
 ns:h.Ns1 dx mA
 ne:dx≠x
theorem Hq {h:Heap}{dx:Addr}{mA:Str->Option Value}(n:h.Ns1 dx mA):∃od,h.get? dx=some od/\∀name,W.lookIn name od=some (mA name):=by
 obtain⟨o,es,ep,ho,hd,hk,_,hm⟩:=n;refine⟨o,ho,fun name=>?_⟩;have e:=hm name;unfold nsFind findBy at e;rw[<- Array.find?_toList] at e;unfold W.lookIn;rw[hd];dsimp only;split
 ·rename_i y q
  rw[q] at e;exact congrArg some e
 ·rename_i q
  rw[q] at e;have a:es.toList.any (·.refKey)=false:=by
   rw[any_eq_false];intro y hy;obtain⟨z,t,hkey⟩:=hk y (Array.mem_toList_iff.mp hy);simp[DictEntry.refKey,hkey]
  have a':¬es.toList.any (·.refKey)=true:=by rw[a];exact Bool.false_ne_true
  rw[if_neg a'];exact congrArg some e
theorem Da.look {h:Heap}{x dx C:Addr}{mA:Str->Option Value}(I:Da h x dx C mA):∃od,W.InstAt h x (W.instObj C dx) C (some od)/\∀name,W.lookIn name od=some (mA name):=
 let ⟨od,ho,hl⟩:=Hq I.ns
 ⟨od,⟨I.obj,rfl,rfl,ho⟩,hl⟩
section
variable {prog:Program} {w:World} {A:Around} {E:Value->Shared->Prop} {s:Shared} {K:Frag} {x dx C f:Addr} {mA:Str->Option Value} {name:Str} {v:Value}
theorem Tp {expr:Bool}{Q:Value->Shared->Prop}(X:K.In s.heap)(I:Da s.heap x dx C mA)(hg:W.plainGet K C name=true)(hh:W.hasDictIn K C=true)(ha:W.findIn K (.ref C) name=some none)(hv:mA name=some v)(hv':W.handedIn v=true)(h:Q v { s with toks:=s.toks+1 }) :
  wpAny (model prog w) A (getAttr (.ref x) name expr) Q E s:=by
 obtain⟨od,J,hl⟩:=I.look;exact W.get_value X J (W.plainGet_of hg).1 (W.findObj_own hh ha rfl (by rw[hl,hv])) hv' h
theorem Mm {pl:Sem Bool}{Q:Value × List Value->Shared->Prop}(X:K.In s.heap)(I:Da s.heap x dx C mA)(hg:W.plainGet K C name=true)(hf:W.findIn K (.ref C) name=some (some (.ref f)))(ht:W.isFn K (.ref f)=true)(hv:mA name=none)(h:Q (.ref f,[.ref x]) s) :
  wpAny (model prog w) A (getMethod (.ref x) name pl) Q E s:=by
 obtain⟨od,J,hl⟩:=I.look;exact W.method_fn X J (W.plainGet_of hg).1 (W.plainGet_of hg).2 hf (beq_iff_eq.mp ht) (by show (W.lookIn name od).map (·.isSome)=some false;rw[hl,hv];rfl) h
theorem Rf {ns:List Str}{Q:Unit->Shared->Prop}(X:K.In s.heap)(I:Da s.heap x dx C mA)(hs:W.findIn K (.ref C) "__setattr__"=some (some (.builtin "object.__setattr__")))(hp:W.plainOver K C=true)(ht:W.takerIn K C name=some none)(hh:W.hasDictIn K C=true)(hw:PySem.Within mA ns)(hsz:ns.length<=sizeLine)(h:∀h',Da h' x dx C (fun y=>if y=name then some v else mA y)->Heap.SameBut dx s.heap h'->Q () { s with heap:=h',toks:=s.toks+2 }) :
  wpAny (model prog w) A (setAttr (.ref x) name v) Q E s:=by
 obtain⟨od,J,hl⟩:=I.look;refine W.set_plain X J hs (W.osa_open (s:={ s with toks:=s.toks+1 }) (r:=none) X J hp ht fun b=>?_);obtain⟨cd,hc,hd'⟩:=W.any_some hh;have hx:s.heap.get? x=some ⟨.ref C,some dx,.plain,#[]⟩:=I.obj;refine wpAny_bind (wpAny_pure (wpAny_bind (wpAny_bind (wpAny_loadPart hx (wpAny_bind (W.Looks.here (s:={ s with toks:=s.toks+1 }) (W.looks_clsIn X hc) ?_))))));rw[hd'];refine wpAny_pure (a:=some dx) (wpAny_bind (wpAny_pure (wpAny_bind ?_)));refine wpAny_nsSet1 (s:={ s with toks:=s.toks+1 }) I.ns fun h' hn2 hs2=>?_;obtain⟨oD,esD,epD,hoD,hdD,hcD⟩:=hn2.count (PySem.Within.cons name v hw);refine wpAny_bind (wpAny_lookBehind hoD (by rw[hdD];exact pastItsLine_dict (Nat.le_trans hcD (by rw[length_cons];lia))) ?_);exact wpAny_pure (h _ ⟨(hs2.2 _ (Ne.symm I.ne)).trans I.obj,hn2,I.ne⟩ hs2)
theorem Jy {R:Result->Shared->Prop}{vs:List Value}{kw:List (Str × Value)}(X:K.In s.heap)(hm:W.makesIn K C=true)(hi:W.findIn K (.ref C) "__init__"=some (some (.ref f)))(hf:W.typeIn K (.ref f)=some (.type "function"))(h:codeAny (model prog w) (A.under (.builtin "type.__call__" ⟨.ref C :: vs,kw⟩)) (.call (.ref f) ⟨.ref (s.heap.objs.size+1) :: vs,kw⟩) (W.InitBack (s.heap.objs.size+1) R)
   { s with heap:=(s.heap.push W.emptyDict).push (W.instObj C s.heap.objs.size) }) :
  codeAny (model prog w) A (.call (.ref C) ⟨vs,kw⟩) R s:=by
 obtain⟨hh,g,d,t,os⟩:=s;exact W.make_core (W.makes_of X hm) (W.looks_findIn X hi) (fun self=>W.bind_fn X self hf) (.inl rfl) h
end
def eX (f:Str)(v:V):List (Str × V)->List (Str × V)
 | []=>[(f,v)]
 | (g,x) :: r=>if g=f then (g,v) :: r else (g,x) :: eX f v r
theorem bM (f g:Str)(v:V):∀fs:List (Str × V),(eX f v fs).lookup g=if g=f then some v else fs.lookup g
 | []=>by
  show List.lookup g [(f,v)]=_
  by_cases h:g=f
  ·have hb:(g == f)=true:=beq_iff_eq.mpr h;simp only[List.lookup,hb,if_pos h]
  ·have hb:(g == f)=false:=beq_eq_false_iff_ne.mpr h;simp only[List.lookup,hb,if_neg h]
 | (k,x) :: r=>by
  have ih:=bM f g v r;rw[show eX f v ((k,x) :: r)=(if k=f then (k,v) :: r else (k,x) :: eX f v r) from rfl]
  by_cases hk:k=f
  ·rw[if_pos hk]
   by_cases h:g=k
   ·have hb:(g == k)=true:=beq_iff_eq.mpr h;simp only[List.lookup,hb,if_pos (h.trans hk)]
   ·have hb:(g == k)=false:=beq_eq_false_iff_ne.mpr h;simp only[List.lookup,hb,if_neg (fun e:g=f=>h (e.trans hk.symm))]
  ·rw[if_neg hk]
   by_cases h:g=k
   ·have hb:(g == k)=true:=beq_iff_eq.mpr h;simp only[List.lookup,hb,if_neg (fun e:g=f=>hk (h.symm.trans e))]
   ·have hb:(g == k)=false:=beq_eq_false_iff_ne.mpr h;simp only[List.lookup,hb];exact ih
theorem pW (f:Str)(v:V):∀fs:List (Str × V),f∈(eX f v fs).map (·.1)/\∀g,g∈fs.map (·.1)->g∈(eX f v fs).map (·.1)
 | []=>⟨by simp[eX],fun g h=>by simp at h⟩
 | (k,x) :: r=>by
  obtain⟨i1,i2⟩:=pW f v r;rw[show eX f v ((k,x) :: r)=(if k=f then (k,v) :: r else (k,x) :: eX f v r) from rfl]
  by_cases hk:k=f
  ·rw[if_pos hk];subst hk;exact⟨by simp,fun g h=>by simpa using h⟩
  ·rw[if_neg hk];refine⟨?_,fun g h=>?_⟩
   ·rw[map_cons];exact mem_cons_of_mem _ i1
   ·rw[map_cons] at h ⊢;rcases mem_cons.mp h with e | e
    ·exact mem_cons.mpr (.inl e)
    ·exact mem_cons_of_mem _ (i2 g e)
theorem fA (f:Str)(v:V):∀fs:List (Str × V),(eX f v fs).length<=fs.length+1
 | []=>by simp[eX]
 | (k,x) :: r=>by
  have ih:=fA f v r;rw[show eX f v ((k,x) :: r)=(if k=f then (k,v) :: r else (k,x) :: eX f v r) from rfl]
  by_cases hk:k=f
  ·rw[if_pos hk,length_cons,length_cons];lia
  ·rw[if_neg hk,length_cons,length_cons];lia
theorem kP.some_of {v:V}{o:Option Value}(r:kP (some v) o):∃u,o=some u/\cC v u:=by
 cases o with
 |none=>exact(show False from r).elim
 |some u=>exact⟨u,rfl,r⟩
theorem kP.none_of {o:Option Value}(r:kP none o):o=none:=by
 cases o with
 |none=>rfl
 |some u=>exact(show False from r).elim
theorem Hi {v:V}{u:Value}(r:cC v u):W.handedIn u=true:=by
 cases v with
 |non=>cases (show u=Value.none from r);rfl
 |bl b=>cases (show u=Value.bool b from r);rfl
 |int i=>obtain⟨t,e⟩:=(show ∃t,u=Value.int i t from r);cases e;rfl
 |str x=>obtain⟨t,e⟩:=(show ∃t,u=Value.str x t from r);cases e;rfl
 |byt b=>obtain⟨t,e⟩:=(show ∃t,u=Value.bytes b t from r);cases e;rfl
 |flt b=>obtain⟨t,e⟩:=(show ∃t,u=Value.float b t from r);cases e;rfl
 |ref a=>cases (show u=Value.ref a from r);rfl
 |ty n=>cases (show u=Value.type n from r);rfl
section
variable {P:Program} {w:World} {H H':Hp} {h h':Heap} {a C dx:Addr} {fs fs':List (Str × V)}
theorem rP (hok:HOk P w H h)(e:H a=some (.ins C dx fs)):∃mA,Da h a dx C mA/\(∀f,kP (fs.lookup f) (mA f))/\PySem.Within mA (fs.map (·.1))/\fs.length<=1000/\H dx=some (.own a):=by
 obtain⟨d,z,ne,ob,mA,n,r,q⟩:=(show eI P w H h a (.ins C dx fs) from hok a _ e)
 exact⟨mA,⟨ob,n,ne⟩,r,q,z,d⟩
end
structure Cls (K:Frag) (C:Addr):Prop where
 pg:W.plainGet K C Str.empty=true
 hd:W.hasDictIn K C=true
 po:W.plainOver K C=true
 sa:W.findIn K (.ref C) "__setattr__"=some (some (.builtin "object.__setattr__"))
theorem Cls.get {K:Frag}{C:Addr}(c:Cls K C)(f:Str):W.plainGet K C f=true:=c.pg
def gG (K:Frag)(C:Addr)(f:Str):Prop:=W.findIn K (.ref C) f=some none
theorem gG.taker {K:Frag}{C:Addr}{f:Str}(n:gG K C f):W.takerIn K C f=some none:=by
 unfold W.takerIn;rw[show W.findIn K (.ref C) f=some none from n];rfl
structure gL (K:Frag) (C:Addr) (m:Str) (f:Addr):Prop where
 at_:W.findIn K (.ref C) m=some (some (.ref f))
 fn:W.isFn K (.ref f)=true
 kp:W.keepIn K (.ref f)=true
section
variable {X:Cx} {pins:List (Addr × Obj)} {σ:St} {H:Hp} {s:Shared} {a C dx:Addr} {fs:List (Str × V)} {f:Str} {v:V} {A:Around} {E:Value->Shared->Prop}
theorem Df {b:Bool}{Q:Value->Shared->Prop}(I:Inv X pins σ H s)(e:H a=some (.ins C dx fs))(c:Cls X.K C)(n:gG X.K C f)(l:fs.lookup f=some v)(h:∀u s',Inv X pins σ H s'->cC v u->Q u s'):wpAny (model X.prog X.w) A (getAttr (.ref a) f b) Q E s:=by
 obtain⟨mA,O,r,_,_,_⟩:=rP I.hok e;obtain⟨u,hu,ru⟩:=kP.some_of (v:=v) (o:=mA f) (by rw[<- l];exact r f);exact Tp I.kIn O (c.get f) c.hd n hu (Hi ru) (h u _ (I.tok _) ru)
theorem kD {m:Str}{g:Addr}{pl:Sem Bool}{Q:Value × List Value->Shared->Prop}(I:Inv X pins σ H s)(e:H a=some (.ins C dx fs))(c:Cls X.K C)(k:gL X.K C m g)(l:fs.lookup m=none)(h:Q (.ref g,[.ref a]) s):wpAny (model X.prog X.w) A (getMethod (.ref a) m pl) Q E s:=by
 obtain⟨mA,O,r,_,_,_⟩:=rP I.hok e;have hn:mA m=none:=kP.none_of (by rw[<- l];exact r m);exact Mm I.kIn O (c.get m) k.at_ k.fn hn h
theorem Dw {y:V}{u:Value}{Q:Unit->Shared->Prop}(I:Inv X pins σ H s)(e:H a=some (.ins C dx fs))(c:Cls X.K C)(n:gG X.K C f)(hl:fs.length < 1000)(ry:cC y u)(h:∀s',Inv X pins σ (upd H a (.ins C dx (eX f y fs))) s'->Q () s'):wpAny (model X.prog X.w) A (setAttr (.ref a) f u) Q E s:=by
 obtain⟨mA,O,r,wi,_,ho⟩:=rP I.hok e;have hz:(fs.map (·.1)).length<=sizeLine:=by rw[length_map,sizeLine_eq];lia
 refine Rf I.kIn O c.sa c.po n.taker c.hd wi hz fun h' O' sb=>h _ ?_;have hd:∃o,h'.get? dx=some o:=let ⟨o,_,_,e',_⟩:=O'.ns;⟨o,e'⟩
 refine I.write (x:=a) (e:=dx) (by rw[e];exact True.intro) (.inr ho) (fun b q hb z=>(sb.2 b hb).trans z) hd ?_;refine⟨by rw[aU O.ne];exact ho,?_,O.ne,O'.obj,_,O'.ns,fun g=>?_,fun g hg=>?_⟩
 ·have:=fA f y fs;lia
 ·show kP ((eX f y fs).lookup g) (if g=f then some u else mA g);rw[bM]
  by_cases q:g=f
  ·rw[if_pos q,if_pos q];exact ry
  ·rw[if_neg q,if_neg q];exact r g
 ·by_cases q:g=f
  ·rw[q];exact(pW f y fs).1
  ·refine(pW f y fs).2 g (wi g fun z=>hg ?_);show (if g=f then some u else mA g)=none;rw[if_neg q];exact z
theorem Inv.made (I:Inv X pins σ H s):Inv X pins σ (upd (upd H s.heap.objs.size (.own (s.heap.objs.size+1))) (s.heap.objs.size+1) (.ins C s.heap.objs.size []))
  { s with heap:=(s.heap.push W.emptyDict).push (W.instObj C s.heap.objs.size) }:=by
 have e1:(s.heap.push W.emptyDict).get? s.heap.objs.size=some W.emptyDict:=Heap.get?_push_size s.heap rfl;have e2:((s.heap.push W.emptyDict).push (W.instObj C s.heap.objs.size)).get? (s.heap.objs.size+1)=some (W.instObj C s.heap.objs.size):=by
  have:=Heap.get?_push_size (s.heap.push W.emptyDict) (o:=W.instObj C s.heap.objs.size) rfl
  rwa [Heap.size_push] at this
 have e3:(s.heap.push W.emptyDict).Ns s.heap.objs.size (fun _=>none):=⟨W.emptyDict,#[],_,e1,rfl,(fun e he=>absurd he (by simp)),fun _=>rfl⟩
 have I1:=I.laid (a:=s.heap.objs.size) (o:=.own (s.heap.objs.size+1)) (h':=s.heap.push W.emptyDict) (t':=s.toks) (fun b u q=>Heap.get?_push_of_some _ q) (Nat.le_refl _) ⟨_,e1⟩;refine I1.laid (a:=s.heap.objs.size+1) (o:=.ins C s.heap.objs.size []) (t':=s.toks) (fun b u q=>Heap.get?_push_of_some _ q) (Nat.le_of_eq (Heap.size_push _ _)) ?_;have ne:s.heap.objs.size≠s.heap.objs.size+1:=Nat.ne_of_lt (Nat.lt_succ_self _);refine⟨by rw[aU ne,aB],Nat.zero_le _,ne,e2,fun _=>none,(Heap.Ns1.of_empty e3).at fun o q=>Heap.get?_push_of_some _ q,fun _=>True.intro,fun y hy=>absurd rfl hy⟩
theorem Px {prog:Program}{w:World}{env:Env}{e:Expr}{f:Str}{pos:Pos}{s:Shared}{Q:Value->Shared->Prop}(hb:attributeBase e f env (eval e env)=eval e env)(h:wpAny (model prog w) A (eval e env) (fun o s₁=>wpAny (model prog w) A (getAttr o f true) Q E s₁) E s):wpAny (model prog w) A (eval (.Attribute e f pos) env) Q E s:=
 Attribute_any_ h (by rw[arm_eval_Attribute,hb])
end
def qe9 (K:Frag)(ta:TE)(f:Str):TE:=fun σ H Q=>ta σ H fun x H1=>∃a C dx fs v,x=.ref a/\H1 a=some (.ins C dx fs)/\Cls K C/\gG K C f/\fs.lookup f=some v/\Q v H1
def qc1 (K:Frag)(ta tv:TE)(f:Str):TS:=fun D σ H=>tv σ H fun y H1=>ta σ H1 fun x H2=>∃a C dx fs,x=.ref a/\H2 a=some (.ins C dx fs)/\Cls K C/\gG K C f/\fs.length < 1000/\
 D.nx σ (upd H2 a (.ins C dx (eX f y fs)))
section
variable {X:Cx} {o e value:Expr} {f:Str} {pos pos' tpos:Pos} {ta tv:TE}
theorem bX (he:PE X e ta)(hb:attributeBase e f X.env (eval e X.env)=eval e X.env):PE X (.Attribute e f pos) (qe9 X.K ta f):=by
 intro pins s σ H Q I h;refine Px hb (thn (he pins s σ H _ I h) fun u s1 ⟨x,H1,I1,rx,a,C,dx,fs,v,ex,ea,c,n,l,q⟩=>?_);subst ex;obtain rfl:u=Value.ref a:=rx;exact Df I1 ea c n l fun u' s2 I2 ru=>⟨v,H1,I2,ru,q⟩
theorem mC (ha:PE X o ta)(hv:PE X value tv)(hs:swapsWith value (some (.Attribute o f pos')) pos.line X.env=pure false):PS X (.Assign [.Attribute o f pos'] value pos) (qc1 X.K ta tv f):=by
 intro pins s σ H D I h;refine plainObj_wpAny_Assign_Attribute (thn (hv pins s σ H _ I h) fun u s1 ⟨y,H1,I1,ry,q⟩=>thn (ha pins s1 σ H1 _ I1 q) fun ov s2 ⟨x,H2,I2,rx,a,C,dx,fs,ex,ea,c,n,l,q2⟩=>?_) hs;subst ex;obtain rfl:ov=Value.ref a:=rx;exact Dw I2 ea c n l ry fun s3 I3=>⟨σ,_,I3,q2⟩
end
section
variable {X:Cx} {pins:List (Addr × Obj)} {σ:St} {H:Hp} {s:Shared} {A:Around} {E:Value->Shared->Prop} {Q:Value->Shared->Prop} {c:Value} {b:Bool}
inductive mV (K:Frag) (H:Hp):V->Value->Prop where
 |non:mV K H .non (.type "NoneType")
 |bl (x:Bool):mV K H (.bl x) (.type "bool")
 |int (i:Int):mV K H (.int i) (.type "int")
 |str (x:Str):mV K H (.str x) (.type "str")
 |flt (x:UInt64):mV K H (.flt x) (.type "float")
 |lst {a:Addr} {xs:List V} (e:H a=some (.lst xs)):mV K H (.ref a) (.type "list")
 |frz {a:Addr} {o:Obj} {xs:List V} (e:H a=some (.frz o (.lst xs))):mV K H (.ref a) (.type "list")
 |tup {a:Addr} {xs:List V} (e:H a=some (.tup xs)):mV K H (.ref a) (.type "tuple")
 |dK {a:Addr} {kvs:List (Key × V)} (e:H a=some (.dK kvs)):mV K H (.ref a) (.type "dict")
 |dT {a:Addr} {kvs:List (List Key × V)} (e:H a=some (.dT kvs)):mV K H (.ref a) (.type "dict")
 |ins {a C dx:Addr} {fs:List (Str × V)} (e:H a=some (.ins C dx fs)) (cl:Cls K C) (ha:W.findIn K (.ref C) "__class__"=some (some (.builtin "object.__class__")))
   (hn:W.specialIn K (.builtin "object.__class__") "__get__"=some (some (.builtin "getset_descriptor.__get__"))) (htk:W.takesIn K (.builtin "object.__class__")=some true)
   (hm:W.mroIn K C (.type "object")=some true):mV K H (.ref a) (.ref C)
theorem Iv {x:V}{u t:Value}(I:Inv X pins σ H s)(rx:cC x u)(ty:mV X.K H x t)(e:W.kitOne X.K t c=some b)(h:∀tk,Q (.bool b) { s with toks:=tk }) :
  wpAny (model X.prog X.w) A (call (.builtin "isinstance") [u,c]) Q E s:=by
 cases ty with
 |non=>cases (show u=Value.none from rx);exact W.kia_one W.kitx_none I.kIn True.intro e (fun z=>nomatch z) h
 |bl y=>cases (show u=Value.bool y from rx);exact W.kia_one W.kitx_bool I.kIn True.intro e (fun z=>nomatch z) h
 |int i=>obtain⟨t,q⟩:=(show ∃t,u=Value.int i t from rx);cases q;exact W.kia_one W.kitx_int I.kIn True.intro e (fun z=>nomatch z) h
 |str y=>obtain⟨t,q⟩:=(show ∃t,u=Value.str y t from rx);cases q;exact W.kia_one W.kitx_str I.kIn True.intro e (fun z=>nomatch z) h
 |flt y=>obtain⟨t,q⟩:=(show ∃t,u=Value.float y t from rx);cases q;exact W.kia_one W.kitx_float I.kIn True.intro e (fun z=>nomatch z) h
 | @lst a xs ea=>
  cases (show u=Value.ref a from rx)
  obtain⟨_,_,n,_,h1⟩:=(show eI X.prog X.w H s.heap a (.lst xs) from I.hok a _ ea)
  exact W.kia_one W.kitx_list I.kIn ⟨_,h1,rfl⟩ e (fun z=>nomatch z) h
 | @frz a ob xs ea=>
  cases (show u=Value.ref a from rx)
  obtain⟨_,_,_,n,_,h1⟩:=(show eI X.prog X.w H s.heap a (.frz ob (.lst xs)) from I.hok a _ ea)
  exact W.kia_one W.kitx_list I.kIn ⟨_,h1,rfl⟩ e (fun z=>nomatch z) h
 | @tup a xs ea=>
  cases (show u=Value.ref a from rx)
  obtain⟨_,_,_,p⟩:=(show eI X.prog X.w H s.heap a (.tup xs) from I.hok a _ ea)
  obtain⟨o,h1,h2,_⟩:=p;exact W.kia_one W.kitx_tuple I.kIn ⟨o,h1,h2⟩ e (fun z=>nomatch z) h
 | @dK a kvs ea=>
  cases (show u=Value.ref a from rx)
  obtain⟨_,_,vs,_,p⟩:=(show eI X.prog X.w H s.heap a (.dK kvs) from I.hok a _ ea)
  obtain⟨o,es,ep,h1,h2,_⟩:=p;exact W.kia_one W.kitx_dict I.kIn ⟨o,h1,h2.1⟩ e (fun z=>nomatch z) h
 | @dT a kvs ea=>
  cases (show u=Value.ref a from rx)
  obtain⟨_,_,xs,_,o,es,ep,h1,h2,_⟩:=(show eI X.prog X.w H s.heap a (.dT kvs) from I.hok a _ ea)
  exact W.kia_one W.kitx_dict I.kIn ⟨o,h1,h2.1⟩ e (fun z=>nomatch z) h
 | @ins a C dx fs ea cl ha hn htk hm=>
  cases (show u=Value.ref a from rx)
  obtain⟨mA,O,_⟩:=rP I.hok ea;obtain⟨od,J,_⟩:=O.look;exact W.kia_one (W.kitx_own (cl.get _) cl.hd ha hn htk hm) I.kIn J e (fun z=>nomatch z) h
end
structure gQ (k:Nat) (A:Around):Prop where
 hd:A.handled=none
 dp:A.depth+3*k+5 < recursionLimit
 un:A.units+16*k+200 < cLine
theorem gQ.mono {j k:Nat}{A:Around}(r:gQ k A)(h:j<=k):gQ j A:=⟨r.hd,by have:=r.dp;lia,by have:=r.un;lia⟩
theorem gQ.deeper {k:Nat}{A:Around}(r:gQ (k+1) A)(env:Env):gQ k (A.deeper env):=
 ⟨r.hd,by have:=r.dp;show A.depth+1+3*k+5 < _;lia,by have:=r.un;show A.units+3+16*k+200 < _;lia⟩
theorem Dt {A:Around}{C:Addr}{us:List Value}{kw:List (Str × Value)}:(A.under (.builtin "type.__call__" ⟨.ref C :: us,kw⟩)).depth=A.depth+1:=by
 first | rfl | simp[Around.under,Code.weight,Code.isCreation,Code.isGuard,Code.isCaller,Code.frames,Code.isFrame,guardIds]
theorem Cs {A:Around}{C:Addr}{us:List Value}{kw:List (Str × Value)}:(A.under (.builtin "type.__call__" ⟨.ref C :: us,kw⟩)).units=A.units+1:=by
 first | rfl | simp[Around.under,Code.cUnits,Code.frames,Code.isFrame]
theorem gQ.make {k:Nat}{A:Around}(r:gQ (k+1) A)(C:Addr)(us:List Value)(kw:List (Str × Value)):gQ k (A.under (.builtin "type.__call__" ⟨.ref C :: us,kw⟩)):=
 ⟨r.hd,by have:=r.dp;rw[Dt];lia,by have:=r.un;rw[Cs];lia⟩
theorem gQ.depth {k:Nat}{A:Around}(r:gQ k A):A.depth < recursionLimit:=by have:=r.dp;lia
theorem gQ.units {k:Nat}{A:Around}(r:gQ k A):A.units+64 < cLine:=by have:=r.un;lia
def Vv:TA:=fun _ H Q=>Q [] H
def qa6 (ta:TE)(tr:TA):TA:=fun σ H Q=>ta σ H fun x H1=>tr σ H1 fun xs H2=>Q (x :: xs) H2
section
variable {X:Cx} {e:Expr} {es:List Expr} {te:TE} {t:TA} {pos:Pos}
theorem aD:PA X [] Vv:=fun _ _ _ _ H Q I h=>Calls.spliced_nil ⟨[],H,I,.nil,h⟩
theorem aA (ha:PE X e te)(hr:PA X es t)(hs:starEach (e :: es) X.env=(false,eval e X.env) :: starEach es X.env:=by rfl):PA X (e :: es) (qa6 te t):=by
 intro pos pins s σ H Q I h;rw[hs];show wpAny _ _ (spliced ((false,eval e X.env) :: backTo pos (starEach es X.env))) _ _ s;refine Calls.spliced_cons (thn (ha pins s σ H _ I h) fun u s1 ⟨x,H1,I1,r1,q1⟩=>?_);exact thn (hr pos pins s1 σ H1 _ I1 q1) fun us s2 ⟨xs,H2,I2,r2,q2⟩=>⟨x :: xs,H2,I2,.cons r1 r2,q2⟩
def qd8 (t:TA):TE:=fun σ H Q=>t σ H fun xs H1=>xs.length<=sizeLine/\∀p,H1 p=none->Q (.ref p) (upd H1 p (.tup xs))
def qb8 (t:TA):TE:=fun σ H Q=>t σ H fun xs H1=>xs.length<=sizeLine/\∀p,H1 p=none->Q (.ref p) (upd H1 p (.lst xs))
theorem dH {x1}(h:PA X es t):PE X (.Tuple es x1 pos) (qd8 t):=by
 intro pins s σ H Q I hq;refine wpAny_Tuple_spliced (thn (h pos pins s σ H _ I hq) fun us s1 ⟨xs,H1,I1,r,z,q⟩=>⟨by rw[<- r.length];exact z,?_⟩);have hf:H1 s1.heap.objs.size=none:=I1.hok.fresh (Nat.le_refl _);refine⟨.ref s1.heap.objs.size,upd H1 s1.heap.objs.size (.tup xs),I1.laid (t':=s1.toks) (fun b u e=>Heap.get?_push_of_some _ e) (Nat.le_refl _) ?_,rfl,q _ hf⟩;exact⟨z,us,r,⟨_,Heap.get?_push_size _ rfl,rfl,_,rfl⟩⟩
theorem cZ (h:PA X es t):PE X (.List es pos) (qb8 t):=by
 intro pins s σ H Q I hq;refine wpAny_List_spliced (thn (h pos pins s σ H _ I hq) fun us s1 ⟨xs,H1,I1,r,z,q⟩=>⟨by rw[<- r.length];exact z,?_⟩);have hf:H1 s1.heap.objs.size=none:=I1.hok.fresh (Nat.le_refl _);refine⟨.ref s1.heap.objs.size,upd H1 s1.heap.objs.size (.lst xs),I1.laid (t':=s1.toks) (fun b u e=>Heap.get?_push_of_some _ e) (Nat.le_refl _) ?_,rfl,q _ hf⟩;exact⟨z,us,0,r,Heap.get?_push_size _ rfl⟩
end
abbrev Sp:=List V->Hp->VK->XK->Prop
abbrev CXT:=List Env->Hp->Shared->XK->Value->Shared->Prop
structure Cp (P:Program) (w:World) (K:Frag) (mg:Str->Option Value) (base:Heap) (A:Around) (outer:List Env) (s:Shared) (H:Hp):Prop where
 frames:A.frames=some outer
 mod:Mod K mg base
 bs:∀b o,base.get? b=some o->s.heap.get? b=some o/\H b=none
 bsz:base.objs.size<=s.heap.objs.size
 funs:s.heap.FunFrames base outer
 frf:∀b∈frs outer,H b=none
 hok:HOk P w H s.heap
 bare:AllBare s.gens
def CE (outer:List Env)(P:Program)(w:World)(H:Hp)(s:Shared)(Q:VK)(u:Value)(s':Shared):Prop:=
 ∃v H',s'.os=s.os/\AllBare s'.gens/\Un (frs outer) [] H H' s.heap s'.heap/\HOk P w H' s'.heap/\cC v u/\Q v H'
def CR (CX:CXT)(outer:List Env)(P:Program)(w:World)(H:Hp)(s:Shared)(Q:VK)(E:XK)(r:Result)(s':Shared):Prop:=
 match r with
 | .ok (.ret u)=>CE outer P w H s Q u s'
 | .ok _=>False
 | .error e=>CX outer H s E e s'
structure aL (P:Program) (w:World) (K:Frag) (mg:Str->Option Value) (base:Heap) (CX:CXT) (k:Nat) (f:Addr) (fd:FuncData) (ps:List Str) (sp:Sp):Prop where
 len:∀vs H Q E,sp vs H Q E->vs.length=ps.length
 run:∀(A:Around) (outer:List Env) (s:Shared) (H:Hp) (args:Args) (us:List Value) (vs:List V) (Q:VK) (E:XK),gQ k A->Cp P w K mg base A outer s H->BindsTo s fd args (ps.zip us)->bZ vs us->sp vs H Q E->
  codeAny (model P w) A (.call (.ref f) args) (CR CX outer P w H s Q E) s
theorem Cp.make {P:Program}{w:World}{K:Frag}{mg:Str->Option Value}{base:Heap}{A:Around}{outer:List Env}{s:Shared}{H:Hp}(e:Cp P w K mg base A outer s H)(C:Addr)(us:List Value)(kw:List (Str × Value)) :
  Cp P w K mg base (A.under (.builtin "type.__call__" ⟨.ref C :: us,kw⟩)) outer s H:=⟨by first | exact e.frames | (simpa[Around.under,Code.envs,Code.isFrame,pushEnvs] using e.frames),e.mod,e.bs,e.bsz,e.funs,e.frf,e.hok,e.bare⟩
section
variable {X:Cx} {pins:List (Addr × Obj)} {σ:St} {H:Hp} {s s':Shared}
theorem Inv.env0 (I:Inv X pins σ H s):Cp X.prog X.w X.K X.mg X.base X.A X.stack s H:=
 ⟨I.ok.frames,I.ok.mod,I.bs,Nat.le_trans I.ok.bsz I.sz,I.stack,I.stkFree,I.hok,I.bare⟩
theorem Inv.after {Q:VK}{u:Value}(I:Inv X pins σ H s)(h:CE X.stack X.prog X.w H s Q u s'):EP X pins σ Q u s':=by
 obtain⟨v,H',os,bare,un,hok,r,q⟩:=h;obtain⟨hh,g,d,t,os'⟩:=s';obtain rfl:os'=s.os:=os;exact⟨v,H',I.call (h':=hh) (g':=g) (d':=d) (t':=t) (ch:=[]) un hok bare (fun b z=>absurd z (by simp)),r,q⟩
end
def Zt (sp:Sp)(dvs:List V)(E:XK)(t:TA):TE:=fun σ H Q=>t σ H fun vs H1=>sp (vs++dvs) H1 Q E
def Ut (C:Addr)(m:Str)(sp:Sp)(dvs:List V)(E:XK)(ta:TE)(t:TA):TE:=fun σ H Q=>ta σ H fun x H1=>∃a dx fs,x=.ref a/\H1 a=some (.ins C dx fs)/\fs.lookup m=none/\
 t σ H1 fun vs H2=>sp (x :: (vs++dvs)) H2 Q E
def Zr (C:Addr)(sp:Sp)(dvs:List V)(E:XK)(t:TA):TE:=fun σ H Q=>t σ H fun vs H1=>∀x dx,H1 x=none->H1 dx=none->dx≠x->
 sp (.ref x :: (vs++dvs)) (upd (upd H1 dx (.own x)) x (.ins C dx [])) (fun v H2=>v=.non/\Q (.ref x) H2) E
def aM (K:Frag)(fd:FuncData)(ps:List Str)(ds:List Value):Prop:=
 ∀(s:Shared) (us:List Value),K.In s.heap->(us++ds).length=ps.length->BindsTo s fd ⟨us,[]⟩ (ps.zip (us++ds))
theorem aM.all {K:Frag}{fd:FuncData}{ps:List Str}(h:∀us:List Value,us.length=ps.length->bindArgs fd ⟨us,[]⟩=pure (ps.zip us)):aM K fd ps []:=fun s us _ hl=>by
 rw[append_nil] at hl ⊢;exact .of_eq (h us hl)
def jV (CX:CXT)(X:Cx)(E:XK):Prop:=∀(pins:List (Addr × Obj)) (σ:St) (H:Hp) (s:Shared) (e:Value) (s':Shared),Inv X pins σ H s->CX X.stack H s E e s'->X.xe e s'
section
variable {X:Cx} {CX:CXT} {k:Nat} {f C:Addr} {fd:FuncData} {ps:List Str} {sp:Sp} {dvs:List V} {ds:List Value} {E:XK} {x m:Str} {p pos apos:Pos} {e o:Expr} {es:List Expr} {ta:TE} {t:TA}
theorem tX {pins:List (Addr × Obj)}{σ:St}{H:Hp}{s:Shared}{Q:VK}{us:List Value}{vs:List V}(F:aL X.prog X.w X.K X.mg X.base CX k f fd ps sp)(hr:gQ k X.A)(hb:aM X.K fd ps ds)(hd:bZ dvs ds)(hx:jV CX X E)(I:Inv X pins σ H s)(r:bZ vs us)(h:sp (vs++dvs) H Q E):wpAny (model X.prog X.w) X.A (call (.ref f) us) (EP X pins σ Q) X.xe s:=by
 have r2:bZ (vs++dvs) (us++ds):=r.append hd;have hl:(us++ds).length=ps.length:=by rw[<- r2.length];exact F.len _ _ _ _ h
 refine wpAny_call (codeAny_mono (F.run X.A X.stack s H ⟨us,[]⟩ (us++ds) (vs++dvs) Q E hr I.env0 (hb s us I.kIn hl) r2 h) fun r s' hq=>?_)
 cases r with
 |error e=>exact hx pins σ H s e s' I hq
 |ok fl=>
  cases fl with
  |ret u=>exact I.after hq
  |next=>exact False.elim hq
  |brk=>exact False.elim hq
  |cont=>exact False.elim hq
theorem aH (F:aL X.prog X.w X.K X.mg X.base CX k f fd ps sp)(hr:gQ k X.A)(hg:Gl X x)(hm:X.mg x=some (.ref f))(hk:W.keepIn X.K (.ref f)=true)(hb:aM X.K fd ps ds)(hd:bZ dvs ds)(hx:jV CX X E)(ha:PA X (e :: es) t)(hdb:(x == ("__debug__":Str))=false:=by decide)(he:starEach (e :: es) X.env=(false,eval e X.env) :: starEach es X.env:=by rfl)(hpl:(backTo pos (starEach es X.env)).any (·.1)=false:=by rfl) :
  PE X (.Call (.Name x p) (e :: es) [] pos) (Zt sp dvs E t):=by
 intro pins s σ H Q I h;refine wpAny_Call_Name_kw (xV I hg hm ?_ hdb);refine W.callWith_K (h₀:=X.base) I.ok.mod.kin hk (thn (ha pos pins s σ H _ I h) fun us s1 ⟨vs,H1,I1,r,q⟩=>⟨I1.kIn,?_⟩) he hpl;exact tX F hr hb hd hx I1 r q
theorem Qh {pl:Sem Bool}(he:PE X o ta)(c:Cls X.K C)(hm:gL X.K C m f)(F:aL X.prog X.w X.K X.mg X.base CX k f fd ps sp)(hr:gQ k X.A)(hb:aM X.K fd ps ds)(hd:bZ dvs ds)(hx:jV CX X E)(ha:PA X (e :: es) t)(hst:starEach (e :: es) X.env=(false,eval e X.env) :: starEach es X.env:=by rfl)(hpl:(backTo pos (starEach es X.env)).any (·.1)=false:=by rfl)(ht:eval (.Call (.Attribute o m apos) (e :: es) [] pos) X.env=(do
   let ov <- eval o X.env
   standAt apos.atName
   let (f,first) <- holding [ov] (getMethod ov m pl)
   callWith pos f first (backTo pos (starEach (e :: es) X.env)) (backToKw pos (keywordEach [] X.env))):=by rfl) :
  PE X (.Call (.Attribute o m apos) (e :: es) [] pos) (Ut C m sp dvs E ta t):=by
 intro pins s σ H Q I h;refine W.methodCall_KW (pl:=pl) (thn (he pins s σ H _ I h) fun u s1 ⟨x,H1,I1,rx,a,dx,fs,ex,ea,l,q⟩=>?_) ht;subst ex;obtain rfl:u=Value.ref a:=rx;refine kD I1 ea c hm l ?_;refine W.callWith_K (first:=[.ref a]) (h₀:=X.base) I.ok.mod.kin hm.kp (thn (ha pos pins s1 σ H1 _ I1 q) fun us s2 ⟨vs,H2,I2,r,q2⟩=>⟨I2.kIn,?_⟩) hst hpl;exact tX (us:=.ref a :: us) (vs:=.ref a :: vs) F hr hb hd hx I2 (.cons rfl r) q2
theorem fX {pl:Sem Bool}(he:PE X o ta)(c:Cls X.K C)(hm:gL X.K C m f)(F:aL X.prog X.w X.K X.mg X.base CX k f fd ps sp)(hr:gQ k X.A)(hb:aM X.K fd ps ds)(hd:bZ dvs ds)(hx:jV CX X E)(ht:eval (.Call (.Attribute o m apos) [] [] pos) X.env=(do
   let ov <- eval o X.env
   standAt apos.atName
   let (f,first) <- holding [ov] (getMethod ov m pl)
   callWith pos f first (backTo pos (starEach [] X.env)) (backToKw pos (keywordEach [] X.env))):=by rfl) :
  PE X (.Call (.Attribute o m apos) [] [] pos) (Ut C m sp dvs E ta Vv):=by
 intro pins s σ H Q I h;refine W.methodCall_KW (pl:=pl) (thn (he pins s σ H _ I h) fun u s1 ⟨x,H1,I1,rx,a,dx,fs,ex,ea,l,q⟩=>?_) ht;subst ex;obtain rfl:u=Value.ref a:=rx;refine kD I1 ea c hm l ?_;exact W.callWith_K0 (first:=[.ref a]) I1.kIn hm.kp (tX (us:=[.ref a]) (vs:=[.ref a]) F hr hb hd hx I1 (.cons rfl .nil) q)
structure Mk (K:Frag) (C f:Addr):Prop where
 makes:W.makesIn K C=true
 init:W.findIn K (.ref C) "__init__"=some (some (.ref f))
 fn:W.isFn K (.ref f)=true
 kp:W.keepIn K (.ref C)=true
theorem Ny {pins:List (Addr × Obj)}{σ:St}{H:Hp}{s:Shared}{Q:VK}{us:List Value}{vs:List V}(M:Mk X.K C f)(F:aL X.prog X.w X.K X.mg X.base CX k f fd ps sp)(hr:gQ (k+1) X.A)(hb:aM X.K fd ps ds)(hd:bZ dvs ds)(hx:jV CX X E)(I:Inv X pins σ H s)(r:bZ vs us)(h:∀x dx,H x=none->H dx=none->dx≠x->sp (.ref x :: (vs++dvs)) (upd (upd H dx (.own x)) x (.ins C dx [])) (fun v H2=>v=.non/\Q (.ref x) H2) E) :
  wpAny (model X.prog X.w) X.A (call (.ref C) us) (EP X pins σ Q) X.xe s:=by
 have hq:=h (s.heap.objs.size+1) s.heap.objs.size (I.hok.fresh (Nat.le_succ _)) (I.hok.fresh (Nat.le_refl _)) (Nat.ne_of_lt (Nat.lt_succ_self _));have I2:=Inv.made (C:=C) I;have r2:bZ (V.ref (s.heap.objs.size+1) :: (vs++dvs)) (Value.ref (s.heap.objs.size+1) :: (us++ds)):=.cons rfl (r.append hd);have hl:(Value.ref (s.heap.objs.size+1) :: us++ds).length=ps.length:=by
  have e:=r2.length;rw[F.len _ _ _ _ hq] at e;exact e.symm
 refine wpAny_call (Jy (f:=f) I.kIn M.makes M.init (beq_iff_eq.mp M.fn) (codeAny_mono (F.run _ X.stack _ _ ⟨Value.ref (s.heap.objs.size+1) :: us,[]⟩ (Value.ref (s.heap.objs.size+1) :: (us++ds)) _ _ E (hr.make C us [])
  (I2.env0.make C us []) (hb _ (Value.ref (s.heap.objs.size+1) :: us) I2.kIn hl) r2 hq) fun r s' hq'=>?_))
 cases r with
 |error e=>exact hx pins σ _ _ e s' I2 hq'
 |ok fl=>
  cases fl with
  |ret u=>
   obtain⟨v,H',I3,rv,ev,q3⟩:=I2.after hq';subst ev;exact⟨rv,⟨V.ref (s.heap.objs.size+1),H',I3,rfl,q3⟩⟩
  |next=>exact False.elim hq'
  |brk=>exact False.elim hq'
  |cont=>exact False.elim hq'
theorem pF (M:Mk X.K C f)(F:aL X.prog X.w X.K X.mg X.base CX k f fd ps sp)(hr:gQ (k+1) X.A)(hg:Gl X x)(hm:X.mg x=some (.ref C))(hb:aM X.K fd ps ds)(hd:bZ dvs ds)(hx:jV CX X E)(ha:PA X (e :: es) t)(hdb:(x == ("__debug__":Str))=false:=by decide)(he:starEach (e :: es) X.env=(false,eval e X.env) :: starEach es X.env:=by rfl)(hpl:(backTo pos (starEach es X.env)).any (·.1)=false:=by rfl) :
  PE X (.Call (.Name x p) (e :: es) [] pos) (Zr C sp dvs E t):=by
 intro pins s σ H Q I h;refine wpAny_Call_Name_kw (xV I hg hm ?_ hdb);refine W.callWith_K (h₀:=X.base) I.ok.mod.kin M.kp (thn (ha pos pins s σ H _ I h) fun us s1 ⟨vs,H1,I1,r,q⟩=>⟨I1.kIn,?_⟩) he hpl;exact Ny M F hr hb hd hx I1 r q
end
structure aQ (N P:List Str) (sc:Scope):Prop where
 kind:sc.kind=.function
 co:sc.isCoroutine=false
 gen:sc.isGenerator=false
 nd:N.Nodup
 pre:N.take P.length=P
 par:∀x∈P,sc.names.lookup x=some .local\/sc.names.lookup x=some .cell
 nofree:∀y∈sc.names,y.2≠.free
theorem sK9 {N P:List Str}{sc:Scope}(a:sc.kind=.function)(b:sc.isCoroutine=false)(c:sc.isGenerator=false)(d:N.take P.length=P)(e:(decide N.Nodup&&decide (∀x∈P,sc.names.lookup x=some .local\/sc.names.lookup x=some .cell)&&decide (∀y∈sc.names,y.2≠.free))=true):aQ N P sc:=by
 rw[Bool.and_eq_true,Bool.and_eq_true] at e
 exact ⟨a,b,c,of_decide_eq_true e.1.1,d,of_decide_eq_true e.1.2,of_decide_eq_true e.2⟩
theorem zl9 (n:Nat)(h:n<=16:=by decide):n<=sizeLine:=Nat.le_trans h (by decide)
abbrev kI9 (K:Frag)(g:Addr):Prop:=W.keepIn K (.ref g)=true
abbrev mI9 (mg:Str->Option Value)(x:Str)(g:Addr):Prop:=mg x=some (.ref g)
theorem vZ {kindOf:Str->Option NameKind}{x:Str}:∀{binds:List (Str × Value)} {m:Str->Option Value},(∀v,(x,v)∉binds)->bindL kindOf binds m x=m x
 | [],_,_=>rfl
 | (n,v) :: r,m,h=>by
  unfold bindL;rw[vZ fun w hw=>h w (mem_cons_of_mem _ hw)];split
  ·have:x≠n:=by rintro rfl;exact h v mem_cons_self
   simp[this]
  ·rfl
theorem vP {kindOf:Str->Option NameKind}{x:Str}:∀{binds:List (Str × Value)} {m:Str->Option Value},(∀v,(x,v)∉binds)->bindC kindOf binds m x=m x
 | [],_,_=>rfl
 | (n,v) :: r,m,h=>by
  unfold bindC;rw[vP fun w hw=>h w (mem_cons_of_mem _ hw)];split
  ·rfl
  ·have:x≠n:=by rintro rfl;exact h v mem_cons_self
   simp[this]
theorem wR {kindOf:Str->Option NameKind}{x:Str}{v:Value}:∀{P:List Str} {vs:List Value} {i:Nat} {m:Str->Option Value},P.Nodup->P[i]?=some x->vs[i]?=some v->kindOf x=some .local->
  bindL kindOf (P.zip vs) m x=some v
 | [],_,_,_,_,h,_,_=>by simp at h
 |_ :: _,[],_,_,_,_,h,_=>by simp at h
 |p :: P,w :: vs,0,m,nd,h1,h2,hk=>by
  simp at h1 h2;subst h1;subst h2;show bindL kindOf ((p,w) :: P.zip vs) m p=_;unfold bindL;rw[vZ fun v hv=>(nodup_cons.mp nd).1 (of_mem_zip hv).1,if_pos hk];simp
 |p :: P,w :: vs,i+1,m,nd,h1,h2,hk=>by
  show bindL kindOf ((p,w) :: P.zip vs) m x=_;unfold bindL;exact wR (i:=i) (nodup_cons.mp nd).2 (by simpa using h1) (by simpa using h2) hk
theorem wO {kindOf:Str->Option NameKind}{x:Str}{v:Value}:∀{P:List Str} {vs:List Value} {i:Nat} {m:Str->Option Value},P.Nodup->P[i]?=some x->vs[i]?=some v->kindOf x≠some .local->
  bindC kindOf (P.zip vs) m x=some v
 | [],_,_,_,_,h,_,_=>by simp at h
 |_ :: _,[],_,_,_,_,h,_=>by simp at h
 |p :: P,w :: vs,0,m,nd,h1,h2,hk=>by
  simp at h1 h2;subst h1;subst h2;show bindC kindOf ((p,w) :: P.zip vs) m p=_;unfold bindC;rw[vP fun v hv=>(nodup_cons.mp nd).1 (of_mem_zip hv).1,if_neg hk];simp
 |p :: P,w :: vs,i+1,m,nd,h1,h2,hk=>by
  show bindC kindOf ((p,w) :: P.zip vs) m x=_;unfold bindC;exact wO (i:=i) (nodup_cons.mp nd).2 (by simpa using h1) (by simpa using h2) hk
def start (N:List Str)(vs:List V):St:=vs.map some++replicate (N.length - vs.length) none
def Cw (CX:CXT)(P:Program)(w:World)(K:Frag)(mg:Str->Option Value)(base:Heap)(N:List Str)(qual:Str)(scope:Scope)(f:Addr)(cd:Value)(A:Around)(outer:List Env)(s:Shared)(H:Hp)(E:XK):Cx where
 prog:=P
 w:=w
 K:=K
 mg:=mg
 base:=base
 A:=A.deeper (envOfC qual scope s.heap.objs.size f cd)
 N:=N
 s₀:=s
 H₀:=H
 env:=envOfC qual scope s.heap.objs.size f cd
 outer:=outer
 stack:=envOfC qual scope s.heap.objs.size f cd :: outer
 ex:=[]
 calm:=true
 fn:=fun _=>true
 pn:=[]
 xe:=fun e s'=>wpAny (model P w) (A.deeper (envOfC qual scope s.heap.objs.size f cd)) (leaving (envOfC qual scope s.heap.objs.size f cd) e) (fun _ s''=>CX outer H s E e s'') (fun e' s''=>CX outer H s E e' s'') s'
theorem zT {sc:Scope}{n:Nat}{x:Str}(h:sc.names.lookup x=some .cell):∃c,(cellsFrom n sc.names []).lookup x=some c:=by
 have q:=W.cellsFrom_some sc.names n [] (.inl h);exact Option.isSome_iff_exists.mp q
theorem Iq {CX:CXT}{P:Program}{w:World}{K:Frag}{mg:Str->Option Value}{base:Heap}{N ps:List Str}{qual:Str}{scope:Scope}{f:Addr}{cd:Value}{A:Around}{outer:List Env}{s s1:Shared}{H:Hp}{E:XK}{us:List Value}{vs:List V}(S:aQ N ps scope)(hd:A.handled=none)(e0:Cp P w K mg base A outer s H)(hl:vs.length=ps.length)(r:bZ vs us)(x:InCallC s s.heap.objs.size (bindL (envOfC qual scope s.heap.objs.size f cd).kindOf (ps.zip us) fun _=>none) (cellsFrom (s.heap.objs.size+1) scope.names []) (bindC (envOfC qual scope s.heap.objs.size f cd).kindOf (ps.zip us) fun _=>none) s1) :
  Inv (Cw CX P w K mg base N qual scope f cd A outer s H E) [] (start N vs) H s1:=by
 have hpl:ps.length<=N.length:=by have:=congrArg List.length S.pre;rw[length_take] at this;lia
 obtain⟨h1,tk,rfl,hk⟩:=x.done;have noA:∀b:Addr,b∉(Cw CX P w K mg base N qual scope f cd A outer s H E).ex:=fun b z=>absurd (show b∈([]:List Addr) from z) (by simp);refine⟨⟨e0.mod,S.kind,rfl,rfl,Nat.le_refl _,fun y z c h1 h2=>?_,fun y hy=>?_,fun y c _ h=>?_,fun _=>hd,Around.frames_deeper e0.frames,.inr ⟨rfl,rfl⟩,fun b z=>absurd z (noA b),e0.bs,e0.bsz,fun b _ _=>noA b,fun b z=>absurd z (noA b),e0.funs,e0.frf⟩,
  rfl,e0.bare,Un.kept hk,⟨_,x.toInCall.ns,fun i y v h1 h2 h3=>?_⟩,fun y c h=>⟨_,x.cell y c h⟩,e0.hok.fresh (Nat.le_refl _),fun y c h=>?_,fun p hp=>absurd (show p∈([]:List (Addr × Obj)) from hp) (by simp),e0.hok.kept hk,?_⟩
 ·exact name_of_addr x.apart (PySem.mem_of_lookup h1) (PySem.mem_of_lookup h2)
 ·have hy:scope.names.lookup y=some .cell\/scope.names.lookup y=some .free:=hy;rcases hy with hy | hy
  ·exact zT hy
  ·exact absurd rfl (S.nofree _ (PySem.mem_of_lookup hy))
 ·exact Nat.le_of_lt (x.above y c (PySem.mem_of_lookup h))
 ·have hi:i < vs.length:=by
   unfold start at h2
   by_cases hi:i < vs.length
   ·exact hi
   ·rw[getElem?_append_right (by simpa using hi)] at h2;rw[getElem?_replicate] at h2;split at h2<;>cases h2
  have ha:vs[i]?=some v:=by
   unfold start at h2;rw[getElem?_append_left (by simpa using hi),getElem?_map] at h2
   cases e:vs[i]? with
   |none=>rw[e] at h2;cases h2
   |some a=>rw[e] at h2;cases h2;rfl
  obtain⟨u,hu,rv⟩:=r.get ha;have hp:ps[i]?=some y:=by
   rw[<- S.pre,getElem?_take_of_lt (by lia)];exact h1
  have ndP:ps.Nodup:=by rw[<- S.pre];exact S.nd.sublist (take_sublist _ _)
  refine⟨u,rv,?_⟩;rcases S.par y (mem_of_getElem? hp) with k | k
  ·exact .inl ⟨k,wR ndP hp hu k⟩
  ·obtain⟨c,e⟩:=zT (n:=s.heap.objs.size+1) k;refine .inr ⟨.inl k,c,e,?_⟩;have q:=x.cell y c e;rw[wO ndP hp hu (by show scope.names.lookup y≠_;rw[k];decide)] at q;exact q
 ·exact e0.hok.fresh (Nat.le_of_lt (x.above y c (PySem.mem_of_lookup h)))
 ·unfold start;show _=N.length;rw[List.length_append,length_map,length_replicate];lia
theorem Zl {CX:CXT}{P:Program}{w:World}{K:Frag}{mg:Str->Option Value}{base:Heap}{k:Nat}{f:Addr}{name qual:Str}{params:Arguments}{body:List Stmt}{scope:Scope}{dV kV doc pm cdv ct oc:Value}{an od:Option Addr}{osl:Array (Option Value)}{N ps:List Str}{sp:Sp}(lk:K.lookup f=some ⟨oc,od,.func (W.fnOf name qual params body scope dV kV doc pm an cdv ct),osl⟩)(hcd:W.codeIn K cdv qual=true)(S:aQ N ps scope)(len:∀vs H Q E,sp vs H Q E->vs.length=ps.length)(hbody:∀(A:Around) (outer:List Env) (s:Shared) (H:Hp) (vs:List V) (Q:VK) (E:XK),gQ k (A.deeper (envOfC qual scope s.heap.objs.size f cdv))->sp vs H Q E->
   ∃t,PSs (Cw CX P w K mg base N qual scope f cdv A outer s H E) body t/\t { nx:=fun _ H'=>Q .non H',rt:=Q } (start N vs) H) :
  aL P w K mg base CX (k+1) f (W.fnOf name qual params body scope dV kV doc pm an cdv ct) ps sp:=by
 refine⟨len,fun A outer s H args us vs Q E hr e0 hb r hsp=>?_⟩;have hl:=len _ _ _ _ hsp;have KX:K.In s.heap:=e0.mod.kin.keeps fun b o e=>(e0.bs b o e).1;have lim:s.heap.NoLimit:=e0.mod.nolimit.keeps fun b o e=>(e0.bs b o e).1;have hkind:∀y∈ps.zip us,scope.names.lookup y.1=some .local\/(scope.names.lookup y.1=some .cell/\((cellsFrom (s.heap.objs.size+1) scope.names []).lookup y.1).isSome=true):=fun ⟨n,v⟩ hy=>by
  rcases S.par n (of_mem_zip hy).1 with q | q
  ·exact .inl q
  ·exact .inr ⟨q,W.cellsFrom_some _ _ _ (.inl q)⟩
 refine codeAny_call_function hr.depth (KX _ _ lk) rfl S.co S.gen rfl (W.codeRec_of KX hcd) (hb _ _ _ _ ?_);refine wpAny_newFunctionEnv_cells S.kind hkind fun env he s1 x=>?_;subst he;refine⟨lim.keeps x.toInCall.keep,codeAny_func ?_⟩;obtain⟨t,ht,hq⟩:=hbody A outer s H vs Q E (hr.deeper _) hsp;have I:Inv (Cw CX P w K mg base N qual scope f cdv A outer s H E) [] (start N vs) H s1:=Iq S hr.hd e0 hl r x;refine wpAny_mono (ht [] s1 (start N vs) H _ I hq) (fun fl s' hs=>?_) fun e s' hs=>hs;have fin:∀{σ':St} {H':Hp} {v:V} {u:Value},Inv (Cw CX P w K mg base N qual scope f cdv A outer s H E) [] σ' H' s'->cC v u->Q v H'->CE outer P w H s Q u s':=
  fun {σ' H' v u} J rv q=>⟨v,H',J.os,J.bare,J.base,J.hok,rv,q⟩
 cases fl with
 |ret u=>
  obtain⟨v,σ',H',J,rv,q⟩:=hs;exact fin J rv q
 |next=>
  obtain⟨σ',H',J,q⟩:=hs;exact fin (v:=V.non) (u:=Value.none) J rfl q
 |brk=>
  obtain⟨_,_,_,q⟩:=hs;exact False.elim q
 |cont=>
  obtain⟨_,_,_,q⟩:=hs;exact False.elim q
section
variable {X:Cx} {x:Str} {p pos:Pos} {e:Expr} {es:List Expr} {t:TA} {id T:String} {r:List V->Hp->VK->Prop}
def tCB (r:List V->Hp->VK->Prop)(t:TA):TE:=fun σ H Q=>t σ H fun vs H1=>r vs H1 Q
theorem bN (hc:sS X (.builtin id) r)(hg:Gl X x)(hm:X.mg x=none)(hv:bootBuiltins x=some (.builtin id))(ha:PA X (e :: es) t)(hn:x≠"__name__":=by decide)(hdb:(x == ("__debug__":Str))=false:=by decide)(he:starEach (e :: es) X.env=(false,eval e X.env) :: starEach es X.env:=by rfl)(hpl:(backTo pos (starEach es X.env)).any (·.1)=false:=by rfl):PE X (.Call (.Name x p) (e :: es) [] pos) (tCB r t):=by
 intro pins s σ H Q I h;refine wpAny_Call_Name_kw (kJ I hg hm hv ?_ hn hdb);exact PyProof.Rows.callWith_builtin1 (thn (ha pos pins s σ H _ I h) fun us s1 ⟨vs,H1,I1,r1,q1⟩=>hc pins s1 σ H1 vs us Q I1 r1 q1) he hpl
theorem gX (hc:sS X (.type T) r)(hg:Gl X x)(hm:X.mg x=none)(hv:bootBuiltins x=some (.type T))(ha:PA X (e :: es) t)(hn:x≠"__name__":=by decide)(hdb:(x == ("__debug__":Str))=false:=by decide)(he:starEach (e :: es) X.env=(false,eval e X.env) :: starEach es X.env:=by rfl)(hpl:(backTo pos (starEach es X.env)).any (·.1)=false:=by rfl):PE X (.Call (.Name x p) (e :: es) [] pos) (tCB r t):=by
 intro pins s σ H Q I h;refine wpAny_Call_Name_kw (kJ I hg hm hv ?_ hn hdb);exact PyProof.Rows.callWith_type1 (thn (ha pos pins s σ H _ I h) fun us s1 ⟨vs,H1,I1,r1,q1⟩=>hc pins s1 σ H1 vs us Q I1 r1 q1) he hpl
end
end L2
namespace HT
open PySem PyProof.Rows
section
variable {prog:Program} {w:World} {A:Around} {E:Value->Shared->Prop} {s:Shared}
def sIx (n d:Nat):Option Int->Nat
 |none=>d
 |some v=>if v < 0 then (v+(n:Int)).toNat else min v.toNat n
end
end HT
namespace L2
open PySem PySem.Spec PyProof.Rows
abbrev TO:=St->Hp->(Option Int->Hp->Prop)->Prop
def PO (X:Cx)(e:Option Expr)(t:TO):Prop:=
 ∀(pins:List (Addr × Obj)) (s:Shared) (σ:St) (H:Hp) (Q:Option Int->Hp->Prop),Inv X pins σ H s->t σ H Q->
  wpAny (model X.prog X.w) X.A (evalPart e X.env) (fun u s'=>∃o H',Inv X pins σ H' s'/\IsPart u o/\Q o H') X.xe s
def Rl:TO:=fun _ H Q=>Q none H
def Zn (t:TE):TO:=fun σ H Q=>t σ H fun x H1=>∃i,x=.int i/\Q (some i) H1
section
variable {X:Cx} {e:Expr} {te:TE} {lo hi:Option Expr} {tl th:TO} {pos p2:Pos}
theorem oX:PO X none Rl:=by
 intro pins s σ H Q I h;rw[evalPart_none];exact wpAny_pure ⟨none,H,I,.none,h⟩
theorem iL (h:PE X e te):PO X (some e) (Zn te):=by
 intro pins s σ H Q I hw;rw[evalPart_some];refine thn (h pins s σ H _ I hw) fun u s1 ⟨x,H1,I1,r1,q1⟩=>?_;obtain⟨i,rfl,q⟩:=q1;obtain⟨t,rfl⟩:=r1;exact⟨some i,H1,I1,.int i t,q⟩
def SlR (X:Cx)(r:V->Option Int->Option Int->Hp->VK->Prop):Prop:=
 ∀(pins:List (Addr × Obj)) (s:Shared) (σ:St) (H:Hp) (x:V) (v vl vu:Value) (lo hi:Option Int) (sl:Addr) (Q:VK),Inv X pins σ H s->cC x v->s.heap.IsSliceOf sl vl vu .none->IsPart vl lo->IsPart vu hi->r x lo hi H Q->
  ∃T id,typeLookup (.type T) "__getitem__"=pure (some (.builtin id))/\s.TypeIs v T/\wpAny (model X.prog X.w) X.A (getItem v (.ref sl)) (EP X pins σ Q) X.xe s
def tSl (r:V->Option Int->Option Int->Hp->VK->Prop)(te:TE)(tl th:TO):TE:=fun σ H Q=>te σ H fun x H1=>tl σ H1 fun l H2=>th σ H2 fun u H3=>r x l u H3 Q
theorem iY {r:V->Option Int->Option Int->Hp->VK->Prop}(hr:SlR X r)(he:PE X e te)(hl:PO X lo tl)(hu:PO X hi th):PE X (.Subscript e (.Slice lo hi none p2) pos) (tSl r te tl th):=by
 intro pins s σ H Q I h;refine Subscript_ (thn (he pins s σ H _ I h) fun v s1 ⟨x,H1,I1,r1,q1⟩=>?_);refine wpAny_Slice (thn (hl pins s1 σ H1 _ I1 q1) fun vl s2 ⟨l,H2,I2,pl,q2⟩=>thn (hu pins s2 σ H2 _ I2 q2) fun vu s3 ⟨u,H3,I3,pu,q3⟩=>?_);rw[evalPart_none];refine wpAny_pure ?_;have I4:Inv X pins σ H3 { s3 with heap:=s3.heap.push { cls:=.type "slice",data:=.fields #[vl,vu,.none] } }:=I3.kept (t':=s3.toks) fun b ob q=>Heap.get?_push_of_some _ q;obtain⟨T,id,hT,ht,hg⟩:=hr pins { s3 with heap:=s3.heap.push { cls:=.type "slice",data:=.fields #[vl,vu,.none] } } σ H3 x v vl vu l u s3.heap.objs.size Q I4 r1 (Heap.IsSliceOf.new ..) pl pu q3;show wpAny (model X.prog X.w) X.A (subscriptTail e (.Slice lo hi none p2) v (.ref s3.heap.objs.size)) (EP X pins σ Q) X.xe { s3 with heap:=s3.heap.push { cls:=.type "slice",data:=.fields #[vl,vu,.none] } };exact tail_any (ops:=[.ref s3.heap.objs.size,v]) ht hT hg (by with_unfolding_all rfl)
def kO (xs:List V)(lo hi:Option Int):List V:=(xs.drop (HT.sIx xs.length 0 lo)).take (HT.sIx xs.length xs.length hi - HT.sIx xs.length 0 lo)
theorem zX (xs:List V)(lo hi:Option Int):(kO xs lo hi).length<=xs.length:=by
 unfold kO;exact Nat.le_trans (length_take_le' _ _) (by rw[length_drop];exact Nat.sub_le _ _)
end
def ixN (n:Nat)(i:Int):Option Nat:=if 0<=i then (if i < n then some i.toNat else none) else if -(n:Int)<=i then some (i+n).toNat else none
def atI {α:Type}(xs:List α)(i:Int):Option α:=(ixN xs.length i).bind fun j=>xs[j]?
theorem Gu {n:Nat}{i:Int}{j:Nat}(h:ixN n i=some j):seqIndex? i n=some j/\j < n/\-(n:Int)<=i/\i < n:=by
 unfold ixN at h
 by_cases h0:0<=i
 ·rw[if_pos h0] at h
  by_cases h1:i < n
  ·rw[if_pos h1] at h;have e:i.toNat=j:=Option.some.inj h;exact⟨by rw[seqIndex_of h0 h1,e],by lia,by lia,h1⟩
  ·rw[if_neg h1] at h;cases h
 ·rw[if_neg h0] at h
  by_cases h1:-(n:Int)<=i
  ·rw[if_pos h1] at h;have e:(i+n).toNat=j:=Option.some.inj h;exact⟨by rw[seqIndex_neg (by lia) h1,e],by lia,h1,by lia⟩
  ·rw[if_neg h1] at h;cases h
theorem Ha {α:Type}{xs:List α}{i:Int}{v:α}(h:atI xs i=some v):∃j,seqIndex? i xs.length=some j/\xs[j]?=some v/\j < xs.length/\-(xs.length:Int)<=i/\i < xs.length:=by
 unfold atI at h
 cases e:ixN xs.length i with
 |none=>rw[e] at h;cases h
 |some j=>
  rw[e] at h;obtain⟨h1,h2,h3,h4⟩:=Gu e;exact⟨j,h1,h,h2,h3,h4⟩
theorem bU {α:Type}{xs:List α}{j:Nat}{v:α}(h:xs[j]?=some v):atI xs (j:Int)=some v:=by
 have hj:j < xs.length:=(List.getElem?_eq_some_iff.mp h).1;have e:ixN xs.length (j:Int)=some j:=by
  unfold ixN;rw[if_pos (by lia),if_pos (by lia)];simp
 unfold atI;rw[e];exact h
def Qy (b:Expr):Prop:=∀o i,subscripted b false o i=operate [o,i] (getItem o i)
def IxR (X:Cx)(r:R2):Prop:=
 ∀(value slice:Expr) (pins:List (Addr × Obj)) (s:Shared) (σ:St) (H:Hp) (x y:V) (v u:Value) (Q:VK),Inv X pins σ H s->cC x v->cC y u->r x y H Q->
  subscripted slice false v u=operate [v,u] (getItem v u)->wpAny (model X.prog X.w) X.A (subscriptTail value slice v u) (EP X pins σ Q) X.xe s
def MtR (X:Cx)(id:String)(r:V->List V->Hp->VK->Prop):Prop:=
 ∀(pins:List (Addr × Obj)) (s:Shared) (σ:St) (H:Hp) (x:V) (xs:List V) (v:Value) (us:List Value) (Q:VK),Inv X pins σ H s->cC x v->bZ xs us->r x xs H Q->
  wpAny (model X.prog X.w) X.A (call (.builtin id) (v :: us)) (EP X pins σ Q) X.xe s
section
variable {X:Cx} {a b:Expr} {ta tb:TE} {pos:Pos}
theorem aS {r:R2}(hr:IxR X r)(ha:PE X a ta)(hb:PE X b tb)(hs:Qy b):PE X (.Subscript a b pos) (tOp r ta tb):=by
 intro pins s σ H Q I h;exact Subscript_ (Ws ha hb I h fun v u s2 x y H2 I2 rx ry q=>hr a b pins s2 σ H2 x y v u Q I2 rx ry q (hs _ _))
def Zb (K:Frag):R2:=fun x y H Q=>∃p xs i v,x=.ref p/\y=.int i/\SqL K H p xs/\atI xs i=some v/\Q v H
def Qz (K:Frag):R2:=fun x y H Q=>∃p xs i v,x=.ref p/\y=.int i/\SqT K H p xs/\atI xs i=some v/\Q v H
theorem bQ:IxR X (Zb X.K):=by
 intro value slice pins s σ H x y v u Q I rx ry h hs;obtain⟨p,xs,i,z,rfl,rfl,hq,he,q⟩:=h
 cases rx
 obtain⟨t,rfl⟩:=ry;obtain⟨its,r,pl,hz⟩:=I.list hq;obtain⟨j,h1,h2,h3,h4,h5⟩:=Ha he;obtain⟨w,ew,rw'⟩:=r.get h2;have hl:=r.length;have hn:=xG;have fin:EP X pins σ Q w s:=⟨z,H,I,rw',q⟩
 by_cases h0:0<=i
 ·have hj:i.toNat=j:=by
   rw[seqIndex_of h0 h5] at h1;exact Option.some.inj h1
  exact item_listR pl.isList h0 (by lia) (by rw[hj];simpa using ew) fin hs
 ·have hj:(i+(its.toArray.size:Int)).toNat=j:=by
   rw[seqIndex_neg (by lia) h4] at h1;rw[size_toArray,<- hl];exact Option.some.inj h1
  exact subscriptTail_builtinR (x:=w) pl.isList.typeIs slot_list_getitem.lookup
   (wpAny_getItem_list_neg (Q:=fun r s'=>r=w/\EP X pins σ Q r s') pl.isList (by lia) (by rw[size_toArray]<;>lia) (by lia) (by rw[hj];simpa using ew) ⟨rfl,fin⟩) hs
theorem aW:IxR X (Qz X.K):=by
 intro value slice pins s σ H x y v u Q I rx ry h hs;obtain⟨p,xs,i,z,rfl,rfl,hq,he,q⟩:=h
 cases rx
 obtain⟨t,rfl⟩:=ry;obtain⟨its,r,pl,hz⟩:=I.tuple hq;obtain⟨j,h1,h2,h3,h4,h5⟩:=Ha he;obtain⟨w,ew,rw'⟩:=r.get h2;have hl:=r.length;have hn:=xG;have fin:EP X pins σ Q w s:=⟨z,H,I,rw',q⟩
 exact subscriptTail_builtinR (x:=w) pl.typeIs slot_tuple_getitem.lookup
  (getItem_tuple (j:=j) (Q:=fun r s'=>r=w/\EP X pins σ Q r s') pl (by lia) (by lia) (by rw[size_toArray,<- hl];exact h1) (by simpa using ew) ⟨rfl,fin⟩) hs
theorem Dp (its:List Value)(n j:Nat)(u:Value):Obj.mapSeq (·.setIfInBounds j u) { cls:=.type "list",data:=.seq its.toArray n }={ cls:=.type "list",data:=.seq (its.set j u).toArray n }:=by
 simp[Obj.mapSeq]
theorem Inv.lst {pins:List (Addr × Obj)}{σ:St}{H:Hp}{s:Shared}{p:Addr}{xs:List V}(I:Inv X pins σ H s)(h:H p=some (.lst xs)) :
  ∃(its:List Value) (n:Nat),bZ xs its/\s.heap.get? p=some { cls:=.type "list",data:=.seq its.toArray n }/\xs.length<=sizeLine:=by
 obtain⟨z,its,n,r,e⟩:=I.hok p _ h;exact⟨its,n,r,e,z⟩
theorem Inv.lstUpd {pins:List (Addr × Obj)}{σ:St}{H:Hp}{s:Shared}{p:Addr}{xs ys:List V}{its its':List Value}{n n':Nat}{f:Obj->Obj}(I:Inv X pins σ H s)(h:H p=some (.lst xs))(ho:s.heap.get? p=some { cls:=.type "list",data:=.seq its.toArray n })(hf:f { cls:=.type "list",data:=.seq its.toArray n }={ cls:=.type "list",data:=.seq its'.toArray n' })(r:bZ ys its')(hz:ys.length<=sizeLine)(t:Nat) :
  Inv X pins σ (upd H p (.lst ys)) { s with heap:=s.heap.update p f,toks:=t }:=by
 have e:(s.heap.update p f).get? p=some { cls:=.type "list",data:=.seq its'.toArray n' }:=by
  rw[Heap.get?_update_self f ho (by rw[hf]<;>rfl),hf]
 refine I.write (x:=p) (e:=p) (by rw[h];trivial) (.inl rfl) (fun b u hb q=>(Heap.get?_update_other _ _ (Ne.symm hb)).trans q) ⟨_,e⟩ ?_;exact⟨hz,its',n',r,e⟩
def Ze:V->V->V->Hp->(Hp->Prop)->Prop:=fun o i v H Q=>∃p xs k j,o=.ref p/\i=.int k/\H p=some (.lst xs)/\ixN xs.length k=some j/\Q (upd H p (.lst (xs.set j v)))
theorem gB:Yl X Ze:=by
 intro pins s σ H o i v ov iv u Q I ro ri rv h;obtain⟨p,xs,k,j,rfl,rfl,hp,hj,q⟩:=h
 cases ro
 obtain⟨t,rfl⟩:=ri;obtain⟨its,n,r,ho,hz⟩:=I.lst hp;obtain⟨h1,h2,h3,h4⟩:=Gu hj;have hl:=r.length;have hn:=xG;have I':Inv X pins σ (upd H p (.lst (xs.set j v))) { s with heap:=s.heap.update p (Obj.mapSeq (·.setIfInBounds j u)) }:=
  I.lstUpd hp ho (Dp its n j u) (r.set rv j) (by rw[length_set];exact hz) s.toks
 by_cases h0:0<=k
 ·have hk:k.toNat=j:=by
   rw[seqIndex_of h0 h4] at h1;exact Option.some.inj h1
  exact W.ki_setAt ho h0 (by lia) (by rw[size_toArray,<- hl];exact h4) (by rw[hk];exact⟨_,I',q⟩)
 ·have hk:(k+(its.toArray.size:Int)).toNat=j:=by
   rw[seqIndex_neg (by lia) h3] at h1;rw[size_toArray,<- hl];exact Option.some.inj h1
  exact W.ki_setBack ho (by lia) (by rw[size_toArray,<- hl];exact h3) (by lia) (by rw[hk];exact⟨_,I',q⟩)
theorem sbA (lo hi:Option Int)(n:Nat):(sliceBounds lo hi none n).1=((HT.sIx n 0 lo:Nat):Int):=by
 cases lo with
 |none=>simp[sliceBounds,HT.sIx]
 |some i=>
  simp only[sliceBounds,HT.sIx,Option.getD_none,show (1:Int) > 0 by decide,if_true]
  by_cases h:i < 0
  ·simp only[h,if_true]<;>lia
  ·simp only[h,if_false]<;>lia
theorem yD (lo hi:Option Int)(n:Nat):(sliceBounds lo hi none n).1=((HT.sIx n 0 lo:Nat):Int)/\(sliceBounds lo hi none n).2.1=((HT.sIx n n hi:Nat):Int)/\(sliceBounds lo hi none n).2.2=1:=by
 refine⟨sbA lo hi n,?_,rfl⟩
 cases hi with
 |none=>simp[sliceBounds,HT.sIx]
 |some i=>exact sbA (some i) lo n
theorem uS (its:List Value)(lo hi:Option Int):slicePick its.toArray lo hi none=((its.drop (HT.sIx its.length 0 lo)).take (HT.sIx its.length its.length hi - HT.sIx its.length 0 lo)).toArray:=by
 obtain⟨h1,h2,h3⟩:=yD lo hi its.toArray.size;unfold slicePick;rw[h1,h2,h3];simp only[sliceRange_one,pick_run,size_toArray]<;>rfl
def Zi (K:Frag):V->Option Int->Option Int->Hp->VK->Prop:=fun x lo hi H Q=>∃a xs,x=.ref a/\SqL K H a xs/\∀p,H p=none->Q (.ref p) (upd H p (.lst (kO xs lo hi)))
theorem kG:SlR X (Zi X.K):=by
 intro pins s σ H x v vl vu lo hi sl Q I rx hs pl pu h;obtain⟨a,xs,rfl,hx,q⟩:=h
 cases rx
 obtain⟨its,r,ht,hz⟩:=I.list hx;have hlen:=r.length;refine⟨"list",_,slot_list_getitem.lookup,ht.isList.typeIs,?_⟩;refine wpAny_getItem_list_slice ht.isList hs pl pu .none (by simp) ?_ (by rw[size_toArray]<;>lia);rw[uS,<- hlen];refine⟨.ref s.heap.objs.size,_,I.laid (t':=s.toks) (o:=.lst (kO xs lo hi)) (fun b ob q=>Heap.get?_push_of_some _ q) (Nat.le_refl _) ?_,rfl,q _ (I.hok.fresh (Nat.le_refl _))⟩;exact⟨Nat.le_trans (zX xs lo hi) hz,_,0,(r.drop (HT.sIx xs.length 0 lo)).take (HT.sIx xs.length xs.length hi - HT.sIx xs.length 0 lo),Heap.get?_push_size _ rfl⟩
def nA:V->Bool
 | .non=>true
 | .bl _=>true
 | .int _=>true
 | .str _=>true
 |_=>false
def eqV:V->V->Bool
 | .non,.non=>true
 | .bl a,.bl b=>a == b
 | .bl a,.int b=>(if a then 1 else 0) == b
 | .int a,.bl b=>a == (if b then 1 else 0)
 | .int a,.int b=>a == b
 | .str a,.str b=>a == b
 |_,_=>false
theorem Vf {A:Around}{s:Shared}{y x:V}{u v:Value}(ry:cC y u)(rx:cC x v)(fy:nA y=true)(fx:nA x=true):SeqAt.EqAt A s u v (eqV y x):=by
 cases y with
 |non=>
  cases ry
  cases x with
  |non=>cases rx;exact SeqAt.EqAt.same _
  |bl b=>cases rx;exact SeqAt.EqAt.none_bool b
  |int b=>obtain⟨t,rfl⟩:=rx;exact SeqAt.EqAt.none_int b t
  |str b=>obtain⟨t,rfl⟩:=rx;exact SeqAt.EqAt.none_str b t
  |_=>exact absurd (show false=true from fx) Bool.false_ne_true
 |bl a=>
  cases ry
  cases x with
  |non=>cases rx;exact SeqAt.EqAt.bool_none a
  |bl b=>cases rx;exact SeqAt.EqAt.bool_bool a b
  |int b=>obtain⟨t,rfl⟩:=rx;exact SeqAt.EqAt.bool_int a b t
  |str b=>obtain⟨t,rfl⟩:=rx;exact SeqAt.EqAt.bool_str a b t
  |_=>exact absurd (show false=true from fx) Bool.false_ne_true
 |int a=>
  obtain⟨t',rfl⟩:=ry
  cases x with
  |non=>cases rx;exact SeqAt.EqAt.int_none a t'
  |bl b=>cases rx;exact SeqAt.EqAt.int_bool a t' b
  |int b=>obtain⟨t,rfl⟩:=rx;exact SeqAt.EqAt.int_int a t' b t
  |str b=>obtain⟨t,rfl⟩:=rx;exact SeqAt.EqAt.int_str a t' b t
  |_=>exact absurd (show false=true from fx) Bool.false_ne_true
 |str a=>
  obtain⟨t',rfl⟩:=ry
  cases x with
  |non=>cases rx;exact SeqAt.EqAt.str_none a t'
  |bl b=>cases rx;exact SeqAt.EqAt.str_bool a t' b
  |int b=>obtain⟨t,rfl⟩:=rx;exact SeqAt.EqAt.str_int a t' b t
  |str b=>obtain⟨t,rfl⟩:=rx;exact SeqAt.EqAt.str_str a t' b t
  |_=>exact absurd (show false=true from fx) Bool.false_ne_true
 |_=>exact absurd (show false=true from fy) Bool.false_ne_true
def eqU (x:V)(u:Value):Bool:=match u with
 | .none=>eqV .non x
 | .bool b=>eqV (.bl b) x
 | .int i _=>eqV (.int i) x
 | .str z _=>eqV (.str z) x
 |_=>false
theorem Pf {x y:V}{u:Value}(r:cC y u)(f:nA y=true):eqU x u=eqV y x:=by
 cases y with
 |non=>cases r;rfl
 |bl b=>cases r;rfl
 |int i=>obtain⟨t,rfl⟩:=r;rfl
 |str z=>obtain⟨t,rfl⟩:=r;rfl
 |_=>exact absurd (show false=true from f) Bool.false_ne_true
theorem yU {x:V}:∀{xs:List V} {us:List Value},bZ xs us->xs.all nA=true->us.any (eqU x)=xs.any fun y=>eqV y x
 |_,_,.nil,_=>rfl
 |y :: xs,u :: us,.cons r t,f=>by
  rw[all_cons,Bool.and_eq_true] at f;rw[any_cons,any_cons,Pf r f.1,yU t f.2]
theorem sK {A:Around}{s:Shared}{x:V}{v:Value}(rx:cC x v)(fx:nA x=true):∀{xs:List V} {us:List Value},bZ xs us->xs.all nA=true->∀u∈us,SeqAt.EqAt A s u v (eqU x u)
 |_,_,.nil,_=>fun u hu=>by cases hu
 |y :: xs,u :: us,.cons r t,f=>fun u' hu=>by
  rw[all_cons,Bool.and_eq_true] at f;rcases mem_cons.mp hu with rfl | hu
  ·rw[Pf r f.1];exact Vf r rx f.1 fx
  ·exact sK rx fx t f.2 u' hu
def inV (x:V)(xs:List V):Bool:=xs.any fun y=>eqV y x
def rIn (K:Frag)(neg:Bool):R2:=fun x y H Q=>∃p xs,y=.ref p/\(SqL K H p xs\/SqT K H p xs)/\nA x=true/\xs.all nA=true/\Q (.bl (if neg then !inV x xs else inV x xs)) H
theorem Hl:OpR X (compareOp .In) (rIn X.K false):=by
 intro pins s σ H x y v u Q I rx ry h;obtain⟨p,xs,rfl,hq,fx,fs,q⟩:=h
 cases ry
 rcases hq with hq | hq
 ·obtain⟨its,r,pl,hz⟩:=I.list hq;refine SeqAt.in_listAt (eqU x) pl.isList (fun w hw=>sK rx fx r fs w (by simpa using hw)) ⟨.bl _,H,I,rfl,?_⟩;rw[show its.toArray.any (eqU x)=its.any (eqU x) by simp,yU r fs];exact q
 ·obtain⟨its,r,pl,hz⟩:=I.tuple hq;refine SeqAt.in_tupleAt (eqU x) pl (fun w hw=>sK rx fx r fs w (by simpa using hw)) ⟨.bl _,H,I,rfl,?_⟩;rw[show its.toArray.any (eqU x)=its.any (eqU x) by simp,yU r fs];exact q
theorem bC:sS X (.builtin "len") (fun xs H Q=>∃p ys,xs=[.ref p]/\(SqL X.K H p ys\/SqT X.K H p ys)/\Q (.int ys.length) H):=by
 intro pins s σ H xs us Q I r h;obtain⟨p,ys,rfl,hq,q⟩:=h;obtain⟨u,rfl,rx⟩:=Ai r
 cases rx
 have hn:=xG;rcases hq with hq | hq
 ·obtain⟨its,r',pl,hz⟩:=I.list hq;have hlen:=r'.length;exact Calls.call_len_list pl.isList (by simp only[size_toArray]<;>lia) ⟨.int ys.length,H,I.tok _,⟨s.toks+1,by rw[size_toArray,hlen]⟩,q⟩
 ·obtain⟨its,r',pl,hz⟩:=I.tuple hq;have hlen:=r'.length;exact len_tuple pl (by simp only[size_toArray]<;>lia) ⟨.int ys.length,H,I.tok _,⟨s.toks+1,by rw[size_toArray,hlen]⟩,q⟩
theorem fB:sS X (.type "list") (fun xs H Q=>∃p ys,xs=[.ref p]/\(SqL X.K H p ys\/SqT X.K H p ys)/\∀l,H l=none->Q (.ref l) (upd H l (.lst ys))):=by
 intro pins s σ H xs us Q I r h;obtain⟨p,ys,rfl,hq,q⟩:=h;obtain⟨u,rfl,rx⟩:=Ai r
 cases rx
 have fin:∀(its:List Value),bZ ys its->ys.length<=sizeLine->∀(h':Heap) (c':Nat),(∀b o',s.heap.get? b=some o'->h'.get? b=some o')->
   h'.get? s.heap.objs.size=some { cls:=.type "list",dict:=none,data:=.seq its.toArray c',slots:=#[] }->EP X pins σ Q (.ref s.heap.objs.size) { s with heap:=h' }:=fun its r' hz h' c' kp e=>
  ⟨.ref s.heap.objs.size,_,I.laid (t':=s.toks) kp (Nat.le_refl _) (show eI X.prog X.w _ h' _ (.lst ys) from ⟨hz,its,c',r',e⟩),rfl,q _ (I.hok.fresh (Nat.le_refl _))⟩
 rcases hq with hq | hq
 ·obtain⟨its,r',pl,hz⟩:=I.list hq;have hlen:=r'.length;obtain⟨o,ho,hc,n,hd⟩:=pl.isList;exact call_list_seq p (.inl rfl) ho hc hd (fun h' c' kp e=>fin its r' hz h' c' kp e) (by simp only[size_toArray]<;>lia)
 ·obtain⟨its,r',pl,hz⟩:=I.tuple hq;have hlen:=r'.length;obtain⟨o,ho,hc,n,hd⟩:=pl;exact call_list_seq p (.inr rfl) ho hc hd (fun h' c' kp e=>fin its r' hz h' c' kp e) (by simp only[size_toArray]<;>lia)
def tyV (K:Frag)(T:String)(x:V)(H:Hp):Prop:=match x with
 | .str _=>T = "str"
 | .int _=>T = "int"
 | .ref p=>(T = "list"/\∃xs,SqL K H p xs)\/(T = "tuple"/\∃o,K.lookup p=some o/\o.cls=.type "tuple"/\o.dict=none)\/
   (T = "dict"/\((∃kvs,H p=some (.dK kvs))\/∃kvs,H p=some (.dT kvs)))\/(T = "set"/\∃S n,H p=some (.set S n))
 |_=>False
theorem Nq {pins:List (Addr × Obj)}{σ:St}{H:Hp}{s:Shared}{T:String}{x:V}{v:Value}(I:Inv X pins σ H s)(r:cC x v)(ty:tyV X.K T x H) :
  s.TypeIs v T/\∀a,v=.ref a->∃ob,s.heap.get? a=some ob/\ob.dict=none:=by
 cases x with
 |str z=>
  obtain⟨t,rfl⟩:=r
  cases (show T = "str" from ty)
  exact⟨typeIs_str s z t,fun _ e=>nomatch e⟩
 |int i=>
  obtain⟨t,rfl⟩:=r
  cases (show T = "int" from ty)
  exact⟨typeIs_int s i t,fun _ e=>nomatch e⟩
 |ref p=>
  cases r
  rcases ty with ⟨rfl,xs,hq⟩ | ⟨rfl,o,hk,hc,hd⟩ | ⟨rfl,hk⟩ | ⟨rfl,S,n,hk⟩
  ·obtain⟨its,_,pl,_⟩:=I.list hq;refine⟨pl.isList.typeIs,fun a e=>?_⟩
   cases e
   obtain⟨o,n,e,c,hd,_⟩:=pl;exact⟨o,e,hd⟩
  ·refine⟨⟨o,I.kIn p o hk,hc⟩,fun a e=>?_⟩
   cases e
   exact⟨o,I.kIn _ o hk,hd⟩
  ·have z:∃o,s.heap.get? p=some o/\o.ExactDict:=by
    rcases hk with ⟨kvs,hk⟩ | ⟨kvs,hk⟩
    ·obtain⟨_,_,_,_,o,_,_,e,ex,_⟩:=I.hok p _ hk;exact⟨o,e,ex⟩
    ·obtain⟨_,_,_,_,o,_,_,e,ex,_⟩:=I.hok p _ hk;exact⟨o,e,ex⟩
   obtain⟨o,e,ex⟩:=z;refine⟨⟨o,e,ex.1⟩,fun a e2=>?_⟩
   cases e2
   exact⟨o,e,ex.2.1⟩
  ·obtain⟨o,_,_,_,e,ex,_⟩:=I.hok p _ hk;refine⟨⟨o,e,ex.1⟩,fun a e2=>?_⟩
   cases e2
   exact⟨o,e,ex.2.1⟩
 |_=>exact False.elim ty
def qe4 (K:Frag)(T:String)(r:V->List V->Hp->VK->Prop)(to:TE):TE:=fun σ H Q=>to σ H fun x H1=>tyV K T x H1/\r x [] H1 Q
def tBM (K:Frag)(T:String)(r:V->List V->Hp->VK->Prop)(to:TE)(t:TA):TE:=fun σ H Q=>to σ H fun x H1=>tyV K T x H1/\t σ H1 fun xs H2=>r x xs H2 Q
variable {o e:Expr} {es:List Expr} {to:TE} {t:TA} {name:Str} {apos cpos:Pos} {T id:String} {r:V->List V->Hp->VK->Prop}
theorem Ya (pa:PlainAttrs T)(slot:Slot T name id)(hty:typeOf (.builtin id)=pure (.type "method_descriptor"))(hm:MtR X id r)(ho:PE X o to)(hbase:attributeBase o name X.env (eval o X.env)=eval o X.env:=by rfl)(hline:(apos.endLine == cpos.line)=true:=by rfl):PE X (.Call (.Attribute o name apos) [] [] cpos) (qe4 X.K T r to):=by
 intro pins s σ H Q I h;refine wpAny_Call_method0_late hbase hline (thn (ho pins s σ H _ I h) fun v s1 ⟨x,H1,I1,r1,ty,q1⟩=>?_);obtain⟨h1,h2⟩:=Nq I1 r1 ty;exact⟨T,id,pa,slot,hty,h1,h2,Calls.callWith_builtin rfl (PySem.evalArgs_none (hm pins s1 σ H1 x [] v [] Q I1 r1 .nil q1))⟩
theorem jP (pa:PlainAttrs T)(slot:Slot T name id)(hty:typeOf (.builtin id)=pure (.type "method_descriptor"))(hm:MtR X id r)(ho:PE X o to)(ha:PA X (e :: es) t)(hbase:attributeBase o name X.env (eval o X.env)=eval o X.env:=by rfl)(hfew:((backTo cpos (starEach (e :: es) X.env)).all (fun x=>!x.1) && (backToKw cpos (keywordEach [] X.env)).all (fun x=>x.1.isSome)
   && decide ((e :: es).length+([]:List Keyword).length+(if ([]:List Keyword).isEmpty then 0 else 1) < 30))=true:=by rfl)(hline:(apos.endLine == cpos.line)=true:=by rfl)(hs:starEach (e :: es) X.env=(false,eval e X.env) :: starEach es X.env:=by rfl)(hplain:(backTo cpos (starEach es X.env)).any (·.1)=false:=by rfl) :
  PE X (.Call (.Attribute o name apos) (e :: es) [] cpos) (tBM X.K T r to t):=by
 intro pins s σ H Q I h;refine wpAny_Call_method_late hbase hfew hline rfl (thn (ho pins s σ H _ I h) fun v s1 ⟨x,H1,I1,r1,ty,q1⟩=>?_);obtain⟨h1,h2⟩:=Nq I1 r1 ty;refine⟨T,id,pa,slot,hty,h1,h2,?_⟩;have hA:=ha cpos pins s1 σ H1 _ I1 q1;rw[hs] at hA ⊢;refine Calls.callWith_builtin (by show (false || (backTo cpos (starEach es X.env)).any (·.1))=false;rw[hplain]<;>rfl) (Calls.evalArgs_plain ?_);exact thn hA fun us s2 ⟨vs,H2,I2,r2,q2⟩=>hm pins s2 σ H2 x vs v us Q I2 r1 r2 q2
end
def MtM (X:Cx)(id:String)(r:V->List V->Hp->VK->Prop):Prop:=
 ∀(pins:List (Addr × Obj)) (s:Shared) (σ:St) (H:Hp) (x:V) (xs:List V) (v:Value) (us:List Value) (Q:VK),Inv X pins σ H s->cC x v->bZ xs us->r x xs H Q->
  wpAny (model X.prog X.w) X.A (call (.builtin id) (v :: us)) (EP X pins σ Q) X.xe s
theorem bZ.one:∀{x:V} {us:List Value},bZ [x] us->∃u,us=[u]/\cC x u
 |_,_,.cons r .nil=>⟨_,rfl,r⟩
theorem bZ.zero:∀{us:List Value},bZ [] us->us=[]
 |_,.nil=>rfl
theorem bZ.dropLast {xs:List V}{us:List Value}(h:bZ xs us):bZ xs.dropLast us.dropLast:=by
 induction h with
 |nil=>exact .nil
 |cons r t ih=>
  cases t with
  |nil=>exact .nil
  |cons q t'=>exact .cons r ih
theorem bZ.rep {xs:List V}{us:List Value}(h:bZ xs us):∀k:Nat,bZ (replicate k xs).flatten (replicate k us).flatten
 |0=>.nil
 |k+1=>by
  rw[replicate_succ,replicate_succ,flatten_cons,flatten_cons];exact bZ.append h (bZ.rep h k)
theorem Dr {α:Type}(l:List α):l.eraseIdx (l.length - 1)=l.dropLast:=by
 induction l with
 |nil=>rfl
 |cons a r ih=>
  cases r with
  |nil=>rfl
  |cons b r=>
   have e:(a :: b :: r).length - 1=((b :: r).length - 1)+1:=by
    have h1:(a :: b :: r).length=r.length+2:=rfl;have h2:(b :: r).length=r.length+1:=rfl;lia
   rw[e,eraseIdx_cons_succ,ih]
   all_goals rfl
theorem vC (its:List Value):∀(k:Nat) (acc:List Value),
  foldl (fun x1 x2=>x1++x2) acc.toArray (replicate k its.toArray)=(acc++(replicate k its).flatten).toArray
 |0,acc=>by simp
 |k+1,acc=>by
  have e:acc.toArray++its.toArray=(acc++its).toArray:=by simp
  have e2:(acc++its)++(replicate k its).flatten=acc++(replicate (k+1) its).flatten:=by
   rw[replicate_succ,flatten_cons,List.append_assoc]
  rw[<- e2,<- vC its k (acc++its),<- e,replicate_succ,foldl_cons]
section
variable {X:Cx} {pins:List (Addr × Obj)} {σ:St} {H:Hp} {s:Shared} {l b:Addr} {xs ys zs:List V}
theorem Inv.lset {its its':List Value}{n:Nat}{f:Array Value->Array Value}{t':Nat}(I:Inv X pins σ H s)(hH:H l=some (.lst xs))(e:s.heap.get? l=some { cls:=.type "list",data:=.seq its.toArray n })(hf:f its.toArray=its'.toArray)(hv:bZ ys its')(hz:ys.length<=sizeLine) :
  Inv X pins σ (upd H l (.lst ys)) { s with heap:=s.heap.update l (Obj.mapSeq f),toks:=t' }:=by
 have q:=PySem.IsL.update e f;rw[hf] at q;refine I.write (x:=l) (e:=l) (by rw[hH];exact trivial) (.inl rfl) (fun b' u hb hu=>(Heap.get?_update_other s.heap (Obj.mapSeq f) (Ne.symm hb)).trans hu) ⟨_,q⟩ ?_;exact⟨hz,its',_,hv,q⟩
theorem Inv.lnew {its:List Value}{t':Nat}(I:Inv X pins σ H s)(hv:bZ ys its)(hz:ys.length<=sizeLine) :
  Inv X pins σ (upd H s.heap.objs.size (.lst ys)) { s with heap:=s.heap.push { cls:=.type "list",data:=.seq its.toArray },toks:=t' }:=
 I.laid (fun _ _ q=>Heap.get?_push_of_some _ q) (Nat.le_refl _) ⟨hz,its,0,hv,Heap.get?_push_size _ rfl⟩
theorem Inv.fresh (I:Inv X pins σ H s):H s.heap.objs.size=none:=I.hok.fresh (Nat.le_refl _)
theorem Inv.lstM (I:Inv X pins σ H s)(hH:H l=some (.lst xs)):xs.length<=sizeLine/\∃(its:List Value) (n:Nat),bZ xs its/\xs.length=its.length/\s.heap.get? l=some { cls:=.type "list",data:=.seq its.toArray n }:=by
 obtain⟨z,its,n,r,e⟩:=I.hok l _ hH;exact⟨z,its,n,r,r.length,e⟩
theorem Pk {n:Nat}(h:n<=sizeLine):Builtin.List.listTooLong n=false:=by
 unfold Builtin.List.listTooLong;exact decide_eq_false (by lia)
end
section
variable {X:Cx}
def Qe:V->List V->Hp->VK->Prop:=fun x vs H Q=>∃l xs y,x=.ref l/\vs=[y]/\H l=some (.lst xs)/\xs.length < sizeLine/\Q .non (upd H l (.lst (xs++[y])))
theorem fD:MtM X "list.append" Qe:=by
 intro pins s σ H x vs v us Q I rx rv h;obtain⟨l,xs,y,rfl,rfl,hH,hz,q⟩:=h
 cases rx
 obtain⟨u,rfl,ru⟩:=rv.one;obtain⟨z,its,n,r,hl,e⟩:=I.lstM hH;refine call_meets F.slot_list_append ⟨_,e,rfl⟩ F.entry_list_append (F.args_list_append_2 _ _) (PySem.list_append l its.toArray n u (by rw[size_toArray];lia)) ⟨e,?_⟩;refine⟨.non,_,I.lset (its':=its++[u]) hH e (by simp) (r.append (.cons ru .nil)) ?_,rfl,q⟩;rw[List.length_append,length_singleton];lia
def qb6:V->List V->Hp->VK->Prop:=fun x vs H Q=>∃l xs y,x=.ref l/\vs=[]/\H l=some (.lst xs)/\xs[xs.length - 1]?=some y/\Q y (upd H l (.lst xs.dropLast))
theorem Xq:MtM X "list.pop" qb6:=by
 intro pins s σ H x vs v us Q I rx rv h;obtain⟨l,xs,y,rfl,rfl,hH,hy,q⟩:=h
 cases rx
 have hus:=rv.zero;subst hus;obtain⟨z,its,n,r,hl,e⟩:=I.lstM hH;obtain⟨u,hu,ru⟩:=r.get hy;have hy':its.toArray[its.toArray.size - 1]?=some u:=by
  show its.toArray[its.length - 1]?=some u;rw[<- Array.getElem?_toList,<- hl];exact hu
 refine call_meets F.slot_list_pop ⟨_,e,rfl⟩ F.entry_list_pop (F.args_list_pop_1 _) (MeetsSeq.list_pop_last l its.toArray n u hy' (by rw[size_toArray];lia)) ⟨e,?_⟩;refine⟨y,_,I.lset (its':=its.dropLast) hH e ?_ r.dropLast ?_,ru,q⟩
 ·show its.toArray.eraseIdxIfInBounds (its.toArray.size - 1)=its.dropLast.toArray;rw[size_toArray,eraseIdxIfInBounds_toArray,Dr]
 ·rw[length_dropLast];lia
def qf1:R2:=fun x y H Q=>∃l b xs zs,x=.ref l/\y=.ref b/\H l=some (.lst xs)/\H b=some (.lst zs)/\xs.length+zs.length<=sizeLine/\∀p,H p=none->Q (.ref p) (upd H p (.lst (xs++zs)))
theorem xK:OpR X (binaryOp .Add) qf1:=by
 intro pins s σ H x y v u Q I rx ry h;obtain⟨l,b,xs,zs,rfl,rfl,hH,hB,hz,q⟩:=h
 cases rx
 cases ry
 obtain⟨z,its,n,r,hl,e⟩:=I.lstM hH;obtain⟨z2,its2,n2,r2,hl2,e2⟩:=I.lstM hB;refine PySem.P.add_list e e2 ?_ (by rw[size_toArray,size_toArray];lia);have ea:its.toArray++its2.toArray=(its++its2).toArray:=by simp
 rw[ea];exact⟨.ref _,_,I.lnew (t':=s.toks) (r.append r2) (by rw[List.length_append];lia),rfl,q _ I.fresh⟩
def qb4:R2:=fun x y H Q=>∃l k xs,x=.ref l/\y=.int k/\H l=some (.lst xs)/\-(2 ^ 63)<=k/\k < 2 ^ 63/\xs.length*k.toNat<=sizeLine/\
 ∀p,H p=none->Q (.ref p) (upd H p (.lst (replicate k.toNat xs).flatten))
theorem Rj {α:Type}(xs:List α)(k:Nat):(replicate k xs).flatten.length=k*xs.length:=by
 induction k with
 |zero=>simp
 |succ k ih=>rw[replicate_succ,flatten_cons,List.length_append,ih,Nat.succ_mul,Nat.add_comm]
theorem qM:OpR X (binaryOp .Mult) qb4:=by
 intro pins s σ H x y v u Q I rx ry h;obtain⟨l,k,xs,rfl,rfl,hH,h1,h2,hz,q⟩:=h
 cases rx
 obtain⟨t,rfl⟩:=ry;obtain⟨z,its,n,r,hl,e⟩:=I.lstM hH;have hlen:its.toArray.size*k.toNat<=sizeLine:=by rw[size_toArray,<- hl];exact hz
 have hcap:¬its.toArray.size*k.toNat > (2 ^ 63 - 1) / 8:=by
  have:(sizeLine:Nat)<=(2 ^ 63 - 1) / 8:=by decide
  lia
 have hfit:¬(!Builtin.List.listFitsIndex k)=true:=by
  rw[fitsIndex_both h1 h2];exact Bool.false_ne_true
 have hlong:¬Builtin.List.listTooLong (its.toArray.size*k.toNat)=true:=by
  rw[Pk hlen];exact Bool.false_ne_true
 have hnew:foldl (fun x1 x2=>x1++x2) #[] (replicate (if its.toArray.isEmpty=true then 0 else k.toNat) its.toArray)=(replicate k.toNat its).flatten.toArray:=by
  have f0:∀m:Nat,foldl (fun x1 x2=>x1++x2) #[] (replicate m its.toArray)=(replicate m its).flatten.toArray:=fun m=>by
   have:=vC its m [];rw[nil_append] at this;exact this
  rw[f0]
  cases its with
  |nil=>simp
  |cons a r'=>rw[if_neg (by simp)]
 refine wpAny_binaryOp_repeat_ref (T:="list") (U:="int") (by decide) ⟨_,e,rfl⟩ (fun s'=>typeIs_int s' k t) noFill_list_mul F.fills_int_mul F.slot_int_rmul repeat_list F.slot_int_index.lookup
  (call_meets F.slot_int_rmul (typeIs_int s k t) F.entry_int_rmul (F.args_int_rmul_2 _ _) (int___rmul___int_list k t l its.toArray n)
   ⟨e,rfl,⟨_,e,rfl⟩,call_meets F.slot_list_mul ⟨_,e,rfl⟩ F.entry_list_mul (F.args_list_mul_2 _ _) (AutoListH.list___mul___list_int_3 l its.toArray n k t hfit hcap hlong) ⟨e,?_⟩⟩)
 rw[hnew];exact⟨.ref _,_,I.lnew (t':=s.toks) (r.rep k.toNat) (by rw[Rj,Nat.mul_comm];exact hz),rfl,q _ I.fresh⟩
end
end L2
namespace Att
open PySem PySem.W PySem.Calls PyProof.Rows
theorem qV {P:Params}{h:Heap}:∀(ns:List Int) (vs:List Value),WellAll P h vs (ns.map WData.int)->IntsAre vs ns:=by
 intro ns
 induction ns with
 |nil=>
  intro vs w;rw[map_nil] at w
  cases w
  exact .nil
 |cons n ns ih=>
  intro vs w;rw[map_cons] at w
  cases w with
  |cons a b=>
   cases a
   exact .cons _ _ (ih _ b)
theorem Ip {l:OpenLaw}{n:Nat}(hn:l.most=some n){P:Params}{h:Heap}{args:List WData}{vals:List Value}(hpre:l.row.toRowW.claim.pre args=true)(hwl:WellAll P h vals args) :
  ∃a vs ns,vals=[Value.ref a]/\args=[WData.list (ns.map WData.int)]/\h.get? a=some { cls:=.type "list",data:=.seq vs.toArray }/\IntsAre vs ns/\ns.length<=n:=by
 have hsh:WShape.hasAll [] args [.list .int]=true:=(pre_splitW hpre).1;have hc:l.pre.holds [] { args:=args }=true:=(pre_splitW hpre).2;obtain⟨d,r,rfl,h1,h2⟩:=hasAllW_cons hsh;obtain rfl:=hasAllW_nil h2;obtain⟨xs,rfl,h3⟩:=hasW_list h1;obtain⟨ns,rfl⟩:=items_int h3;have hlen:ns.length<=n:=by
  unfold OpenLaw.pre at hc;have h4:(WTm.not (.lt (.lit (.int (n:Int))) (.len (.arg 0)))).holds [] { args:=[.list (ns.map .int)] }=true:=by
   have h4:=(holds_andW hc).1;rw[hn] at h4;exact h4
  have h5:=condW_of h4 (w_not (w_lt w_lit (w_len_list (w_arg rfl))));rw[length_map] at h5;refine Nat.le_of_not_lt fun q=>?_;have q':(n:Int) < ((ns.length:Nat):Int):=by lia
  first
   | (rw[decide_eq_true q'] at h5;exact absurd h5 (by decide))
   | (simp at h5;lia)
 cases hwl with
 |cons w1 w2=>
  cases w2
  cases w1 with
  |list ho hall=>exact⟨_,_,ns,rfl,rfl,ho,qV ns _ hall,hlen⟩
theorem Hm (l:OpenLaw)(args:List WData):l.row.toRowW.claim.post args (.bool true) args=true:=
 postW_of (r:=l.row.toRowW) (X:=(true == true))
  (show WShape.has [] (.bool true) .bool=true by first | rfl | decide | simp[WShape.has,WShape.arms,WShape.armsAll])
  (show (WTm.eq .res (.lit (.bool true))).value [] { args:=args,res:=some (.bool true),after:=args }=some (.bool (true == true)) from w_eq_bool (w_res rfl) w_lit) rfl
theorem attach_call {l:OpenLaw}{n:Nat}{q:Program}{loose:List Str}{XP:(Str->Option Value)->Heap->Prop}{YP:World->Heap->Prop}{d:DefRec}(hn:l.most=some n)(hdf:d.params.defaults=[])(call:∀(w:World) (s₀ s₁:Shared) (mg mb:Str->Option Value) (fa:Addr) (o:Obj) (pm cd doc:Value) (a:Addr) (vs:List Value) (ns:List Int),
   Ground q loose [] XP w s₀ mg mb s₁.heap->YP w s₁.heap->
   s₁.heap.get? fa=some o->o.data=.func (docDef d.name d.params d.body d.scope pm cd doc)->s₁.heap.CodeRec cd d.name->mg d.name=some (.ref fa)->
   s₁.heap.get? a=some { cls:=.type "list",data:=.seq vs.toArray }->IntsAre vs ns->ns.length<=n->s₁.gens=#[]->
   codeAny (model l.prog w) callerA (.call (.ref fa) ⟨[.ref a],[]⟩) (fun r s'=>r=.ok (.ret (.bool true))/\OldK s₁.heap s'.heap/\s'.os=s₁.os/\AllBare s'.gens) s₁) :
  WalkO q loose XP YP l.row.toRowW d [] (fun f vs=>PySem.call f vs):=by
 intro w s₀ s₁ mg mb G Y fa o pm cd doc dV kV ho hd hcd hD hmg hg args vals as hpre hlay hrd hwl hlo;obtain rfl:dV=.none:=Dflts.none hD hdf;obtain rfl:kV=.none:=Dflts.noKw hD;obtain⟨a,vs,ns,rfl,rfl,hobj,hints,hlen⟩:=Ip hn hpre hwl;refine enter_call (codeAny_mono (call w s₀ s₁ mg mb fa o pm cd doc a vs ns G Y ho (fd_plain hd) hcd hmg hobj hints hlen hg) fun r s' hq=>?_);obtain⟨rfl,h2,h3,h4⟩:=hq;exact⟨.inl ⟨.bool true,.bool true,[],rfl,fun _=>rfl,.bool true,Hm l _,fun _=>⟨Pairwise.nil,fun _ hm=>(nomatch hm)⟩⟩,h2,h3,h4⟩
end Att
namespace L2
open PySem PySem.Spec PyProof.Rows
theorem vD:∀{vs:List Value} {ns:List Int},IntsAre vs ns->bZ (ns.map V.int) vs
 |_,_,.nil=>.nil
 |_,_,.cons n t h=>.cons ⟨t,rfl⟩ (vD h)
def Vc (H:Hp):Prop:=∀b,H b=none\/∃o xs,H b=some (.frz o (.lst xs))
theorem Ow {P:Program}{w:World}{K:Frag}{mg mb:Str->Option Value}{CX:CXT}{k:Nat}{fa a:Addr}{fd:FuncData}{x:Str}{sp:Sp}{s₁:Shared}{vs:List Value}{ns:List Int}(KX:K.In s₁.heap)(hns:s₁.heap.Ns mainGlobals mg)(hb:s₁.heap.Ns builtinsNs mb)(hbb:∀x:Str,x≠"__name__"->mb x=bootBuiltins x)(hlim:s₁.heap.NoLimit)(hg:s₁.gens=#[])(ha:s₁.heap.get? a=some { cls:=.type "list",data:=.seq vs.toArray })(hi:IntsAre vs ns)(hl:ns.length<=sizeLine)(hr:gQ k callerA)(F:∀base:Heap,K.In base->base.Ns mainGlobals mg->aL P w K mg base CX k fa fd [x] sp)(hbind:∀(s:Shared) (u:Value),BindsTo s fd ⟨[u],[]⟩ [(x,u)])(hsp:∀H:Hp,Vc H->SqL K H a (ns.map V.int)->sp [.ref a] H (fun v _=>v=.bl true) fun _ _ _=>False)(hCX:∀H e s',CX [] H s₁ (fun _ _ _=>False) e s'->False) :
  codeAny (model P w) callerA (.call (.ref fa) ⟨[.ref a],[]⟩) (fun r s'=>r=.ok (.ret (.bool true))/\OldK s₁.heap s'.heap/\s'.os=s₁.os/\AllBare s'.gens) s₁:=by
 have rv:=vD hi;have lenV:=hi.length;have core:∀H:Hp,Vc H->SqL K H a (ns.map V.int)->HOk P w H s₁.heap->(∀b,H b≠none->b=a)->(H a≠none->K.lookup a=none)->
   codeAny (model P w) callerA (.call (.ref fa) ⟨[.ref a],[]⟩) (fun r s'=>r=.ok (.ret (.bool true))/\OldK s₁.heap s'.heap/\s'.os=s₁.os/\AllBare s'.gens) s₁:=by
  intro H hO hS hok hA hK;have base_of:∀{b:Addr} {o:Obj},s₁.heap.get? b=some o->H b=none->(yF s₁.heap H).get? b=some o:=fun e n=>Pa e n;have noA:∀{b:Addr} {o:Obj} {es:Array DictEntry} {ep:Nat},s₁.heap.get? b=some o->o.data=.dict es ep->H b=none:=fun {b o es ep} e d=>by
   cases q:H b with
   |none=>rfl
   |some u=>
    have e':b=a:=hA b (by rw[q];simp);subst e';rw[ha] at e;cases e;have d':Data.seq vs.toArray _=Data.dict es ep:=d
    cases d'
  have nsK:∀{b:Addr} {m:Str->Option Value},s₁.heap.Ns b m->(yF s₁.heap H).Ns b m:=fun {b m} ⟨o,es,ep,e,d,r⟩=>⟨o,es,ep,base_of e (noA e d),d,r⟩
  have hKb:K.In (yF s₁.heap H):=fun b o e=>base_of (KX b o e) (by
   cases q:H b with
   |none=>rfl
   |some u=>
    have e':b=a:=hA b (by rw[q];simp);subst e';rw[hK (by rw[q];simp)] at e;cases e)
  have hM:Mod K mg (yF s₁.heap H):=⟨hKb,nsK hns,⟨mb,nsK hb,hbb⟩,let ⟨mc,h1,h2⟩:=hlim;⟨mc,nsK h1,h2⟩⟩
  have e0:Cp P w K mg (yF s₁.heap H) callerA [] s₁ H:=⟨rfl,hM,fun b o e=>Qx e,Nat.le_of_eq (Ia _ _),trivial,fun b hb=>absurd (show b∈([]:List Addr) from hb) (by simp),hok,.of_eq hg⟩
  refine codeAny_mono ((F _ hKb (nsK hns)).run callerA [] s₁ H ⟨[.ref a],[]⟩ [.ref a] [.ref a] _ _ hr e0 (hbind s₁ (.ref a)) (.cons rfl .nil) (hsp H hO hS)) fun r s' h=>?_
  cases r with
  |error e=>exact(hCX H e s' h).elim
  |ok fl=>
   cases fl with
   |next=>exact False.elim h
   |brk=>exact False.elim h
   |cont=>exact False.elim h
   |ret u=>
    obtain⟨v,H',os,bare,un,hok',r',q⟩:=h;have q':v=.bl true:=q;subst q';obtain rfl:u=Value.bool true:=r';refine⟨rfl,OldK.of_keep fun b o e=>?_,os,bare⟩
    cases q:H b with
    |none=>exact un.keep b o e q (by intro z;exact absurd (show b∈([]:List Addr) from z) (by simp)) (by simp)
    |some u=>
     rcases hO b with z | ⟨ob,xs,z⟩
     ·rw[q] at z;cases z
     ·have z2:=un.frzs b ob _ z;obtain⟨e1,_⟩:=hok b _ z;obtain⟨e2,_⟩:=hok' b _ z2;rw[e] at e1;cases e1;exact e2
 cases hk:K.lookup a with
 |some o=>
  have e:=KX a o hk;rw[ha] at e
  cases e
  refine core (fun _=>none) (fun _=>.inl rfl) (.inr ⟨_,vs.toArray,_,hk,rfl,rfl,rfl,by rw[size_toArray,lenV];exact hl,by simpa using rv⟩) (fun b u z=>by have z':(none:Option HO)=some u:=z;cases z') (fun b z=>absurd rfl z) fun z=>absurd rfl z
 |none=>
  refine core (fun b=>if b=a then some (.frz { cls:=.type "list",data:=.seq vs.toArray } (.lst (ns.map V.int))) else none) (fun b=>?_) (.inl (.inr ⟨{ cls:=.type "list",data:=.seq vs.toArray },if_pos rfl⟩)) (fun b u z=>?_) (fun b z=>?_) fun _=>hk
  ·by_cases hb:b=a
   ·exact .inr ⟨_,_,if_pos hb⟩
   ·exact .inl (if_neg hb)
  ·by_cases hb:b=a
   ·have z':=(if_pos hb).symm.trans z
    cases z'
    subst hb;exact⟨ha,by rw[length_map];exact hl,vs,_,rv,ha⟩
   ·have z':=(if_neg hb).symm.trans z
    cases z'
  ·by_cases hb:b=a
   ·exact hb
   ·exact absurd (if_neg hb) z
abbrev KOf {K:Frag}{h:Heap}(_:K.In h):Frag:=K
theorem Th {l:W.OpenLaw}{n k:Nat}{q:Program}{loose:List Str}{XP:(Str->Option Value)->Heap->Prop}{YP:World->Heap->Prop}{d:DefRec}{K:Params->Frag}{CX:World->CXT}{sp:World->Sp}{x:Str}(hn:l.most=some n)(hn2:n<=sizeLine)(hdf:d.params.defaults=[])(hr:gQ k callerA)(hY:∀(w:World) (h:Heap),YP w h->(K w.params).In h)(F:∀(w:World) (mg:Str->Option Value) (fa:Addr) (h:Heap),(K w.params).In h->h.Ns mainGlobals mg->mg d.name=some (.ref fa)->
   ∃fd:FuncData,(∀(s:Shared) (u:Value),BindsTo s fd ⟨[u],[]⟩ [(x,u)])/\
    ∀base:Heap,(K w.params).In base->base.Ns mainGlobals mg->aL l.prog w (K w.params) mg base (CX w) k fa fd [x] (sp w))(hsp:∀(w:World) (H:Hp) (a:Addr) (ns:List Int),ns.length<=n->Vc H->SqL (K w.params) H a (ns.map V.int)->sp w [.ref a] H (fun v _=>v=.bl true) fun _ _ _=>False)(hCX:∀(w:World) (H:Hp) (s:Shared) (e:Value) (s':Shared),CX w [] H s (fun _ _ _=>False) e s'->False) :
  W.WalkO q loose XP YP l.row.toRowW d [] (fun f vs=>PySem.call f vs):=by
 refine Att.attach_call hn hdf fun w s₀ s₁ mg mb fa o pm cd doc a vs ns G Y ho hd hcd hmg hobj hints hlen hg=>?_;have KX:=hY w _ Y;obtain⟨fd,hb,hF⟩:=F w mg fa _ KX G.T.g hmg;exact Ow KX G.T.g G.T.b G.T.builtins G.T.nolimit hg hobj hints (Nat.le_trans hlen hn2) hr hF hb (fun H hO hS=>hsp w H a ns hlen hO hS) fun H e s'=>hCX w H s₁ e s'
def dM (s:Stmt)(j:Nat):Stmt:=match s with
 | .ClassDef _ _ _ body _ _ _ _ _ _ _=>body.getD j (.Pass ⟨0,0,0,0⟩)
 |_=>.Pass ⟨0,0,0,0⟩
def eT (s:Stmt):Arguments:=match s with
 | .FunctionDef _ a _ _ _ _ _ _ _ _=>a
 |_=>{ posonlyargs:=[],args:=[],vararg:=none,kwonlyargs:=[],kw_defaults:=[],kwarg:=none,defaults:=[] }
def cN (s:Stmt):List Stmt:=match s with
 | .FunctionDef _ _ b _ _ _ _ _ _ _=>b
 |_=>[]
def aI (s:Stmt):Scope:=match s with
 | .FunctionDef _ _ _ _ _ _ sc _ _ _=>sc
 |_=>{ kind:=.function,names:=[],isGenerator:=false,isCoroutine:=false }
abbrev CX0:CXT:=fun _ _ _ _ _ _=>False
abbrev E0:XK:=fun _ _ _=>False
theorem aK {X:Cx}:jV CX0 X E0:=fun _ _ _ _ _ _ _ h=>h.elim
theorem zL {A:Around}{k:Nat}(hr:gQ k A):A.units+1 < cLine:=Nat.lt_of_le_of_lt (Nat.add_le_add_left (by decide:1<=64) _) hr.units
theorem bA {n:Nat}(h:n<=1000):n < sizeLine:=Nat.lt_of_le_of_lt h (by decide)
section
variable {X:Cx}
theorem pv (i:Nat){x:Str}{pos:Pos}(hN:X.N[i]?=some x:=by rfl)(hv:Vis X.env.scope x:=by first | exact Or.inl rfl | exact Or.inr (Or.inl rfl) | exact Or.inr (Or.inr rfl))(hd:(x == ("__debug__":Str))=false:=by decide)(hcd:(x == ("__classdict__":Str))=false:=by decide):PE X (.Name x pos) (Sy i):=My hN hv hd hcd
end
theorem eY {A B:Prop}(h:B):if false=true then A else B:=by
 rw[if_neg Bool.false_ne_true];exact h
theorem fI {A B:Prop}(h:A):if true=true then A else B:=by
 rw[if_pos rfl];exact h
theorem oM {c A B:Prop}[Decidable c](h1:c->A)(h2:¬c->B):if c then A else B:=by
 by_cases h:c
 ·rw[if_pos h];exact h1 h
 ·rw[if_neg h];exact h2 h
theorem Yt {c A B:Prop}[Decidable c](hc:c)(h:B):if (!decide c)=true then A else B:=by
 rw[decide_eq_true hc];exact eY h
def aV (H H':Hp):Prop:=∀b o,H b=some o->H' b=some o
theorem aV.refl (H:Hp):aV H H:=fun _ _ h=>h
theorem aV.trans {H H1 H2:Hp}(a:aV H H1)(b:aV H1 H2):aV H H2:=fun c o h=>b c o (a c o h)
theorem aV.free {H H':Hp}(e:aV H H'){l:Addr}(h:H' l=Option.none):H l=Option.none:=by
 cases q:H l with
 |none=>rfl
 |some o=>
  rw[e l o q] at h
  cases h
theorem aV.seq {K:Frag}{H H':Hp}{a:Addr}{xs:List V}(e:aV H H')(h:SqL K H a xs):SqL K H' a xs:=by
 rcases h with (h | ⟨o,h⟩) | h
 ·exact .inl (.inl (e _ _ h))
 ·exact .inl (.inr ⟨o,e _ _ h⟩)
 ·exact .inr h
section
variable {X:Cx}
def Bt (n:Nat)(i:Int):Prop:=i.natAbs < 2 ^ n
theorem sZ {n:Nat}{i:Int}(h:Bt n i):Builtin.Int.intBits i<=n:=by
 unfold Builtin.Int.intBits;split
 ·exact Nat.zero_le _
 ·rename_i h0
  have hp:i.natAbs≠0:=by
   intro z;apply h0;simp at z ⊢;exact z
  have:i.natAbs.log2 < n:=(Nat.log2_lt hp).mpr h;lia
def Tc (i j:Int):Prop:=∃n m,Bt n i/\Bt m j/\n<=1048576/\m<=1048576
theorem Tc.ok {i j:Int}(h:Tc i j):IntMulOk i j:=by
 obtain⟨n,m,h1,h2,h3,h4⟩:=h;have e:(2:Nat) ^ 20=1048576:=by decide
 exact IntMulOk.of_bits (by have:=sZ h1;lia) (by have:=sZ h2;lia)
theorem cF:OpR X (binaryOp .Mult) (rI Tc fun i j=>.int (i*j)):=opI fun _ _ _ _ _ _ _ hc q=>mul_int q hc.ok
def Fi (i j:Int):Prop:=j≠0/\∃n,Bt n j/\n<=9000
theorem Fi.ok {i j:Int}(h:Fi i j):Builtin.divisionGoesByPylong i j=false:=by
 obtain⟨h0,n,h1,h2⟩:=h;refine PyProof.noPylong_of_log2 ?_;have hp:j.natAbs≠0:=by lia
 have:j.natAbs.log2 < n:=(Nat.log2_lt hp).mpr h1;lia
theorem iQ:OpR X (binaryOp .FloorDiv) (rI Fi fun i j=>.int (i.fdiv j)):=opI fun _ _ _ _ _ _ _ hc q=>floordiv_int hc.1 q (.inl hc.ok)
mutual
inductive qZ (K:Frag) (H:Hp):V->PyData->Prop where
 |non:qZ K H .non .none
 |bl (b:Bool):qZ K H (.bl b) (.bool b)
 |int (i:Int):qZ K H (.int i) (.int i)
 |str (x:Str):qZ K H (.str x) (.str x)
 |lst {a:Addr} {xs:List V} {ds:List PyData} (h:SqL K H a xs) (q:tO K H xs ds):qZ K H (.ref a) (.list ds)
 |tup {a:Addr} {xs:List V} {ds:List PyData} (h:SqT K H a xs) (q:tO K H xs ds):qZ K H (.ref a) (.tuple ds)
inductive tO (K:Frag) (H:Hp):List V->List PyData->Prop where
 |nil:tO K H [] []
 |cons {x:V} {d:PyData} {xs:List V} {ds:List PyData} (p:qZ K H x d) (q:tO K H xs ds):tO K H (x :: xs) (d :: ds)
end
theorem kA {pins:List (Addr × Obj)}{s:Shared}{σ:St}{H:Hp}(I:Inv X pins σ H s):∀{x:V} {d:PyData},qZ X.K H x d->∀{u:Value},cC x u->∃as,Reads s.heap u d as:=by
 intro x d h
 induction h using qZ.rec (motive_2:=fun xs ds _=>∀{us:List Value},bZ xs us->∃as,ReadsAll s.heap us ds as) with
 |non=>intro u r;cases (show u=Value.none from r);exact⟨_,.none⟩
 |bl b=>intro u r;cases (show u=Value.bool b from r);exact⟨_,.bool b⟩
 |int i=>intro u r;obtain⟨t,rfl⟩:=(show ∃t,u=Value.int i t from r);exact⟨_,.int i t⟩
 |str y=>intro u r;obtain⟨t,rfl⟩:=(show ∃t,u=Value.str y t from r);exact⟨_,.str y t⟩
 |lst h q ih=>
  intro u r
  cases (show u=Value.ref _ from r)
  obtain⟨its,rv,pl,_⟩:=I.list h;obtain⟨as,ra⟩:=ih rv;obtain⟨o,h1,h2,n,h3⟩:=pl.isList;exact⟨_,.list h1 h2 h3 (by simpa using ra)⟩
 |tup h q ih=>
  intro u r
  cases (show u=Value.ref _ from r)
  obtain⟨its,rv,pl,_⟩:=I.tuple h;obtain⟨as,ra⟩:=ih rv;obtain⟨o,h1,h2,n,h3⟩:=pl;exact⟨_,.tuple h1 h2 h3 (by simpa using ra)⟩
 |nil=>rename_i us r;cases r;exact⟨_,.nil⟩
 |cons p q ih1 ih2=>
  rename_i us r
  cases r with
  |cons r1 r2=>
   obtain⟨as,h1⟩:=ih1 r1;obtain⟨bs,h2⟩:=ih2 r2;exact⟨_,.cons h1 h2⟩
def Ht (K:Frag)(neg:Bool):R2:=fun x y H Q=>∃d e,qZ K H x d/\qZ K H y e/\d.canLay0=true/\e.canLay0=true/\min d.depth e.depth<=16/\Q (.bl (if neg then !PyData.eqv d e else PyData.eqv d e)) H
theorem xM (hu:X.A.units+64 < cLine):OpR X (compareOp .Eq) (Ht X.K false):=by
 intro pins s σ H x y v u Q I rx ry h;obtain⟨d,e,h1,h2,c1,c2,hm,q⟩:=h;obtain⟨as,r1⟩:=kA I h1 rx;obtain⟨bs,r2⟩:=kA I h2 ry;exact PySem.SeqAt.compareEq_reads r1 r2 c1 c2 (by lia) ⟨.bl (PyData.eqv d e),H,I,rfl,q⟩
theorem Nw (hu:X.A.units+64 < cLine):OpR X (compareOp .NotEq) (Ht X.K true):=by
 intro pins s σ H x y v u Q I rx ry h;obtain⟨d,e,h1,h2,c1,c2,hm,q⟩:=h;obtain⟨as,r1⟩:=kA I h1 rx;obtain⟨bs,r2⟩:=kA I h2 ry;exact PySem.SeqAt.compareNe_reads r1 r2 c1 c2 (by lia) ⟨.bl (!PyData.eqv d e),H,I,rfl,q⟩
end
section
variable {prog:Program} {w:World} {A:Around} {R:Result->Shared->Prop} {s:Shared}
abbrev Uq (ifs:List Expr)(env:Env):Sem Bool:=forIn ifs true fun c r=>if r=true then do let ok <- isTrue c env (eval c env);pure (ForInStep.yield ok) else pure (ForInStep.yield r)
theorem Il {elt target iter:Expr}{ifs:List Expr}{scope:Scope}{pos:Pos}{it acc:Value}{env:Env}(I:Nat->Shared->Prop)(turn:∀n s,I n s->wpAny (model prog w) A (pyNext it) (fun r s₁=>match r with
   |none=>R (.ok .next) s₁
   |some v=>wpAny (model prog w) A (letOwnedTupleGo target it v) (fun _ s₀=>wpAny (model prog w) A (assign target env v) (fun _ s₂=>
     wpAny (model prog w) A (Uq ifs env) (fun ok s₃=>
      if ok=true then wpAny (model prog w) A (eval elt env) (fun x s₄=>
       wpAny (model prog w) A (call (.builtin "list.append") [acc,x]) (fun _ s₅=>∃m,m < n/\I m s₅) (fun _ _=>False) s₄) (fun _ _=>False) s₃
      else ∃m,m < n/\I m s₃) (fun _ _=>False) s₂) (fun _ _=>False) s₀) (fun _ _=>False) s₁) (fun _ _=>False) s)(n:Nat)(h:I n s) :
  codeAny (model prog w) A (.compLoop (.ListComp elt [⟨target,iter,ifs,0⟩] scope pos) 0 it acc env) R s:=by
 refine codeAny_loop rfl I (fun n s hI=>?_) n h;show wpAny _ A ((compTurn (.ListComp elt [⟨target,iter,ifs,0⟩] scope pos) 0 it acc env).onRaise (fun x=>do noteFrame x env;theTreesLotGoes x)) _ _ s;refine wpAny_noted ?_;rw[compTurn_list];refine wpAny_bind (wpAny_standAt (wpAny_bind (wpAny_mono (turn n s hI) (fun r s₁ h₁=>?_) fun _ _ z=>z.elim)))
 cases r with
 |none=>exact wpAny_pure h₁
 |some v=>
  refine wpAny_bind (wpAny_mono h₁ (fun _ s₀ h₀=>?_) fun _ _ z=>z.elim);refine wpAny_bind (wpAny_mono h₀ (fun _ s₂ h₂=>wpAny_bind (wpAny_mono h₂ (fun ok s₃ h₃=>?_) fun _ _ z=>z.elim)) fun _ _ z=>z.elim)
  cases ok with
  |false=>exact wpAny_pure ⟨rfl,h₃⟩
  |true=>
   rw[if_pos rfl] at h₃;show wpAny _ _ ((do let _ <- call (.builtin "list.append") [acc,<- eval elt env]) >>= fun _=>again (.compLoop (.ListComp elt [⟨target,iter,ifs,0⟩] scope pos) 0 it acc env)) _ _ _;exact wpAny_bind (wpAny_bind (wpAny_mono h₃ (fun x s₄ h₄=>wpAny_bind (wpAny_mono h₄ (fun _ s₅ h₅=>wpAny_pure (wpAny_pure ⟨rfl,h₅⟩)) fun _ _ z=>z.elim)) fun _ _ z=>z.elim))
end
structure yQ (X:Cx) (scope:Scope) (cl:List (Str × Addr)) (Nc:List Str) (nl:Nat) (fr:List Nat):Prop where
 clos:closureFor scope X.env=pure cl
 kind:scope.kind=.function
 names:∀y∈scope.names,y.2=.local->scope.names.lookup y.1=some .local
 cell:∀y∈scope.names,y.2≠.cell
 sub:∀x c,cl.lookup x=some c->X.env.cells.lookup x=some c
 has:∀x,(relabel scope X.env).names.lookup x=some .cell\/(relabel scope X.env).names.lookup x=some .free->∃c,cl.lookup x=some c
 len:Nc.length=nl+fr.length
 tail:∀i n,Nc[nl+i]?=some n->∃j,fr[i]?=some j/\X.N[j]?=some n/\X.env.kindOf n=some .cell/\cl.lookup n=X.env.cells.lookup n/\((relabel scope X.env).names.lookup n=some .cell\/(relabel scope X.env).names.lookup n=some .free)
abbrev fG (X:Cx)(scope:Scope)(cl:List (Str × Addr))(Nc:List Str)(C:Addr)(s3:Shared)(H3:Hp)(fp:List Addr)(pins:List (Addr × Obj)):Cx:=
 { X with N:=Nc,s₀:=s3,H₀:=H3,env:=compEnvC scope cl C X.env,outer:=X.stack,ex:=fp,fn:=fun _=>false,pn:=X.pn++pins,xe:=fun _ _=>False }
def σC (nl:Nat)(fr:List Nat)(σ:St):St:=replicate nl none++fr.map fun j=>(σ[j]?).join
abbrev PIf (X:Cx)(ifs:List Expr)(t:TT):Prop:=
 ∀(pins:List (Addr × Obj)) (s:Shared) (σ:St) (H:Hp) (Q:Bool->Hp->Prop),Inv X pins σ H s->t σ H Q->wpAny (model X.prog X.w) X.A (Uq ifs X.env) (TP X pins σ Q) X.xe s
theorem dL {X:Cx}:PIf X [] (fun _ H Q=>Q true H):=fun _ _ _ H _ I h=>wpAny_pure ⟨H,I,h⟩
theorem yN {X:Cx}{c:Expr}{t:TT}(h:PT X c t):PIf X [c] t:=fun pins s σ H Q I q=>wpAny_tests_one (h pins s σ H Q I q)
section
variable {X:Cx} {scope:Scope} {cl:List (Str × Addr)} {Nc:List Str} {nl:Nat} {fr:List Nat} {pins:List (Addr × Obj)} {σ:St} {H3:Hp} {s3:Shared} {fp:List Addr} {h4:Heap} {tk:Nat}
theorem Cg (ck:yQ X scope cl Nc nl fr)(I:Inv X pins σ H3 s3)(hf:∀b∈fp,mU X pins H3 b)(hfs:∀b∈fp,b < s3.heap.objs.size)(hns:h4.Ns s3.heap.objs.size fun _=>none)(hk:∀b o,s3.heap.get? b=some o->h4.get? b=some o) :
  Inv (fG X scope cl Nc s3.heap.objs.size s3 H3 fp pins) [] (σC nl fr σ) H3 { s3 with heap:=h4,toks:=tk }:=by
 have stk:∀b∈frs X.stack,b∈X.env.locals :: X.fs:=I.stkSub;have nfs:∀b,b≠X.env.locals->b∉X.fs->b∉frs X.stack:=fun b h1 h2 z=>(mem_cons.mp (stk b z)).elim h1 h2;have ltc:∀x c,cl.lookup x=some c->c < s3.heap.objs.size:=fun x c e=>by
  obtain⟨v,z⟩:=I.cell x c (ck.sub x c e);exact z.lt
 refine⟨⟨I.ok.mod,ck.kind,I.ok.glob,I.ok.blt,Nat.le_refl _,fun x y c h1 h2=>I.ok.inj x y c (ck.sub x c h1) (ck.sub y c h2),fun x hx=>ck.has x hx,fun x c hz=>Bool.noConfusion hz,I.ok.hd,I.ok.frames,.inl rfl,fun b hb=>?_,I.bs,Nat.le_trans I.ok.bsz I.sz,fun b o e hb=>?_,fun b hb=>?_,I.stack,I.stkFree⟩,
  rfl,I.bare,Un.kept hk,⟨_,hns,fun i x v h1 h2 h3=>?_⟩,fun x c e=>?_,I.hok.fresh (Nat.le_refl _),fun x c e=>I.freeC x c (ck.sub x c e),fun p hp=>?_,I.hok.kept hk,?_⟩
 ·obtain⟨f0,f1,f2,f3,f4,f5⟩:=hf b hb;exact⟨Nat.ne_of_lt (hfs b hb),fun x c e=>f4 x c (ck.sub x c e)⟩
 ·obtain⟨f0,f1,f2,f3,f4,f5⟩:=hf b hb;rcases f3 with z | z
  ·exact I.ok.noex b o e z
  ·exact absurd (Nat.lt_of_lt_of_le (Heap.lt_size e) (Nat.le_trans I.ok.bsz z)) (Nat.lt_irrefl _)
 ·obtain⟨f0,f1,f2,f3,f4,f5⟩:=hf b hb;exact nfs b f1 f2
 ·-- a name's value
  unfold σC at h2
  by_cases hi:i < nl
  ·rw[getElem?_append_left (by simpa using hi),getElem?_replicate] at h2;split at h2<;>cases h2
  ·have hi':nl<=i:=by lia
   rw[getElem?_append_right (by simpa using hi'),length_replicate,getElem?_map] at h2;obtain⟨k,rfl⟩:∃k,i=nl+k:=⟨i - nl,by lia⟩
   obtain⟨j,e1,e2,e3,e4,e5⟩:=ck.tail k x h1;rw[Nat.add_sub_cancel_left,e1] at h2;have h2':(σ[j]?).join=some v:=by simpa using h2
   have h2'':σ[j]?=some (some v):=by
    cases q:σ[j]? with
    |none=>rw[q] at h2';cases h2'
    |some z=>rw[q] at h2';exact congrArg some h2'
   obtain⟨m,hn,hl⟩:=I.loc;obtain⟨u,r,l⟩:=hl j x v e2 h2'' (.inr (.inl e3));refine⟨u,r,?_⟩;rcases l with ⟨k1,_⟩ | ⟨k1,c,ec,z⟩
   ·rw[e3] at k1;cases k1
   ·obtain⟨o,ho,hd⟩:=z;exact .inr ⟨e5,c,by show cl.lookup x=some c;rw[e4];exact ec,o,hk _ _ ho,hd⟩
 ·obtain⟨v,o,ho,hd⟩:=I.cell x c (ck.sub x c e);exact⟨v,o,hk _ _ ho,hd⟩
 ·have hp':p∈X.pn++pins:=by simpa using hp
  obtain⟨e,n,ne,nf,d⟩:=I.pin p hp';exact⟨hk _ _ e,n,Nat.ne_of_lt (Heap.lt_size e),nfs _ ne nf,d⟩
 ·unfold σC;show _=Nc.length;rw[List.length_append,length_replicate,length_map,ck.len]
theorem Ol {pins':List (Addr × Obj)}{σ':St}{H':Hp}{s':Shared}(I:Inv X pins σ H3 s3)(hf:∀b∈fp,mU X pins H3 b)(J:Inv (fG X scope cl Nc s3.heap.objs.size s3 H3 fp pins) pins' σ' H' s'):Inv X pins σ H' s'/\mU X pins H' s3.heap.objs.size:=by
 refine⟨I.call' (ch:=fp) J.os J.base J.hok J.bare fun b hb=>?_,I.fpOk (Nat.le_refl _) J.free⟩;obtain⟨f0,f1,f2,f3,f4,f5⟩:=hf b hb;exact⟨f3,f1,f4,f5⟩
theorem Inv.off {b:Addr}{H:Hp}{s:Shared}{h':Heap}(I:Inv X pins σ H s)(f:mU X pins H b)(hs:Heap.SameBut b s.heap h'):Inv X pins σ H { s with heap:=h' }:=by
 obtain⟨f0,f1,f2,f3,f4,f5⟩:=f;exact I.turned (t':=s.toks) (it:=b) (fun c o hb e=>(hs.2 c hb).trans e) f0 f1 f3 f4 f5
end
def Ba (J:It)(nl:Nat)(fr:List Nat)(g:TG)(tt:TT)(te:TE)(σ:St)(D:Addr)(H1:Hp)(Q:VK):Prop:=
 ∃W:Nat->Nat->List V->Hp->Prop,(∃m,W 0 m [] (upd H1 D (.lst [])))/\∀i m ys H2,W i m ys H2->H2 D=some (.lst ys)/\
  ((J.stop i H2/\Q (.ref D) H2)\/(J.go i H2/\∀x H3,J.yld i H2 x H3->g x (σC nl fr σ) H3 fun σ2 H4=>σ2.length=(σC nl fr σ).length/\(∀(i:Nat) v,(σC nl fr σ)[i]?=some (some v)->σ2[i]?=some (some v))/\
   tt σ2 H4 fun b H5=>if b=true then te σ2 H5 fun y H6=>H6 D=some (.lst ys)/\ys.length < sizeLine/\∃m',m' < m/\W (i+1) m' (ys++[y]) (upd H6 D (.lst (ys++[y])))
    else ∃m',m' < m/\W (i+1) m' ys H5))
def Ly (wi:TI)(nl:Nat)(fr:List Nat)(g:TG)(tt:TT)(te:TE):TE:=fun σ H Q=>wi σ H fun J H1=>∀D,H1 D=none->Ba J nl fr g tt te σ D H1 Q
section
variable {X:Cx} {scope:Scope} {cl:List (Str × Addr)} {Nc:List Str} {nl:Nat} {fr:List Nat} {elt tg iter:Expr} {ifs:List Expr} {pos:Pos} {wi:TI} {g:TG} {tt:TT} {te:TE}
theorem Ao (hc:X.calm=true)(ck:yQ X scope cl Nc nl fr)(hi:PI X tg iter wi)(hg:∀C s3 H3 fp pins,PG (fG X scope cl Nc C s3 H3 fp pins) tg g)(ht:∀C s3 H3 fp pins,PIf (fG X scope cl Nc C s3 H3 fp pins) ifs tt)(he:∀C s3 H3 fp pins,PE (fG X scope cl Nc C s3 H3 fp pins) elt te){pins:List (Addr × Obj)}{s:Shared}{σ:St}{H:Hp}{Q:VK}(I:Inv X pins σ H s)(h:Ly wi nl fr g tt te σ H Q){RR:Value->Addr->Result->Shared->Prop}(fin:∀D C s',(∃H',(∃m,s'.heap.Ns C m)/\Inv X pins σ H' s'/\mU X pins H' C/\Q (.ref D) H')->RR (.ref D) C (.ok .next) s') :
  wpAny (model X.prog X.w) X.A (eval iter X.env) (fun x s₁=>wpAny (model X.prog X.w) X.A (pyIter x) (fun it s₂=>wpAny (model X.prog X.w) X.A (newList []) (fun acc s₃=>
   wpAny (model X.prog X.w) X.A (newFunctionEnv scope X.env.globals cl [] X.env.qual none .none (some X.env)) (fun cenv s₄=>
    codeAny (model X.prog X.w) X.A (.compStart (.ListComp elt [⟨tg,iter,ifs,0⟩] scope pos) 0 it acc { cenv with scope:=relabel scope X.env }) (RR acc cenv.locals) s₄) X.xe s₃) X.xe s₂) X.xe s₁) X.xe s:=by
 refine thn (hi pins s σ H _ I h) fun v s1 h1=>thn h1 fun itv s2 h2=>?_;obtain⟨it,fp,tn,J,H2,e,I2,T,st2,f2,hD⟩:=h2;subst e;have hn2:H2 s2.heap.objs.size=none:=I2.hok.fresh (Nat.le_refl _);obtain⟨W,⟨m0,w0⟩,turn⟩:=hD s2.heap.objs.size hn2;refine wpAny_newObj_type (wpAny_newFunctionEnv ck.cell (by intro y hy;simp at hy) (fun h4 hns hsb=>?_) ck.kind);dsimp only at hns hsb ⊢;have I3:Inv X pins σ (upd H2 s2.heap.objs.size (.lst [])) { s2 with heap:=s2.heap.push { cls:=.type "list",dict:=none,data:=.seq ([]:List Value).toArray } }:=
  I2.laid (t':=s2.toks) (fun b u e=>Heap.get?_push_of_some _ e) (Nat.le_refl _) ⟨Nat.zero_le _,[],0,.nil,Heap.get?_push_size _ rfl⟩
 have hfs:∀b∈fp,b < s2.heap.objs.size:=fun b hb=>by
  obtain⟨o,e,_⟩:=T.obj 0 _ st2 b hb;exact Heap.lt_size e
 have f3:∀b∈fp,mU X pins (upd H2 s2.heap.objs.size (.lst [])) b:=fun b hb=>⟨by rw[aU (Nat.ne_of_lt (hfs b hb))];exact(f2 b hb).1,(f2 b hb).2⟩
 generalize hH3:upd H2 s2.heap.objs.size (.lst [])=H3 at *
 generalize hs3:({ s2 with heap:=s2.heap.push { cls:=.type "list",dict:=none,data:=.seq ([]:List Value).toArray } }:Shared)=s3 at *
 have z3:s3.heap=s2.heap.push { cls:=.type "list",dict:=none,data:=.seq ([]:List Value).toArray }:=by rw[<- hs3]
 have hsz3:s3.heap.objs.size=s2.heap.objs.size+1:=by rw[z3,Heap.size_push]
 rw[<- z3] at hns hsb ⊢;have hk4:∀b o,s3.heap.get? b=some o->h4.get? b=some o:=fun b o e=>hsb.extBut b o (Nat.ne_of_lt (Heap.lt_size e)) (Heap.get?_push_of_some _ e);have hfs3:∀b∈fp,b < s3.heap.objs.size:=fun b hb=>Nat.lt_of_lt_of_le (hfs b hb) (by rw[hsz3];exact Nat.le_succ _);have hns':h4.Ns s3.heap.objs.size fun _=>none:=by simpa using hns
 have K0:=fun tk=>Cg (tk:=tk) ck I3 f3 hfs3 hns' hk4;have stat:∀{H':Hp},(∀b∈fp,H' b=none)->∀b∈fp,mU (fG X scope cl Nc s3.heap.objs.size s3 H3 fp pins) [] H' b:=fun {H'} hn b hb=>by
  obtain⟨f0,g1,g2,g3,g4,g5⟩:=f3 b hb;refine⟨hn b hb,Nat.ne_of_lt (hfs3 b hb),fun z=>?_,.inl hb,fun x c e=>g4 x c (ck.sub x c e),fun p hp=>g5 p (by simpa using hp)⟩;exact(mem_cons.mp (I3.stkSub b z)).elim g1 g2
 have st4:tn 0 h4:=T.keep 0 _ _ st2 fun b hb o e=>hk4 b o (by rw[z3];exact Heap.get?_push_of_some _ e);have loop:∀tk,codeAny (model X.prog X.w) X.A (.compLoop (.ListComp elt [⟨tg,iter,ifs,0⟩] scope pos) 0 (.ref it) (.ref s2.heap.objs.size) (compEnvC scope cl s3.heap.objs.size X.env)) (RR (.ref s2.heap.objs.size) s3.heap.objs.size) { s3 with heap:=h4,toks:=tk }:=by
  intro tk;refine Il (fun n s'=>∃i ys H',Inv (fG X scope cl Nc s3.heap.objs.size s3 H3 fp pins) [] (σC nl fr σ) H' s'/\tn i s'.heap/\(∀b∈fp,H' b=none)/\W i n ys H') ?_ m0 ⟨0,[],H3,K0 tk,st4,fun b hb=>(f3 b hb).1,w0⟩;rintro n s5 ⟨i,ys,H5,I5,st5,fr5,w5⟩;obtain⟨hl5,q5⟩:=turn i n ys H5 w5;rcases q5 with ⟨stop,qn⟩ | ⟨go,step⟩
  ·refine wpAny_mono (T.done (fG X scope cl Nc s3.heap.objs.size s3 H3 fp pins) rfl rfl rfl hc i [] s5 (σC nl fr σ) H5 (fun _ _=>False) I5 (stat fr5) st5 stop) (fun r s6 h6=>?_) fun _ _ z=>z;obtain⟨hr,I6⟩:=h6;subst hr;obtain⟨z1,z2⟩:=Ol I3 f3 I6;refine fin _ _ _ ⟨H5,?_,z1,z2,qn⟩;obtain⟨m,hm,_⟩:=I6.loc;exact⟨m,hm⟩
  ·refine wpAny_mono (T.item (fG X scope cl Nc s3.heap.objs.size s3 H3 fp pins) rfl rfl rfl hc i [] s5 (σC nl fr σ) H5 (fun _ _=>False) I5 (stat fr5) st5 go) (fun r s6 h6=>?_) fun _ _ z=>z;obtain⟨u,hr,h6⟩:=h6;subst hr;refine wpAny_mono h6 (fun _ s7 h7=>?_) fun _ _ z=>z;obtain⟨x,H7,I7,r7,y7,st7,fr7⟩:=h7;have I7':=I7.pinned (stat fr7) (T.obj _ _ st7);refine wpAny_mono (hg s3.heap.objs.size s3 H3 fp pins _ s7 _ H7 x u _ I7' r7 (step x H7 y7)) (fun _ s8 h8=>?_) fun _ _ z=>z;obtain⟨σ8,H8,I8,l8,k8,q8⟩:=h8;refine wpAny_mono (ht s3.heap.objs.size s3 H3 fp pins _ s8 σ8 H8 _ I8 q8) (fun b s9 h9=>?_) fun _ _ z=>z;obtain⟨H9,I9,q9⟩:=h9;have again:∀{ys':List V} {H':Hp} {s':Shared} {m':Nat},Inv (fG X scope cl Nc s3.heap.objs.size s3 H3 fp pins) ([]++uA fp s7.heap) σ8 H' s'->m' < n->W (i+1) m' ys' H'->
     ∃m,m < n/\∃i ys H',Inv (fG X scope cl Nc s3.heap.objs.size s3 H3 fp pins) [] (σC nl fr σ) H' s'/\tn i s'.heap/\(∀b∈fp,H' b=none)/\W i m ys H':=fun {ys' H' s' m'} I' hm w'=>by
    refine⟨m',hm,i+1,ys',H',I'.unpinned.weak l8.symm k8,T.keep _ _ _ st7 fun b hb o e=>(I'.pin (b,o) (mem_append_right _ (mem_append_right _ (jY hb e)))).1,fun b hb=>?_,w'⟩;obtain⟨o,e,d⟩:=T.obj _ _ st7 b hb;exact(I'.pin (b,o) (mem_append_right _ (mem_append_right _ (jY hb e)))).2.1
   cases b with
   |false=>
    rw[if_neg Bool.false_ne_true] at q9 ⊢;obtain⟨m',hm,w9⟩:=q9;exact again I9 hm w9
   |true=>
    rw[if_pos rfl] at q9 ⊢;refine wpAny_mono (he s3.heap.objs.size s3 H3 fp pins _ s9 σ8 H9 _ I9 q9) (fun yv s10 h10=>?_) fun _ _ z=>z;obtain⟨y,H10,I10,r10,hl10,hz10,m',hm,w10⟩:=h10;refine wpAny_mono (fD (X:=fG X scope cl Nc s3.heap.objs.size s3 H3 fp pins) _ s10 σ8 H10 (.ref s2.heap.objs.size) [y] _ [yv] (fun v H'=>H'=upd H10 s2.heap.objs.size (.lst (ys++[y]))) I10 rfl (.cons r10 .nil) ⟨_,ys,y,rfl,rfl,hl10,hz10,rfl⟩) (fun _ s11 h11=>?_) fun _ _ z=>z;obtain⟨_,H11,I11,_,e11⟩:=h11;subst e11;exact again I11 hm w10
 have L:=loop (s2.toks+([]:List (Str × Value)).length);rw[show s3.gens=s2.gens by rw[<- hs3],show s3.drawn=s2.drawn by rw[<- hs3],show s3.os=s2.os by rw[<- hs3]] at L;exact codeAny_compStart_list L (T.self _ 0 _ _ _ st4 L)
theorem eU (hc:X.calm=true)(ck:yQ X scope cl Nc nl fr)(hi:PI X tg iter wi)(hg:∀C s3 H3 fp pins,PG (fG X scope cl Nc C s3 H3 fp pins) tg g)(ht:∀C s3 H3 fp pins,PIf (fG X scope cl Nc C s3 H3 fp pins) ifs tt)(he:∀C s3 H3 fp pins,PE (fG X scope cl Nc C s3 H3 fp pins) elt te)(hs:∀x,foldedSetIterable iter X.env x=pure x:=by intro _;rfl):PE X (.ListComp elt [⟨tg,iter,ifs,0⟩] scope pos) (Ly wi nl fr g tt te):=by
 intro pins s σ H Q I h;rw[eval_ListComp];refine wpAny_comprehension_free (use:=none) rfl hs ck.clos ck.kind ck.names (Ao (RR:=fun acc C=>compPost (model X.prog X.w) X.A X.xe none (EP X pins σ Q) acc C) hc ck hi hg ht he I h fun D C s' hh=>?_);obtain⟨H',⟨m,hm⟩,hI,hF,q⟩:=hh;exact⟨m,hm,fun h' hs'=>⟨.ref D,H',hI.off hF hs',rfl,q⟩⟩
theorem oQ {i:Nat}{y:Str}{py spos:Pos}(hN:X.N.Nodup)(hiy:X.N[i]?=some y)(hy:X.env.scope.names.lookup y=some .local)(hc:X.calm=true)(ck:yQ X scope cl Nc nl fr)(hi:PI X tg iter wi)(hg:∀C s3 H3 fp pins,PG (fG X scope cl Nc C s3 H3 fp pins) tg g)(ht:∀C s3 H3 fp pins,PIf (fG X scope cl Nc C s3 H3 fp pins) ifs tt)(he:∀C s3 H3 fp pins,PE (fG X scope cl Nc C s3 H3 fp pins) elt te)(hsw:swapsWith (.ListComp elt [⟨tg,iter,ifs,0⟩] scope pos) (some (.Name y py)) spos.line X.env=pure true)(hs:∀x,foldedSetIterable iter X.env x=pure x:=by intro _;rfl):PS X (.Assign [.Name y py] (.ListComp elt [⟨tg,iter,ifs,0⟩] scope pos) spos) (Vu (Ly wi nl fr g tt te) (jO i)):=by
 intro pins s σ H D I h;rw[exec_Assign_Name_used _ _ _ _ hsw];refine wpAny_bind (wpAny_standAt (wpAny_bind ?_));show wpAny _ X.A (do let _ <- comprehension (.ListComp elt [⟨tg,iter,ifs,0⟩] scope pos) scope X.env _ (newList []) false (eval iter X.env) (some (assign (.Name y py) X.env))) _ _ s;refine wpAny_bind (wpAny_mono (wpAny_comprehension_free (use:=some (assign (.Name y py) X.env)) (Q:=fun _ s'=>SP X pins D .next s') rfl hs ck.clos ck.kind ck.names
  (Ao (RR:=fun acc C=>compPost (model X.prog X.w) X.A X.xe (some (assign (.Name y py) X.env)) (fun _ s'=>SP X pins D .next s') acc C) hc ck hi hg ht he I h fun Dd C s' hh=>?_)) (fun _ s' hq=>wpAny_pure (wpAny_pure hq)) fun _ _ e=>e)
 obtain⟨H',⟨m,hm⟩,hI,hF,q⟩:=hh;show wpAny _ X.A (assign (.Name y py) X.env (.ref Dd)) _ _ _;refine wpAny_assign_Name (wJ hI hN hiy (.inl hy) (v:=.ref Dd) rfl (fun s2 I2 hsb=>?_) (.inr hy));obtain⟨a,sb,ha⟩:=hsb;have hCa:C≠a:=by
  rcases ha with z | z
  ·rw[z];exact hF.2.1
  ·exact Ne.symm (hF.2.2.2.2.1 y a z)
 refine⟨m,hm.sameBut sb hCa,fun h' hs'=>⟨_,H',I2.off hF hs',q⟩⟩
end
end L2
namespace Mq
abbrev Q2:=Int × Int
def gc (a b:Int):Int:=(Int.gcd a b:Nat)
theorem Fn (a b:Int):gc b (Int.fmod a b)=gc a b:=by
 unfold gc;rw[Int.fmod_def,Int.gcd_comm a b,Int.sub_eq_add_neg,<- Int.mul_neg,Int.gcd_add_mul_left_right]
theorem vK {a b:Int}(h:b≠0):(Int.fmod a b).natAbs < b.natAbs:=by
 rcases (by lia:0 < b\/b < 0) with h1 | h1
 ·have:=Int.fmod_nonneg_of_pos a h1;have:=Int.fmod_lt_of_pos a h1;lia
 ·have h2:0 < -b:=by lia
  have e:Int.fmod a b=- Int.fmod (-a) (-b):=by
   rw[Int.neg_fmod_neg];lia
  have:=Int.fmod_nonneg_of_pos (-a) h2;have:=Int.fmod_lt_of_pos (-a) h2;lia
theorem Fy (a:Int):gc a 0=if a < 0 then -a else a:=by
 unfold gc;rw[Int.gcd_zero];split<;>lia
theorem Wx (a b:Int):gc (if a < 0 then -a else a) (if b < 0 then -b else b)=gc a b:=by
 unfold gc;split<;>split<;>simp
theorem sU {a b:Int}(h:b≠0):0 < gc a b:=by
 have:=Int.gcd_pos_of_ne_zero_right a h;unfold gc;lia
structure Low (p:Q2):Prop where
 pos:1<=p.2
 one:gc p.1 p.2=1
def dvr (t b:Int):Int:=if b < 0 then -gc t b else gc t b
def red (t b:Int):Q2:=(Int.fdiv t (dvr t b),Int.fdiv b (dvr t b))
theorem qK {t b:Int}(h:b≠0):dvr t b≠0:=by
 have:=sU (a:=t) h;unfold dvr;split<;>lia
theorem fR {a g k:Int}(hg:g≠0)(h:a=g*k):Int.fdiv a g=k:=by
 rw[h,Int.mul_fdiv_cancel_left _ hg]
theorem Rk (t b:Int):dvr t b ∣ t/\dvr t b ∣ b:=by
 have h1:gc t b ∣ t:=Int.gcd_dvd_left t b;have h2:gc t b ∣ b:=Int.gcd_dvd_right t b;unfold dvr;split
 ·exact⟨Int.neg_dvd.mpr h1,Int.neg_dvd.mpr h2⟩
 ·exact⟨h1,h2⟩
theorem qF {t b:Int}(h:b≠0):t=dvr t b*(red t b).1/\b=dvr t b*(red t b).2:=by
 obtain⟨⟨x,hx⟩,⟨y,hy⟩⟩:=Rk t b;have hg:=qK (t:=t) h;have e1:(red t b).1=x:=fR hg hx;have e2:(red t b).2=y:=fR hg hy;rw[e1,e2];exact⟨hx,hy⟩
theorem iJ {t b:Int}(h:b≠0):Low (red t b):=by
 obtain⟨h1,h2⟩:=qF (t:=t) h;have hg:=qK (t:=t) h;have hp:=sU (a:=t) h;have nd:(dvr t b).natAbs=(gc t b).natAbs:=by unfold dvr;split<;>simp
 have e:Int.gcd t b=(dvr t b).natAbs*Int.gcd (red t b).1 (red t b).2:=by
  rw[<- Int.gcd_mul_left,<- h1,<- h2]
 have e2:(gc t b).natAbs=Int.gcd t b:=by unfold gc;simp
 rw[nd,e2] at e;have hp':0 < Int.gcd t b:=by unfold gc at hp;lia
 have one:Int.gcd (red t b).1 (red t b).2=1:=by
  have:Int.gcd t b*Int.gcd (red t b).1 (red t b).2=Int.gcd t b*1:=by lia
  exact Nat.eq_of_mul_eq_mul_left hp' this
 refine⟨?_,by unfold gc;rw[one];rfl⟩;have sgn:0 < (red t b).2:=by
  by_cases hb:b < 0
  ·have hd:dvr t b < 0:=by unfold dvr;rw[if_pos hb];lia
   have hq:¬(red t b).2<=0:=fun q=>by
    have:=Int.mul_nonneg_of_nonpos_of_nonpos (Int.le_of_lt hd) q;lia
   lia
  ·have hd:0 < dvr t b:=by unfold dvr;rw[if_neg hb];lia
   have hq:¬(red t b).2<=0:=fun q=>by
    have:=Int.mul_nonpos_of_nonneg_of_nonpos (Int.le_of_lt hd) q;lia
   lia
 lia
theorem wP {t b:Int}(h:b≠0):(red t b).1*b=t*(red t b).2:=by
 obtain⟨h1,h2⟩:=qF (t:=t) h;generalize (red t b).1=x at *
 generalize (red t b).2=y at *
 generalize dvr t b=g at *
 subst h1 h2;grind
theorem iR {a g k:Int}(hg:g≠0)(h:a=g*k):k.natAbs<=a.natAbs:=by
 rw[h,Int.natAbs_mul];exact Nat.le_mul_of_pos_left _ (by lia)
theorem oB {t b:Int}(h:b≠0):(red t b).1.natAbs<=t.natAbs/\(red t b).2.natAbs<=b.natAbs:=by
 obtain⟨h1,h2⟩:=qF (t:=t) h;exact⟨iR (qK h) h1,iR (qK h) h2⟩
theorem Bu {t b:Int}(h:b≠0):(dvr t b).natAbs<=b.natAbs:=by
 have e:(dvr t b).natAbs=Int.gcd t b:=by unfold dvr gc;split<;>simp
 rw[e];exact Int.gcd_le_natAbs_right t h
theorem Mz {p q:Q2}(hp:Low p)(hq:Low q)(h:p.1*q.2=q.1*p.2):p=q:=by
 have gp:Int.gcd p.2 p.1=1:=by have:=hp.one;rw[Int.gcd_comm];unfold gc at this;lia
 have gq:Int.gcd q.2 q.1=1:=by have:=hq.one;rw[Int.gcd_comm];unfold gc at this;lia
 have d1:p.2 ∣ q.2:=by
  have:p.2 ∣ p.1*q.2:=⟨q.1,by rw[h,Int.mul_comm]⟩
  have:=Int.dvd_gcd_mul_iff_dvd_mul.mpr this;rw[gp] at this;simpa using this
 have d2:q.2 ∣ p.2:=by
  have:q.2 ∣ q.1*p.2:=⟨p.1,by rw[<- h,Int.mul_comm]⟩
  have:=Int.dvd_gcd_mul_iff_dvd_mul.mpr this;rw[gq] at this;simpa using this
 have l1:=Int.le_of_dvd (by have:=hq.pos;lia) d1;have l2:=Int.le_of_dvd (by have:=hp.pos;lia) d2;have e2:p.2=q.2:=by lia
 have e1:p.1=q.1:=by
  rw[e2] at h;exact Int.eq_of_mul_eq_mul_right (by have:=hq.pos;lia) h
 exact Prod.ext e1 e2
def plus (p q:Q2):Q2:=red (p.1*q.2+q.1*p.2) (p.2*q.2)
def minus (p q:Q2):Q2:=red (p.1*q.2 - q.1*p.2) (p.2*q.2)
def kX (p q:Q2):Q2:=red (p.1*q.1) (p.2*q.2)
def mX (p q:Q2):Q2:=red (p.1*q.2) (p.2*q.1)
theorem gF {a b:Int}(ha:1<=a)(hb:1<=b):a*b≠0:=by
 have:=Int.mul_pos (show 0 < a by lia) (show 0 < b by lia);lia
theorem mB {p q:Q2}(hp:1<=p.2)(hq:1<=q.2):Low (plus p q):=iJ (gF hp hq)
def B (n:Nat)(i:Int):Prop:=i.natAbs < 2 ^ n
structure Bd (n:Nat) (p:Q2):Prop where
 a:B n p.1
 b:B n p.2
theorem B.mono {n m:Nat}{i:Int}(h:B n i)(l:n<=m):B m i:=Nat.lt_of_lt_of_le h (Nat.pow_le_pow_right (by decide) l)
theorem B.mul {n m:Nat}{i j:Int}(h:B n i)(q:B m j):B (n+m) (i*j):=by
 unfold B at *
 rw[Int.natAbs_mul,Nat.pow_add];exact Nat.mul_lt_mul'' h q
theorem B.add {n:Nat}{i j:Int}(h:B n i)(q:B n j):B (n+1) (i+j):=by
 unfold B at *
 have:=Int.natAbs_add_le i j;rw[Nat.pow_succ];lia
theorem B.neg {n:Nat}{i:Int}(h:B n i):B n (-i):=by unfold B at *;lia
theorem B.sub {n:Nat}{i j:Int}(h:B n i)(q:B n j):B (n+1) (i - j):=by
 rw[Int.sub_eq_add_neg];exact h.add q.neg
theorem B.le {n:Nat}{i j:Int}(h:B n i)(l:j.natAbs<=i.natAbs):B n j:=Nat.lt_of_le_of_lt l h
theorem Bd.mono {n m:Nat}{p:Q2}(h:Bd n p)(l:n<=m):Bd m p:=⟨h.a.mono l,h.b.mono l⟩
theorem zG {n m:Nat}{p q:Q2}(h:Bd n p)(g:Bd m q)(hp:1<=p.2)(hq:1<=q.2):Bd (n+m+1) (plus p q):=by
 have k:=oB (t:=p.1*q.2+q.1*p.2) (gF hp hq);have a2:B (n+m) (q.1*p.2):=by rw[Nat.add_comm];exact g.a.mul h.b
 exact⟨((h.a.mul g.b).add a2).le k.1,((h.b.mul g.b).mono (Nat.le_succ _)).le k.2⟩
def Pos (l:List Q2):Prop:=∀f∈l,1<=f.2
end Mq
open Mq (Bd Bu Fn Fy Low Q2 dvr fR gF gc iJ kX mB mX oB qK red vK zG)
namespace L2
open PySem PySem.Spec PyProof.Rows
structure aY (K:Frag) (x qual:Str) (st:Stmt) (dV:Value) (f:Addr) (fd:FuncData):Prop where
 ex:∃(oc:Value) (od:Option Addr) (kV doc pm:Value) (an:Option Addr) (cdv ct:Value) (osl:Array (Option Value)),
  fd=W.fnOf x qual (eT st) (cN st) (aI st) dV kV doc pm an cdv ct/\K.lookup f=some ⟨oc,od,.func fd,osl⟩/\W.codeIn K cdv qual=true
 kp:W.keepIn K (.ref f)=true
section
variable {P:Program} {w:World} {K:Frag} {mg:Str->Option Value} {base:Heap} {CX:CXT}
theorem aY.okX {x qual:Str}{st:Stmt}{dV:Value}{f:Addr}{fd:FuncData}{N ps:List Str}{k:Nat}{sp:Sp}(F:aY K x qual st dV f fd)(S:aQ N ps (aI st))(len:∀vs H Q E,sp vs H Q E->vs.length=ps.length)(hbody:∀(cdv:Value) (A:Around) (outer:List Env) (s:Shared) (H:Hp) (vs:List V) (Q:VK) (E:XK),gQ k (A.deeper (envOfC qual (aI st) s.heap.objs.size f cdv))->sp vs H Q E->
   ∃t,PSs (Cw CX P w K mg base N qual (aI st) f cdv A outer s H E) (cN st) t/\t { nx:=fun _ H'=>Q .non H',rt:=Q } (start N vs) H):aL P w K mg base CX (k+1) f fd ps sp:=by
 obtain⟨oc,od,kV,doc,pm,an,cdv,ct,osl,rfl,lk,hcd⟩:=F.ex;exact Zl lk hcd S len fun A outer s H vs Q E hr hsp=>hbody cdv A outer s H vs Q E hr hsp
theorem aY.ok {x qual:Str}{st:Stmt}{dV:Value}{f:Addr}{fd:FuncData}{N ps:List Str}{k:Nat}{sp:Sp}(F:aY K x qual st dV f fd)(S:aQ N ps (aI st))(len:∀vs H Q E,sp vs H Q E->vs.length=ps.length)(hbody:∀(cdv:Value) (A:Around) (outer:List Env) (s:Shared) (H:Hp) (vs:List V) (Q:VK) (E:XK),gQ k (A.deeper (envOfC qual (aI st) s.heap.objs.size f cdv))->sp vs H Q E->
   ∃t,PSs (Cw CX P w K mg base N qual (aI st) f cdv A outer s H E).nox (cN st) t/\t { nx:=fun _ H'=>Q .non H',rt:=Q } (start N vs) H):aL P w K mg base CX (k+1) f fd ps sp:=
 F.okX S len fun cdv A outer s H vs Q E hr hsp=>by
  obtain⟨t,h,q⟩:=hbody cdv A outer s H vs Q E hr hsp;exact⟨t,h.nox,q⟩
theorem aY.binds {x qual:Str}{st:Stmt}{dV:Value}{f:Addr}{fd:FuncData}{ps:List Str}(F:aY K x qual st dV f fd)(h:∀(kV doc pm:Value) (an:Option Addr) (cdv ct:Value) (us:List Value),us.length=ps.length->bindArgs (W.fnOf x qual (eT st) (cN st) (aI st) dV kV doc pm an cdv ct) ⟨us,[]⟩=pure (ps.zip us)):aM K fd ps []:=by
 obtain⟨oc,od,kV,doc,pm,an,cdv,ct,osl,rfl,lk,hcd⟩:=F.ex;exact .all (h kV doc pm an cdv ct)
theorem rO {x qual:Str}{st:Stmt}{dV:Value}{f:Addr}{oc:Value}{od an:Option Addr}{osl:Array (Option Value)}{kV doc pm cdv ct:Value}(l:K.lookup f=some ⟨oc,od,.func (W.fnOf x qual (eT st) (cN st) (aI st) dV kV doc pm an cdv ct),osl⟩)(c:W.codeIn K cdv qual=true)(k:kI9 K f):aY K x qual st dV f (W.fnOf x qual (eT st) (cN st) (aI st) dV kV doc pm an cdv ct):=⟨⟨oc,od,kV,doc,pm,an,cdv,ct,osl,rfl,l,c⟩,k⟩
end
abbrev fT (p:Q2):HO:=.tup [.int p.1,.int p.2]
def Fq (K:Frag)(H:Hp)(a:Addr)(p:Q2):Prop:=SqT K H a [.int p.1,.int p.2]
theorem aV.seqT {K:Frag}{H H':Hp}{a:Addr}{xs:List V}(e:aV H H')(h:SqT K H a xs):SqT K H' a xs:=by
 rcases h with (h | ⟨o,h⟩) | h
 ·exact .inl (.inl (e _ _ h))
 ·exact .inl (.inr ⟨o,e _ _ h⟩)
 ·exact .inr h
theorem aG {H:Hp}{p:Addr}(h:H p=none)(o:HO):aV H (upd H p o):=fun b u q=>by rw[aU (bF q h)];exact q
theorem aV.fq {K:Frag}{H H':Hp}{a:Addr}{p:Q2}(e:aV H H')(h:Fq K H a p):Fq K H' a p:=e.seqT h
theorem Fq.of {K:Frag}{H:Hp}{a:Addr}{p:Q2}(h:H a=some (fT p)):Fq K H a p:=SqT.of h
theorem dR {K:Frag}{σ:St}{H:Hp}{i:Nat}{a:Addr}{p:Q2}{Q:VK}(hv:σ[i]?=some (some (.ref a)))(h:Fq K H a p)(q:Q (.int p.1) H):tOp (Qz K) (Sy i) (tC (.int 0)) σ H Q:=
 ⟨_,hv,a,_,_,_,rfl,rfl,h,rfl,q⟩
theorem cI {K:Frag}{σ:St}{H:Hp}{i:Nat}{a:Addr}{p:Q2}{Q:VK}(hv:σ[i]?=some (some (.ref a)))(h:Fq K H a p)(q:Q (.int p.2) H):tOp (Qz K) (Sy i) (tC (.int 1)) σ H Q:=
 ⟨_,hv,a,_,_,_,rfl,rfl,h,rfl,q⟩
theorem cH {H:Hp}{n m:Nat}{i j:Int}{Q:VK}(h1:Mq.B n i)(h2:Mq.B m j)(h3:n<=1048576)(h4:m<=1048576)(q:Q (.int (i*j)) H):rI Tc (fun i j=>.int (i*j)) (.int i) (.int j) H Q:=
 ⟨_,_,rfl,rfl,⟨n,m,h1,h2,h3,h4⟩,q⟩
theorem fP {H:Hp}{n:Nat}{i j:Int}{Q:VK}(h1:j≠0)(h2:Mq.B n j)(h3:n<=9000)(q:Q (.int (i.fdiv j)) H):rI Fi (fun i j=>.int (i.fdiv j)) (.int i) (.int j) H Q:=
 ⟨_,_,rfl,rfl,⟨h1,n,h2,h3⟩,q⟩
structure Bl (mg:Str->Option Value):Prop where
 isi:mg "isinstance"=none
 int:mg "int"=none
 bool:mg "bool"=none
 abs:mg "abs"=none
def tQ (t:Value):Prop:=t=.type "bool"\/t=.type "str"\/t=.type "NoneType"\/t=.type "tuple"\/t=.type "list"
def oP (K:Frag):Sp:=fun vs H Q _=>∃x,vs=[x]/\((∃i,x=.int i/\Q (.bl true) H)\/(∃t,mV K H x t/\tQ t/\Q (.bl false) H))
def Rh:Sp:=fun vs H Q _=>∃a b:Int,vs=[.int a,.int b]/\Q (.int (gc a b)) H
def lK (H:Hp)(Q:VK)(p:Q2):Prop:=∀a H',aV H H'->H' a=some (fT p)->Q (.ref a) H'
def gM:Sp:=fun vs H Q _=>∃(t b:Int) (n:Nat),vs=[.int t,.int b]/\b≠0/\Mq.B n b/\n<=9000/\lK H Q (red t b)
def gC (K:Frag)(f:Q2->Q2->Q2):Sp:=fun vs H Q _=>∃(a b:Addr) (p q:Q2) (n m:Nat),vs=[.ref a,.ref b]/\Fq K H a p/\Fq K H b q/\1<=p.2/\1<=q.2/\Bd n p/\Bd m q/\n+m+1<=9000/\lK H Q (f p q)
inductive Fqs (K:Frag) (H:Hp):List V->List Q2->Prop where
 |nil:Fqs K H [] []
 |cons {a:Addr} {p:Q2} {xs:List V} {ps:List Q2} (h:Fq K H a p) (q:Fqs K H xs ps):Fqs K H (.ref a :: xs) (p :: ps)
theorem Fqs.same {K:Frag}{H H':Hp}(e:aV H H'):∀{xs:List V} {ps:List Q2},Fqs K H xs ps->Fqs K H' xs ps
 |_,_,.nil=>.nil
 |_,_,.cons h q=>.cons (e.fq h) (Fqs.same e q)
theorem Fqs.length {K:Frag}{H:Hp}:∀{xs:List V} {ps:List Q2},Fqs K H xs ps->xs.length=ps.length
 |_,_,.nil=>rfl
 |_,_,.cons _ q=>by simp[Fqs.length q]
theorem Fqs.get {K:Frag}{H:Hp}:∀{xs:List V} {ps:List Q2} {i:Nat} {x:V},Fqs K H xs ps->xs[i]?=some x->∃a p,x=.ref a/\ps[i]?=some p/\Fq K H a p
 |_,_,_,_,.nil,h=>by simp at h
 |_,_,0,_,.cons h _,e=>by simp at e;exact⟨_,_,e.symm,rfl,h⟩
 |_,_,i+1,_,.cons _ q,e=>by simpa using Fqs.get q (by simpa using e)
theorem Fqs.app {K:Frag}{H:Hp}:∀{xs ys:List V} {ps qs:List Q2},Fqs K H xs ps->Fqs K H ys qs->Fqs K H (xs++ys) (ps++qs)
 |_,_,_,_,.nil,r=>r
 |_,_,_,_,.cons h q,r=>.cons h (Fqs.app q r)
theorem Fq.upd {K:Frag}{H:Hp}{a l:Addr}{p:Q2}{xs:List V}{o:HO}(h:Fq K H a p)(hl:H l=some (.lst xs)):Fq K (L2.upd H l o) a p:=by
 rcases h with (h | ⟨u,h⟩) | h
 ·exact .inl (.inl (by rw[aU (fM h hl (fun z=>by cases z))];exact h))
 ·exact .inl (.inr ⟨u,by rw[aU (fM h hl (fun z=>by cases z))];exact h⟩)
 ·exact .inr h
theorem Fqs.upd {K:Frag}{H:Hp}{l:Addr}{ys:List V}{o:HO}(hl:H l=some (.lst ys)):∀{xs:List V} {ps:List Q2},Fqs K H xs ps->Fqs K (L2.upd H l o) xs ps
 |_,_,.nil=>.nil
 |_,_,.cons h q=>.cons (h.upd hl) (Fqs.upd hl q)
theorem aV.change {H H':Hp}{l:Addr}{o:HO}(s:aV H H')(h:H l=none):aV H (L2.upd H' l o):=fun b u q=>by
 rw[aU (bF q h)];exact s b u q
def qd (p:Q2):PyData:=.tuple [.int p.1,.int p.2]
theorem Fq.dat {K:Frag}{H:Hp}{a:Addr}{p:Q2}(h:Fq K H a p):qZ K H (.ref a) (qd p):=.tup h (.cons (.int _) (.cons (.int _) .nil))
theorem Fqs.dat {K:Frag}{H:Hp}:∀{xs:List V} {ps:List Q2},Fqs K H xs ps->tO K H xs (ps.map qd)
 |_,_,.nil=>.nil
 |_,_,.cons h q=>.cons h.dat (Fqs.dat q)
theorem Dz (p:Q2):(qd p).canLay0=true:=rfl
theorem rL:∀ps:List Q2,PyData.canLayAll0 (ps.map qd)=true
 | []=>rfl
 |p :: r=>by
  show ((qd p).canLay0 && PyData.canLayAll0 (r.map qd))=true;rw[Dz,rL r];rfl
theorem zP (p:Q2):(qd p).depth<=1:=by simp[qd,PyData.depth,PyData.depthAll]
theorem wU:∀ps:List Q2,PyData.depthAll (ps.map qd)<=1
 | []=>by simp[PyData.depthAll]
 |p :: r=>by
  have a:=zP p;have b:=wU r;simp only[map_cons,PyData.depthAll];lia
theorem Ck (ps:List Q2):(PyData.list (ps.map qd)).depth<=2:=by
 have:=wU ps;simp only[PyData.depth];lia
theorem Xz (p q:Q2):PyData.eqv (qd p) (qd q)=decide (p=q):=by
 unfold qd;simp only[PyData.eqv,PyData.eqvAll]
 by_cases h:p=q
 ·subst h;simp
 ·rw[decide_eq_false h]
  by_cases h1:p.1=q.1
  ·have h2:p.2≠q.2:=fun z=>h (Prod.ext h1 z);simp[h2]
  ·simp[h1]
theorem xD {K:Frag}{H:Hp}{a b:Addr}{p q:Q2}{neg:Bool}{Q:VK}(h1:Fq K H a p)(h2:Fq K H b q)(z:Q (.bl (if neg then !decide (p=q) else decide (p=q))) H):Ht K neg (.ref a) (.ref b) H Q:=by
 refine⟨_,_,h1.dat,h2.dat,Dz p,Dz q,?_,?_⟩
 ·have:=zP p;lia
 ·rw[Xz];exact z
theorem Wf {K:Frag}{H:Hp}{a b:Addr}{xs ys:List V}{ps:List Q2}{neg:Bool}{Q:VK}(h1:SqL K H a xs)(h2:SqL K H b ys)(f1:Fqs K H xs ps)(f2:Fqs K H ys ps)(z:Q (.bl (!neg)) H):Ht K neg (.ref a) (.ref b) H Q:=by
 refine⟨_,_,.lst h1 f1.dat,.lst h2 f2.dat,?_,?_,?_,?_⟩
 ·exact rL ps
 ·exact rL ps
 ·have:=Ck ps;lia
 ·have e:PyData.eqv (.list (ps.map qd)) (.list (ps.map qd))=true:=PySem.SeqAt.eqv_refl _ (rL ps);rw[e]
  cases neg<;>exact z
abbrev Hb (nl:Nat)(fr:List Nat)(g:TG)(tt:TT)(te:TE)(σ:St)(D:Addr)(Pv:Nat->List V->Hp->Prop)(i:Nat)(ys:List V)(x:V)(H:Hp):Prop:=
 g x (σC nl fr σ) H fun σ2 H4=>σ2.length=(σC nl fr σ).length/\(∀(i:Nat) v,(σC nl fr σ)[i]?=some (some v)->σ2[i]?=some (some v))/\
  tt σ2 H4 fun b H5=>if b=true then te σ2 H5 fun y H6=>H6 D=some (.lst ys)/\ys.length < sizeLine/\Pv (i+1) (ys++[y]) (upd H6 D (.lst (ys++[y]))) else Pv (i+1) ys H5
section
variable {nl:Nat} {fr:List Nat} {g:TG} {tt:TT} {te:TE} {σ:St} {D:Addr} {H1:Hp} {Q:VK}
theorem oG {lo:Int}{n:Nat}(Pv:Nat->List V->Hp->Prop)(h0:Pv 0 [] (upd H1 D (.lst [])))(hl:∀i ys H,Pv i ys H->H D=some (.lst ys))(hs:∀i ys H,i < n->Pv i ys H->∀(C:Nat->List V->Hp->Prop),(∀ys H,Pv (i+1) ys H->C (i+1) ys H)->Hb nl fr g tt te σ D C i ys (.int (lo+i)) H)(hd:∀ys H,Pv n ys H->Q (.ref D) H) :
  Ba (Itr lo n) nl fr g tt te σ D H1 Q:=by
 refine⟨fun i m ys H=>m=n - i/\i<=n/\Pv i ys H,⟨n,by simp,Nat.zero_le _,h0⟩,?_⟩;rintro i m ys H ⟨rfl,hi,p⟩;refine⟨hl i ys H p,?_⟩
 by_cases hlt:i < n
 ·refine .inr ⟨hlt,fun x H' y=>?_⟩;obtain⟨e,y⟩:=y;subst e y;exact hs i ys _ hlt p (fun j zs Hz=>∃m',m' < n - i/\m'=n - j/\j<=n/\Pv j zs Hz) fun zs Hz z=>⟨n - (i+1),by lia,rfl,hlt,z⟩
 ·have e:i=n:=by lia
  subst e;exact .inl ⟨Nat.le_refl _,hd ys H p⟩
theorem dE {K:Frag}{a:Addr}{xs:List V}(Pv:Nat->List V->Hp->Prop)(h0:Pv 0 [] (upd H1 D (.lst [])))(hl:∀i ys H,Pv i ys H->H D=some (.lst ys))(hx:∀i ys H,i<=xs.length->Pv i ys H->SqL K H a xs)(hs:∀i ys x H,xs[i]?=some x->Pv i ys H->∀(C:Nat->List V->Hp->Prop),(∀ys H,Pv (i+1) ys H->C (i+1) ys H)->Hb nl fr g tt te σ D C i ys x H)(hd:∀ys H,Pv xs.length ys H->Q (.ref D) H) :
  Ba (Itl K a) nl fr g tt te σ D H1 Q:=by
 refine⟨fun i m ys H=>m=xs.length - i/\i<=xs.length/\Pv i ys H,⟨xs.length,by simp,Nat.zero_le _,h0⟩,?_⟩;rintro i m ys H ⟨rfl,hi,p⟩;refine⟨hl i ys H p,?_⟩;have q:=hx i ys H hi p
 by_cases hlt:i < xs.length
 ·refine .inr ⟨⟨xs,xs[i],q,by simp[hlt]⟩,fun x H' y=>?_⟩;obtain⟨e,y⟩:=y;subst e;exact hs i ys x _ (y xs q) p (fun j zs Hz=>∃m',m' < xs.length - i/\m'=xs.length - j/\j<=xs.length/\Pv j zs Hz) fun zs Hz z=>⟨xs.length - (i+1),by lia,rfl,hlt,z⟩
 ·have e:i=xs.length:=by lia
  subst e;exact .inl ⟨⟨xs,q,Nat.le_refl _⟩,hd ys H p⟩
end
theorem dD {fr:List Nat}{σ:St}{x:V}:((σC 1 fr σ).set 0 (some x)).length=(σC 1 fr σ).length/\∀(i:Nat) v,(σC 1 fr σ)[i]?=some (some v)->((σC 1 fr σ).set 0 (some x))[i]?=some (some v):=by
 refine⟨by simp,fun i v h=>?_⟩
 match i with
 |0=>unfold σC at h;simp at h
 |k+1=>rw[getElem?_set_ne (by lia)];exact h
theorem eP {names:List (Str × NameKind)}{cl:List (Str × Addr)}(h:names.all (fun y=>!(y.2 == .cell || y.2 == .free) || (cl.lookup y.1).isSome)=true)(x:Str)(hx:names.lookup x=some .cell\/names.lookup x=some .free):∃c,cl.lookup x=some c:=by
 have key:∀k,(k=NameKind.cell\/k=NameKind.free)->names.lookup x=some k->∃c,cl.lookup x=some c:=fun k hk e=>by
  have m:=all_eq_true.mp h _ (PySem.mem_of_lookup e);have:(k == NameKind.cell || k == NameKind.free)=true:=by rcases hk with rfl | rfl<;>rfl
  simp only[this,Bool.not_true,Bool.false_or] at m;exact Option.isSome_iff_exists.mp m
 rcases hx with e | e
 ·exact key _ (.inl rfl) e
 ·exact key _ (.inr rfl) e
section
variable {X:Cx} {pins:List (Addr × Obj)} {σ:St} {H:Hp} {s:Shared} {h':Heap}
theorem Inv.turnedL {t':Nat}{fp:List Addr}(I:Inv X pins σ H s)(k:∀b o,b∉fp->s.heap.get? b=some o->h'.get? b=some o)(hf:∀b∈fp,mU X pins H b):Inv X pins σ H { s with heap:=h',toks:=t' }:=by
 have nit:∀b u,H b=some u->b∉fp:=fun b u e z=>by rw[(hf b z).1] at e;cases e
 have nL:X.env.locals∉fp:=fun z=>(hf _ z).2.1 rfl;refine I.step (g':=s.gens) (d':=s.drawn) (ch:=fp) (fun b hb=>?_) (fun b o _ _ hc e _=>k b o hc e) (fun b o _ _ hc e _=>⟨o.slots,k b o hc e⟩) (fun _ _ _ _ n=>n)
  (fun b o hc e=>⟨o,k b o hc e⟩) (fun _ _ e=>e) (fun _ _ _ e=>e) (fun b ps e=>⟨#[],by rw[e];simp⟩) (fun m hm=>?_) (fun b u e=>?_) I.bare
 ·obtain⟨f0,f1,f2,f3,f4,f5⟩:=hf b hb;exact⟨f3,f1,f4,f5⟩
 ·obtain⟨o,es,ep,ho,r⟩:=hm;exact⟨o,es,ep,k _ o nL ho,r⟩
 ·refine(I.hok b u e).stay (fun c v hc q=>k c v ?_ q) (fun _ q=>q) fun _ _ q=>q;rcases hc with z | z
  ·rw[z];exact nit b u e
  ·exact nit c _ z
end
def Itz (K : Frag)(a b : Addr) : It :=
  ⟨fun i H => ∃ xs ys x y, SqL K H a xs /\ SqL K H b ys /\ xs[i]? = some x /\ ys[i]? = some y,
   fun i H v H' => ∃ T x y, v = .ref T /\ H T = none /\ H' = upd H T (.tup [x, y]) /\ ∀ xs ys, SqL K H a xs -> SqL K H b ys -> xs[i]? = some x /\ ys[i]? = some y,
   fun i H => ∃ xs ys, SqL K H a xs /\ SqL K H b ys /\ (xs.length <= i \/ ys.length <= i)⟩
def Yq (z TI TO i1 i2 l1 l2:Addr)(i:Nat)(h:Heap):Prop:=
 ZipApart z TI TO i1 i2 l1 l2/\IsZip h z TI TO .none/\IsPair h TI (.ref i1) (.ref i2)/\(∃a b,IsPair h TO a b)/\h.IsListIter i1 l1 i/\h.IsListIter i2 l2 i
theorem Ng {P:Program}{w:World}{K:Frag}{elts:List Expr}{kk:Nat}{tpos:Pos}(z TI TO i1 i2 l1 l2:Addr) :
  Jd P w K (.Tuple elts kk tpos) (Itz K l1 l2) [z,TI,TO,i1,i2] z (Yq z TI TO i1 i2 l1 l2) where
 mem:=by simp
 obj:=fun i h st b hb=>by
  obtain⟨ap,hz,hi,⟨a,c,ho⟩,⟨o1,e1,c1,d1⟩,⟨o2,e2,c2,d2⟩⟩:=st;simp only[mem_cons,not_mem_nil,or_false] at hb;rcases hb with rfl | rfl | rfl | rfl | rfl
  ·exact⟨_,hz,fun v q=>by cases q⟩
  ·exact⟨_,hi,fun v q=>by cases q⟩
  ·exact⟨_,ho,fun v q=>by cases q⟩
  ·exact⟨o1,e1,fun v q=>by rw[d1] at q;cases q⟩
  ·exact⟨o2,e2,fun v q=>by rw[d2] at q;cases q⟩
 keep:=fun i h h' st k=>by
  obtain⟨ap,hz,hi,⟨a,c,ho⟩,⟨o1,e1,c1,d1⟩,⟨o2,e2,c2,d2⟩⟩:=st;exact⟨ap,k _ (by simp) _ hz,k _ (by simp) _ hi,⟨a,c,k _ (by simp) _ ho⟩,⟨o1,k _ (by simp) _ e1,c1,d1⟩,⟨o2,k _ (by simp) _ e2,c2,d2⟩⟩
 item:=by
  intro X hP hw hK hc i pins s σ H E I hf st hg;subst hP hw hK;obtain⟨ap,hz,hi,⟨a,c,ho⟩,t1,t2⟩:=st;obtain⟨xs,ys,x,y,hx,hy,ex,ey⟩:=hg;obtain⟨its1,rv1,p1,z1⟩:=I.list hx;obtain⟨its2,rv2,p2,z2⟩:=I.list hy;obtain⟨u1,hu1,ru1⟩:=rv1.get ex;obtain⟨u2,hu2,ru2⟩:=rv2.get ey;refine wpAny_pyNext_zip_item ap hz hi ho t1 t2 p1.isList p2.isList (x:=u1) (y:=u2) (by simpa using hu1) (by simpa using hu2) fun h' g1 g2 g3 g4 g5 g6 kk'=>?_;have hn:H s.heap.objs.size=none:=I.hok.fresh (Nat.le_refl _);have lt:∀b∈[z,TI,TO,i1,i2],b < s.heap.objs.size:=fun b hb=>by
   simp only[mem_cons,not_mem_nil,or_false] at hb;obtain⟨o1,e1,_⟩:=t1;obtain⟨o2,e2,_⟩:=t2;rcases hb with rfl | rfl | rfl | rfl | rfl
   ·exact Heap.lt_size hz
   ·exact Heap.lt_size hi
   ·exact Heap.lt_size ho
   ·exact Heap.lt_size e1
   ·exact Heap.lt_size e2
  have I1:Inv X pins σ (upd H s.heap.objs.size (.tup [x,y])) { s with heap:=s.heap.push { cls:=.type "tuple",data:=.seq #[u1,u2] } }:=
   I.laid (t':=s.toks) (fun b o e=>Heap.get?_push_of_some _ e) (Nat.le_refl _) (show eI X.prog X.w _ _ _ (.tup [x,y]) from ⟨zl9 2,[u1,u2],.cons ru1 (.cons ru2 .nil),IsTup.new _ _⟩)
  have hf1:∀b∈[z,TI,TO,i1,i2],mU X pins (upd H s.heap.objs.size (.tup [x,y])) b:=fun b hb=>⟨by rw[aU (Nat.ne_of_lt (lt b hb))];exact(hf b hb).1,(hf b hb).2⟩
  have k1:∀b o,b∉[z,TI,TO,i1,i2]->(s.heap.push { cls:=.type "tuple",data:=.seq #[u1,u2] }).get? b=some o->h'.get? b=some o:=fun b o nb e=>by
   simp only[mem_cons,not_mem_nil,or_false,not_or] at nb
   by_cases hb:b=s.heap.objs.size
   ·subst hb;rw[Heap.get?_push_size _ rfl] at e
    cases e
    exact g5
   ·have e0:s.heap.get? b=some o:=by rw[Heap.get?_push_ne _ _ _ hb] at e;exact e
    exact kk' b o nb.1 nb.2.2.1 nb.2.2.2.1 nb.2.2.2.2 e0
  have I2:Inv X pins σ (upd H s.heap.objs.size (.tup [x,y])) { s with heap:=h',toks:=s.toks }:=I1.turnedL (t':=s.toks) k1 hf1;refine⟨_,rfl,wpAny_letOwnedTupleGo_zip (s:={ s with heap:=h' }) g1 fun h2 q1 q2=>?_⟩;have kz:∀b o,b≠z->h'.get? b=some o->h2.get? b=some o:=fun b o nb e=>(q2.2 b nb).trans e;have I3:Inv X pins σ (upd H s.heap.objs.size (.tup [x,y])) { s with heap:=h2,toks:=s.toks }:=Inv.turnedL (s:={ s with heap:=h',toks:=s.toks }) (t':=s.toks) (fp:=[z]) I2 (fun b o nb e=>kz b o (by simpa using nb) e) fun b hb=>hf1 b (by simp at hb;simp[hb]);have hTI:h'.get? TI=some { cls:=.type "tuple",data:=.seq #[.ref i1,.ref i2] }:=kk' TI _ ap.TIz ap.TITO ap.TIi1 ap.TIi2 hi;obtain⟨o3,e3,c3,d3⟩:=g3;obtain⟨o4,e4,c4,d4⟩:=g4;refine⟨.ref s.heap.objs.size,_,I3,rfl,⟨_,x,y,rfl,hn,rfl,fun xs' ys' h1 h2=>?_⟩,⟨ap,q1,kz _ _ ap.TIz hTI,⟨_,_,kz _ _ ap.TOz g2⟩,⟨o3,kz _ _ ap.i1z e3,c3,d3⟩,⟨o4,kz _ _ ap.i2z e4,c4,d4⟩⟩,fun b hb=>(hf1 b hb).1⟩;rw[I.list_inj h1 hx,I.list_inj h2 hy];exact⟨ex,ey⟩
 done:=by
  intro X hP hw hK hc i pins s σ H E I hf st hg;subst hP hw hK;obtain⟨ap,hz,hi,⟨a,c,ho⟩,t1,t2⟩:=st;obtain⟨xs,ys,hx,hy,hor⟩:=hg;obtain⟨its1,rv1,p1,z1⟩:=I.list hx;obtain⟨its2,rv2,p2,z2⟩:=I.list hy;have l1':=rv1.length;have l2':=rv2.length;refine wpAny_pyNext_zip_end (I.ok.hd hc) ap hz hi ho t1 t2 p1.isList p2.isList (by rcases hor with h | h;left;simp;lia;right;simp;lia) fun h' kk'=>⟨rfl,?_⟩
  refine I.turnedL (t':=s.toks) (fun b o nb e=>?_) hf;simp only[mem_cons,not_mem_nil,or_false,not_or] at nb;exact kk' b o nb.1 nb.2.2.1 nb.2.2.2.1 nb.2.2.2.2 e
 self:=fun A i s Q E st h=>by
  obtain⟨ap,hz,hi,⟨a,c,ho⟩,t1,t2⟩:=st;exact wpAny_pyIter_zip hz h
section
variable {X:Cx}
def qe2 (K:Frag)(ta:TA):TI:=fun σ H R=>ta σ H fun vs H1=>∃a b,vs=[.ref a,.ref b]/\(∃xs,SqL K H1 a xs)/\(∃ys,SqL K H1 b ys)/\R (Itz K a b) H1
theorem nU {e1 e2:Expr}{ta:TA}{p pos:Pos}{elts:List Expr}{kk:Nat}{tpos:Pos}(hg:Gl X "zip")(hm:X.mg "zip"=none)(hv:bootBuiltins "zip"=some (.type "zip"))(ha:PA X [e1,e2] ta)(hs:starEach [e1,e2] X.env=(false,eval e1 X.env) :: starEach [e2] X.env:=by rfl)(hpl:(backTo pos (starEach [e2] X.env)).any (·.1)=false:=by rfl):PI X (.Tuple elts kk tpos) (.Call (.Name "zip" p) [e1,e2] [] pos) (qe2 X.K ta):=by
 intro pins s σ H R I h;refine Call_ (kJ I hg hm hv (PyProof.Rows.callWith_type1 (thn (ha pos pins s σ H _ I h) fun us s1 ⟨vs,H1,I1,r1,q1⟩=>?_) hs hpl));obtain⟨a,b,rfl,⟨xs,hx⟩,⟨ys,hy⟩,q⟩:=q1;obtain⟨u,w',rfl,ra,rb⟩:=Og r1
 cases (show u=Value.ref a from ra)
 cases (show w'=Value.ref b from rb)
 obtain⟨its1,rv1,p1,z1⟩:=I1.list hx;obtain⟨its2,rv2,p2,z2⟩:=I1.list hy;have la:a < s1.heap.objs.size:=by obtain⟨o,e,_⟩:=p1.isList;exact Heap.lt_size e
 have lb:b < s1.heap.objs.size:=by obtain⟨o,e,_⟩:=p2.isList;exact Heap.lt_size e
 refine call_zip_2 p1.isList p2.isList fun h' g1 g2 g3 g4 g5 g6 kk'=>?_;refine wpAny_pyIter_zip g1 ?_;have ne:∀i j:Nat,i≠j->s1.heap.objs.size+i≠s1.heap.objs.size+j:=fun i j n e=>n (Nat.add_left_cancel e);have nl:∀(c:Addr) (i:Nat),c < s1.heap.objs.size->c≠s1.heap.objs.size+i:=fun c i l e=>absurd (Nat.lt_of_lt_of_le l (Nat.le_add_right _ i)) (by rw[<- e];exact Nat.lt_irrefl _);have n0:∀j:Nat,j≠0->s1.heap.objs.size+j≠s1.heap.objs.size:=fun j n e=>n (Nat.add_left_cancel (e.trans (Nat.add_zero _).symm));refine⟨s1.heap.objs.size+4,[s1.heap.objs.size+4,s1.heap.objs.size+2,s1.heap.objs.size+3,s1.heap.objs.size,s1.heap.objs.size+1],_,Itz X.K a b,H1,rfl,I1.kept (t':=s1.toks) kk',Ng _ _ _ _ _ a b,⟨?_,g1,g2,⟨_,_,g3⟩,g4,g5⟩,fun c hc=>?_,q⟩
 ·exact⟨ne 2 4 (by decide),ne 3 4 (by decide),(n0 4 (by decide)).symm,ne 1 4 (by decide),ne 2 3 (by decide),n0 2 (by decide),ne 2 1 (by decide),n0 3 (by decide),ne 3 1 (by decide),(n0 1 (by decide)).symm,
   nl a 4 la,nl a 3 la,Nat.ne_of_lt la,nl a 1 la,nl b 4 lb,nl b 3 lb,Nat.ne_of_lt lb,nl b 1 lb⟩
 ·have hle:s1.heap.objs.size<=c:=by
   simp only[mem_cons,not_mem_nil,or_false] at hc;rcases hc with rfl | rfl | rfl | rfl | rfl<;>first | exact Nat.le_add_right _ _ | exact Nat.le_refl _
  exact I1.fpOk hle (I1.hok.fresh hle)
theorem rD {K:Frag}{a b:Addr}{xs ys:List V}{g:TG}{tb:TS}{D:lH}{σ:St}{H:Hp}(Pv:Nat->St->Hp->Prop)(h0:Pv 0 σ H)(hl:∀i σ H,i<=min xs.length ys.length->Pv i σ H->SqL K H a xs/\SqL K H b ys)(hs:∀i x y σ H T,xs[i]?=some x->ys[i]?=some y->Pv i σ H->H T=none->g (.ref T) σ (upd H T (.tup [x,y])) fun σ2 H2=>tb { D with nx:=Pv (i+1),ct:=Pv (i+1),bk:=D.nx } σ2 H2)(hd:∀σ H,Pv (min xs.length ys.length) σ H->D.nx σ H) :
  ∃W:Nat->Nat->St->Hp->Prop,(∃m,W 0 m σ H)/\∀i m σ H,W i m σ H->
   ((Itz K a b).stop i H/\D.nx σ H)\/((Itz K a b).go i H/\∃N:St->Hp->Prop,(∀σ' H',N σ' H'->∃m',m' < m/\W (i+1) m' σ' H')/\∀x H',(Itz K a b).yld i H x H'->g x σ H' fun σ2 H2=>tb { D with nx:=N,ct:=N,bk:=D.nx } σ2 H2):=by
 refine⟨fun i m σ H=>m=min xs.length ys.length - i/\i<=min xs.length ys.length/\Pv i σ H,⟨_,rfl,Nat.zero_le _,h0⟩,?_⟩;rintro i m σ H ⟨rfl,hi,p⟩;obtain⟨qx,qy⟩:=hl i σ H hi p
 by_cases hlt:i < min xs.length ys.length
 ·have hx:i < xs.length:=by lia
  have hy:i < ys.length:=by lia
  refine .inr ⟨⟨xs,ys,xs[i],ys[i],qx,qy,by simp[hx],by simp[hy]⟩,Pv (i+1),fun σ' H' p'=>⟨min xs.length ys.length - (i+1),by lia,rfl,hlt,p'⟩,fun v H' z=>?_⟩;obtain⟨T,x,y,rfl,hT,rfl,hh⟩:=z;obtain⟨ex,ey⟩:=hh xs ys qx qy;exact hs i x y σ H T ex ey p hT
 ·have e:i=min xs.length ys.length:=by lia
  subst e;exact .inl ⟨⟨xs,ys,qx,qy,by lia⟩,hd σ H p⟩
theorem sI {K:Frag}{a b:Addr}{xs ys:List V}{nl:Nat}{fr:List Nat}{g:TG}{tt:TT}{te:TE}{σ:St}{D:Addr}{H1:Hp}{Q:VK}(Pv:Nat->List V->Hp->Prop)(h0:Pv 0 [] (upd H1 D (.lst [])))(hl:∀i zs H,Pv i zs H->H D=some (.lst zs))(hx:∀i zs H,i<=min xs.length ys.length->Pv i zs H->SqL K H a xs/\SqL K H b ys)(hs:∀i zs x y H T,xs[i]?=some x->ys[i]?=some y->Pv i zs H->H T=none->∀(C:Nat->List V->Hp->Prop),(∀zs H,Pv (i+1) zs H->C (i+1) zs H)->Hb nl fr g tt te σ D C i zs (.ref T) (upd H T (.tup [x,y])))(hd:∀zs H,Pv (min xs.length ys.length) zs H->Q (.ref D) H) :
  Ba (Itz K a b) nl fr g tt te σ D H1 Q:=by
 refine⟨fun i m zs H=>m=min xs.length ys.length - i/\i<=min xs.length ys.length/\Pv i zs H,⟨_,rfl,Nat.zero_le _,h0⟩,?_⟩;rintro i m zs H ⟨rfl,hi,p⟩;refine⟨hl i zs H p,?_⟩;obtain⟨qx,qy⟩:=hx i zs H hi p
 by_cases hlt:i < min xs.length ys.length
 ·have hx':i < xs.length:=by lia
  have hy':i < ys.length:=by lia
  refine .inr ⟨⟨xs,ys,xs[i],ys[i],qx,qy,by simp[hx'],by simp[hy']⟩,fun v H' z=>?_⟩;obtain⟨T,x,y,rfl,hT,rfl,hh⟩:=z;obtain⟨ex,ey⟩:=hh xs ys qx qy;exact hs i zs x y H T ex ey p hT (fun j zs Hz=>∃m',m' < min xs.length ys.length - i/\m'=min xs.length ys.length - j/\j<=min xs.length ys.length/\Pv j zs Hz) fun zs Hz z=>⟨min xs.length ys.length - (i+1),by lia,rfl,hlt,z⟩
 ·have e:i=min xs.length ys.length:=by lia
  subst e;exact .inl ⟨⟨xs,ys,qx,qy,by lia⟩,hd zs H p⟩
def Ru:V->List V->Hp->VK->Prop:=fun x vs H Q=>∃(l:Addr) (xs:List V) (k:Nat) (i:Int) (y:V),x=.ref l/\vs=[.int i,y]/\i=(k:Int)/\k<=xs.length/\H l=some (.lst xs)/\xs.length < sizeLine/\Q .non (upd H l (.lst (xs.take k++y :: xs.drop k)))
theorem mL:MtM X "list.insert" Ru:=by
 intro pins s σ H x vs v us Q I rx rv h;obtain⟨l,xs,k,i,y,rfl,rfl,hik,hk,hH,hz,q⟩:=h
 cases rx
 obtain⟨u1,u2,rfl,⟨t,rfl⟩,ru⟩:=Og rv;obtain⟨z,its,n,r,hl,e⟩:=I.lstM hH;have hs:sizeLine=16777216:=sizeLine_eq;have hfit:¬(!Builtin.List.listFitsIndex i)=true:=by
  rw[fitsIndex_both (by lia) (by lia)];exact Bool.false_ne_true
 have hM:=AutoSeq1.list_insert_list_int_val_1 l its.toArray n i t u2 hfit (by rw[size_toArray];lia);refine call_meets F.slot_list_insert ⟨_,e,rfl⟩ F.entry_list_insert (F.args_list_insert_3 (Value.ref l) (Value.int i t) u2) hM ⟨e,?_⟩;refine⟨.non,_,I.lset (its':=its.take k++u2 :: its.drop k) hH e ?_ ((r.take k).append (.cons ru (r.drop k))) ?_,rfl,q⟩
 ·have ek:(if i < 0 then (i+(its.toArray.size:Int)).toNat else min i.toNat its.toArray.size)=k:=by
   rw[if_neg (by lia),size_toArray];lia
  show (its.toArray.extract 0 (if i < 0 then (i+(its.toArray.size:Int)).toNat else min i.toNat its.toArray.size)).push u2++its.toArray.extract (if i < 0 then (i+(its.toArray.size:Int)).toNat else min i.toNat its.toArray.size)=_;rw[ek];apply Array.ext';simp[take_of_length_le]
 ·rw[List.length_append,length_cons,length_take,length_drop];lia
end
abbrev TH:=Addr->Value->Option Addr->lH->St->Hp->Prop
section
variable {X:Cx}
theorem vO:OpR X (compareOp .IsNot) (fun x y H Q=>∃b c,x=.bl b/\y=.bl c/\Q (.bl (b != c)) H):=by
 intro pins s σ H x y v u Q I rx ry h;obtain⟨b,c,rfl,rfl,q⟩:=h
 cases rx;cases ry
 exact isnot_bool ⟨.bl (b != c),H,I,rfl,q⟩
end
end L2
namespace Mq
theorem dX {p q:Q2}(hp:1<=p.2)(hq:1<=q.2):Low (minus p q):=iJ (gF hp hq)
theorem Ih {p q:Q2}(hp:1<=p.2)(hq:1<=q.2):Low (kX p q):=iJ (gF hp hq)
theorem oZ {p q:Q2}(hp:1<=p.2)(hq:q.1≠0):p.2*q.1≠0:=Int.mul_ne_zero (by lia) hq
theorem sX {p q:Q2}(hp:1<=p.2)(hq:q.1≠0):Low (mX p q):=iJ (oZ hp hq)
theorem sV {n m:Nat}{p q:Q2}(h:Bd n p)(g:Bd m q)(hp:1<=p.2)(hq:1<=q.2):Bd (n+m+1) (minus p q):=by
 have k:=oB (t:=p.1*q.2 - q.1*p.2) (gF hp hq);have a2:B (n+m) (q.1*p.2):=by rw[Nat.add_comm];exact g.a.mul h.b
 exact⟨((h.a.mul g.b).sub a2).le k.1,((h.b.mul g.b).mono (Nat.le_succ _)).le k.2⟩
theorem Pi {n m:Nat}{p q:Q2}(h:Bd n p)(g:Bd m q)(hp:1<=p.2)(hq:1<=q.2):Bd (n+m) (kX p q):=by
 have k:=oB (t:=p.1*q.1) (gF hp hq);exact⟨(h.a.mul g.a).le k.1,(h.b.mul g.b).le k.2⟩
theorem Gj {n m:Nat}{p q:Q2}(h:Bd n p)(g:Bd m q)(hp:1<=p.2)(hq:q.1≠0):Bd (n+m) (mX p q):=by
 have k:=oB (t:=p.1*q.2) (oZ hp hq);exact⟨(h.a.mul g.b).le k.1,(h.b.mul g.a).le k.2⟩
end Mq
open Mq (Gj dX oZ sV sX)
namespace L2
open PySem PySem.Spec PyProof.Rows
def Ga (K:Frag):Sp:=fun vs H Q _=>∃(a b:Addr) (p q:Q2) (n m:Nat),vs=[.ref a,.ref b]/\Fq K H a p/\Fq K H b q/\Bd n p/\Bd m q/\n+m+1<=9000/\Q (.bl (decide (p.1*q.2 < q.1*p.2))) H
inductive TyQ (K:Frag) (H:Hp):V->Value->Prop where
 |of {x:V} {t:Value} (h:mV K H x t):TyQ K H x t
 |tup {a:Addr} {xs:List V} (h:SqT K H a xs):TyQ K H (.ref a) (.type "tuple")
 |lst {a:Addr} {xs:List V} (h:SqL K H a xs):TyQ K H (.ref a) (.type "list")
section
variable {X:Cx} {pins:List (Addr × Obj)} {σ:St} {H:Hp} {s:Shared} {A:Around} {E:Value->Shared->Prop} {Q:Value->Shared->Prop} {c:Value} {b:Bool}
theorem By {x:V}{u t:Value}(I:Inv X pins σ H s)(rx:cC x u)(ty:TyQ X.K H x t)(e:W.kitOne X.K t c=some b)(h:∀tk,Q (.bool b) { s with toks:=tk }) :
  wpAny (model X.prog X.w) A (call (.builtin "isinstance") [u,c]) Q E s:=by
 cases ty with
 |of ty=>exact Iv I rx ty e h
 | @tup a xs ht=>
  cases (show u=Value.ref a from rx)
  obtain⟨its,_,p,_⟩:=I.tuple ht;obtain⟨o,h1,h2,_⟩:=p;exact W.kia_one W.kitx_tuple I.kIn ⟨o,h1,h2⟩ e (fun z=>nomatch z) h
 | @lst a xs ht=>
  cases (show u=Value.ref a from rx)
  obtain⟨its,_,p,_⟩:=I.list ht;obtain⟨o,h1,h2,_⟩:=p.isList;exact W.kia_one W.kitx_list I.kIn ⟨_,h1,h2⟩ e (fun z=>nomatch z) h
end
section
variable {X:Cx}
theorem Hv:sS X (.builtin "isinstance") (fun xs H Q=>∃x n t b,xs=[x,.ty n]/\TyQ X.K H x t/\W.kitOne X.K t (.type n)=some b/\Q (.bl b) H):=by
 intro pins s σ H vs us Q I rv h;obtain⟨x,n,t,b,rfl,ty,e,q⟩:=h;obtain⟨u,u2,rfl,r1,r2⟩:=Og rv
 cases (show u2=Value.type n from r2)
 exact By I r1 ty e fun tk=>⟨.bl b,H,I.tok tk,rfl,q⟩
theorem gH {i:Nat}{x T:Str}{T':String}{p1 p2 p3 pos:Pos}(hN:X.N[i]?=some x)(hv:Vis X.env.scope x)(b:X.mg "isinstance"=none)(b2:X.mg T=none)(g1:Gl X "isinstance")(g2:Gl X T)(hT:bootBuiltins T=some (.type T'))(hd:(x == ("__debug__":Str))=false:=by decide)(hcd:(x == ("__classdict__":Str))=false:=by decide)(hTn:T≠"__name__":=by decide)(hTd:(T == ("__debug__":Str))=false:=by decide)(he:starEach [.Name x p2,.Name T p3] X.env=(false,eval (.Name x p2) X.env) :: starEach [.Name T p3] X.env:=by rfl)(he2:starEach [.Name T p3] X.env=(false,eval (.Name T p3) X.env) :: starEach [] X.env:=by rfl)(hpl:(backTo pos (starEach [.Name T p3] X.env)).any (·.1)=false:=by rfl) :
  PE X (.Call (.Name "isinstance" p1) [.Name x p2,.Name T p3] [] pos) (fun σ H Q=>∃v t b,σ[i]?=some (some v)/\TyQ X.K H v t/\W.kitOne X.K t (.type T')=some b/\Q (.bl b) H):=by
 have h:=bN (X:=X) (pos:=pos) (p:=p1) Hv g1 b PyProof.Rows.boot_isinstance (aA (My (i:=i) (pos:=p2) hN hv hd hcd) (aA (Qi (v:=.ty T') (pos:=p3) g2 b2 hT rfl hTn hTd) aD he2) he) (by decide) (by decide) he hpl;intro pins s σ H Q I q;obtain⟨v,t,bb,h1,h2,h3,h4⟩:=q;exact h pins s σ H Q I ⟨v,h1,v,T',t,bb,rfl,h2,h3,h4⟩
end
theorem SqT.upd {K:Frag}{H:Hp}{a l:Addr}{xs ys:List V}{o:HO}(h:SqT K H a xs)(hl:H l=some (.lst ys)):SqT K (L2.upd H l o) a xs:=by
 rcases h with (h | ⟨u,h⟩) | h
 ·exact .inl (.inl (by rw[aU (fM h hl (fun z=>by cases z))];exact h))
 ·exact .inl (.inr ⟨u,by rw[aU (fM h hl (fun z=>by cases z))];exact h⟩)
 ·exact .inr h
theorem zU {K:Frag}{H:Hp}:∀ns:List Int,tO K H (ns.map V.int) (ns.map PyData.int)
 | []=>.nil
 |n :: r=>.cons (.int n) (zU r)
theorem Ah:∀ns:List Int,PyData.canLayAll0 (ns.map PyData.int)=true
 | []=>rfl
 |n :: r=>by
  show ((PyData.int n).canLay0 && PyData.canLayAll0 (r.map PyData.int))=true;rw[Ah r];rfl
theorem Ka (ns:List Int)(lo hi:Option Int):∃ms:List Int,kO (ns.map V.int) lo hi=ms.map V.int/\ms.length<=ns.length:=by
 refine⟨(ns.drop (HT.sIx (ns.map V.int).length 0 lo)).take (HT.sIx (ns.map V.int).length (ns.map V.int).length hi - HT.sIx (ns.map V.int).length 0 lo),?_,?_⟩
 ·unfold kO;rw[map_take,map_drop]
 ·rw[length_take,length_drop];lia
theorem Ml {K:Frag}{H:Hp}{a b:Addr}{ns:List Int}{neg:Bool}{Q:VK}(h1:SqL K H a (ns.map V.int))(h2:SqL K H b [])(z:Q (.bl (if neg then !ns.isEmpty else ns.isEmpty)) H):Ht K neg (.ref a) (.ref b) H Q:=by
 refine⟨_,_,.lst h1 (zU ns),.lst h2 .nil,Ah ns,rfl,?_,?_⟩
 ·have:(PyData.list []).depth<=1:=by decide
  lia
 ·cases ns<;>exact z
theorem nH {fr:List Nat}{σ:St}{x y:V}:(((σC 2 fr σ).set 0 (some x)).set 1 (some y)).length=(σC 2 fr σ).length/\∀(i:Nat) v,(σC 2 fr σ)[i]?=some (some v)->(((σC 2 fr σ).set 0 (some x)).set 1 (some y))[i]?=some (some v):=by
 refine⟨by simp,fun i v h=>?_⟩
 match i with
 |0=>unfold σC at h;simp at h
 |1=>unfold σC at h;simp at h
 |k+2=>rw[getElem?_set_ne (by lia),getElem?_set_ne (by lia)];exact h
theorem Fqs.set {K:Frag}{H:Hp}{a:Addr}{p:Q2}(h:Fq K H a p):∀{xs:List V} {ps:List Q2} (i:Nat),Fqs K H xs ps->Fqs K H (xs.set i (.ref a)) (ps.set i p)
 |_,_,_,.nil=>.nil
 |_,_,0,.cons _ q=>.cons h q
 |_,_,i+1,.cons g q=>.cons g (Fqs.set h i q)
theorem Fqs.at {K:Frag}{H:Hp}:∀{xs:List V} {ps:List Q2} {i:Nat} {p:Q2},Fqs K H xs ps->ps[i]?=some p->∃a,xs[i]?=some (.ref a)/\Fq K H a p
 |_,_,_,_,.nil,h=>by simp at h
 |_,_,0,_,.cons h _,e=>by simp at e;subst e;exact⟨_,rfl,h⟩
 |_,_,i+1,_,.cons _ q,e=>by simpa using Fqs.at q (by simpa using e)
theorem oK {n:Nat}{i:Int}(lo:-(2 ^ n:Int) < i)(hi:i < 2 ^ n):Mq.B n i:=by
 unfold Mq.B;have e:((2 ^ n:Nat):Int)=2 ^ n:=by simp
 lia
theorem zI (X:Cx):∀l:List (Int × _ × Pos),PA X (l.map fun q=>Expr.Constant (.int q.1) q.2.1 q.2.2) (fun _ H Q=>Q (l.map fun q=>V.int q.1) H)
 | []=>aD
 |q :: l=>aA (te:=tC (.int q.1)) aE (zI X l) rfl
theorem gZ {n k:Nat}(h:k < n):ixN n (k:Int)=some k:=by
 unfold ixN;rw[if_pos (by lia),if_pos (by lia)];simp
section
variable {X:Cx} {tg:Expr}
def qd6 (K:Frag):List V->Hp->VK->Prop:=fun xs H Q=>∃(p:Addr) (bs:List Bool),xs=[.ref p]/\SqL K H p (bs.map V.bl)/\Q (.bl (bs.all id)) H
theorem oY (hc:X.calm=true):sS X (.builtin "all") (qd6 X.K):=by
 intro pins s σ H xs us Q I r h;obtain⟨p,bs,rfl,hq,q⟩:=h;obtain⟨u,rfl,rx⟩:=Ai r
 cases rx
 obtain⟨its,rv,pl,hz⟩:=I.list hq;have hlen:its.toArray.size=bs.length:=by rw[size_toArray,<- rv.length,length_map]
 have hne:p≠s.heap.objs.size:=by
  obtain⟨o,e,_⟩:=pl.isList;exact Nat.ne_of_lt (Heap.lt_size e)
 refine call_all_walk (wpAny_pyIter_list pl.isList ?_);refine⟨s.heap.objs.size,_,_,_,_,_,fun i=>bs.getD i false,rfl,Walks.list (by exact I.ok.hd hc) s.heap.objs.size p hne its.toArray,⟨⟨_,Heap.get?_push_size _ rfl,rfl,rfl⟩,?_⟩,?_,?_⟩
 ·obtain⟨o,e,c⟩:=pl.isList;exact⟨o,Heap.get?_push_of_some _ e,c⟩
 ·intro i v s' Q' E' hv q';have hv':its[i]?=some v:=by simpa using hv
  have hi:i < its.length:=(List.getElem?_eq_some_iff.mp hv').1;have hb:(bs.map V.bl)[i]?=some (.bl (bs.getD i false)):=by
   rw[getElem?_map,getElem?_eq_getElem (by rw[<- hlen];simpa using hi)];simp[List.getD,getElem?_eq_getElem (show i < bs.length by rw[<- hlen];simpa using hi)]
  obtain⟨u,hu,ru⟩:=rv.get hb;have e:u=v:=by rw[hv'] at hu;cases hu;rfl
  subst e
  cases ru
  exact wpAny_truthy_bool q'
 ·intro h' tk kk;have e:(List.range its.toArray.size).all (fun i=>bs.getD i false)=bs.all id:=by
   rw[hlen,Bool.eq_iff_iff,all_eq_true,all_eq_true];constructor
   ·intro z b hb;obtain⟨i,hi,rfl⟩:=getElem_of_mem hb;have:=z i (mem_range.mpr hi);simpa[List.getD,getElem?_eq_getElem hi] using this
   ·intro z i hi;have hi':=mem_range.mp hi;have:=z bs[i] (getElem_mem hi');simpa[List.getD,getElem?_eq_getElem hi'] using this
  rw[e];refine⟨.bl _,H,I.kept (t':=tk) fun b o hb=>?_,rfl,q⟩;have hb2:b≠s.heap.objs.size:=Nat.ne_of_lt (Heap.lt_size hb);exact kk b o (by simpa using hb2) (Heap.get?_push_of_some _ hb)
end
def Oe {ι:Type}(C:ι->Addr)(m:Str)(sp:ι->Sp)(dvs:List V)(E:XK)(ta:TE)(t:TA):TE:=fun σ H Q=>ta σ H fun x H1=>∃i a dx fs,x=.ref a/\H1 a=some (.ins (C i) dx fs)/\fs.lookup m=none/\
 t σ H1 fun vs H2=>sp i (x :: (vs++dvs)) H2 Q E
section
variable {X:Cx} {ι:Type} {C f:ι->Addr} {fd:ι->FuncData} {sp:ι->Sp} {m:Str} {CX:CXT} {k:Nat} {ps:List Str} {ds:List Value} {dvs:List V} {E:XK} {o e:Expr} {es:List Expr} {ta:TE} {t:TA} {apos pos:Pos}
theorem Ae {pl:Sem Bool}(he:PE X o ta)(c:∀i,Cls X.K (C i))(hm:∀i,gL X.K (C i) m (f i))(F:∀i,aL X.prog X.w X.K X.mg X.base CX k (f i) (fd i) ps (sp i))(hr:gQ k X.A)(hb:∀i,aM X.K (fd i) ps ds)(hd:bZ dvs ds)(hx:jV CX X E)(ha:PA X (e :: es) t)(hst:starEach (e :: es) X.env=(false,eval e X.env) :: starEach es X.env:=by rfl)(hpl:(backTo pos (starEach es X.env)).any (·.1)=false:=by rfl)(ht:eval (.Call (.Attribute o m apos) (e :: es) [] pos) X.env=(do
   let ov <- eval o X.env
   standAt apos.atName
   let (f,first) <- holding [ov] (getMethod ov m pl)
   callWith pos f first (backTo pos (starEach (e :: es) X.env)) (backToKw pos (keywordEach [] X.env))):=by rfl) :
  PE X (.Call (.Attribute o m apos) (e :: es) [] pos) (Oe C m sp dvs E ta t):=by
 intro pins s σ H Q I h;refine W.methodCall_KW (pl:=pl) (thn (he pins s σ H _ I h) fun u s1 ⟨x,H1,I1,rx,i,a,dx,fs,ex,ea,l,q⟩=>?_) ht;subst ex;obtain rfl:u=Value.ref a:=rx;refine kD I1 ea (c i) (hm i) l ?_;refine W.callWith_K (first:=[.ref a]) (h₀:=X.base) I.ok.mod.kin (hm i).kp (thn (ha pos pins s1 σ H1 _ I1 q) fun us s2 ⟨vs,H2,I2,r,q2⟩=>⟨I2.kIn,?_⟩) hst hpl;exact tX (us:=.ref a :: us) (vs:=.ref a :: vs) (F i) hr (hb i) hd hx I2 (.cons rfl r) q2
theorem gA {pl:Sem Bool}(he:PE X o ta)(c:∀i,Cls X.K (C i))(hm:∀i,gL X.K (C i) m (f i))(F:∀i,aL X.prog X.w X.K X.mg X.base CX k (f i) (fd i) ps (sp i))(hr:gQ k X.A)(hb:∀i,aM X.K (fd i) ps ds)(hd:bZ dvs ds)(hx:jV CX X E)(ht:eval (.Call (.Attribute o m apos) [] [] pos) X.env=(do
   let ov <- eval o X.env
   standAt apos.atName
   let (f,first) <- holding [ov] (getMethod ov m pl)
   callWith pos f first (backTo pos (starEach [] X.env)) (backToKw pos (keywordEach [] X.env))):=by rfl) :
  PE X (.Call (.Attribute o m apos) [] [] pos) (Oe C m sp dvs E ta Vv):=by
 intro pins s σ H Q I h;refine W.methodCall_KW (pl:=pl) (thn (he pins s σ H _ I h) fun u s1 ⟨x,H1,I1,rx,i,a,dx,fs,ex,ea,l,q⟩=>?_) ht;subst ex;obtain rfl:u=Value.ref a:=rx;refine kD I1 ea (c i) (hm i) l ?_;exact W.callWith_K0 (first:=[.ref a]) I1.kIn (hm i).kp (tX (us:=[.ref a]) (vs:=[.ref a]) (F i) hr (hb i) hd hx I1 (.cons rfl .nil) q)
end
inductive Kd where
 |pc | pu | ho
 deriving DecidableEq
def Kd.wd:Kd->Str
 | .pc=>"piece"
 | .pu=>"push"
 | .ho=>"hold"
def Kd.cn:Kd->Str
 | .pc=>"Piece"
 | .pu=>"Push"
 | .ho=>"Hold"
theorem Kd.wd_inj {k j:Kd}(h:k.wd=j.wd):k=j:=by
 cases k<;>cases j<;>first | rfl | exact absurd h (by decide +kernel)
theorem fsg:¬(("start":Str) = "goal"):=by decide +kernel
theorem fsz:¬(("start":Str) = "size"):=by decide +kernel
theorem fgz:¬(("goal":Str) = "size"):=by decide +kernel
def kR (s g z:V):List (Str × V):=eX "size" z (eX "goal" g (eX "start" s []))
theorem cQ (s g z:V):(kR s g z).lookup ("start":Str)=some s:=by
 unfold kR;rw[bM,if_neg fsz,bM,if_neg fsg,bM,if_pos rfl]
theorem dA (s g z:V):(kR s g z).lookup ("goal":Str)=some g:=by
 unfold kR;rw[bM,if_neg fgz,bM,if_pos rfl]
theorem fZ (s g z:V):(kR s g z).lookup ("size":Str)=some z:=by
 unfold kR;rw[bM,if_pos rfl]
theorem dZ (s g z:V){m:Str}(h1:¬m = "start")(h2:¬m = "goal")(h3:¬m = "size"):(kR s g z).lookup m=none:=by
 unfold kR;rw[bM,if_neg h3,bM,if_neg h2,bM,if_neg h1];rfl
def Rw (CK:Kd->Addr)(H:Hp)(x:Addr)(k:Kd)(s g z:V):Prop:=∃dx,H x=some (.ins (CK k) dx (kR s g z))
theorem Rw.same {CK:Kd->Addr}{H H':Hp}{x:Addr}{k:Kd}{s g z:V}(e:aV H H')(h:Rw CK H x k s g z):Rw CK H' x k s g z:=let ⟨dx,q⟩:=h;⟨dx,e _ _ q⟩
theorem Rw.upd {CK:Kd->Addr}{H:Hp}{x l:Addr}{k:Kd}{s g z:V}{ys:List V}{o:HO}(h:Rw CK H x k s g z)(hl:H l=some (.lst ys)):Rw CK (L2.upd H l o) x k s g z:=let ⟨dx,q⟩:=h;⟨dx,by rw[aU (fM q hl (fun z=>by cases z))];exact q⟩
structure RT (K:Frag) (mg:Str->Option Value) (CR:Addr) (CK:Kd->Addr):Prop where
 cl:∀k,Cls K (CK k)
 nS:∀k,gG K (CK k) "start"
 nG:∀k,gG K (CK k) "goal"
 nZ:∀k,gG K (CK k) "size"
 t1:∀k,W.findIn K (.ref (CK k)) "__class__"=some (some (.builtin "object.__class__"))
 t2:W.specialIn K (.builtin "object.__class__") "__get__"=some (some (.builtin "getset_descriptor.__get__"))
 t3:W.takesIn K (.builtin "object.__class__")=some true
 t4:∀k,W.mroIn K (CK k) (.type "object")=some true
 isR:∀k,W.kitOne K (.ref (CK k)) (.ref CR)=some true
 isK:∀k j,W.kitOne K (.ref (CK k)) (.ref (CK j))=some (decide (k=j))
 mR:mg "Row"=some (.ref CR)
 mK:∀k,mg (Kd.cn k)=some (.ref (CK k))
section
variable {K:Frag} {mg:Str->Option Value} {CR:Addr} {CK:Kd->Addr} {H:Hp} {x:Addr} {k:Kd} {s g z:V}
theorem Rw.new {C x dx:Addr}{fs:List (Str × V)}(h1:H x=none)(h2:H dx=none)(ne:dx≠x):aV H (L2.upd (L2.upd H dx (.own x)) x (.ins C dx fs)):=fun b o e=>by
 rw[aU (bF e h1),aU (bF e h2)];exact e
end
def Fu (CK:Kd->Addr):Sp:=fun vs H Q _=>∃(x dx:Addr) (k:Kd) (s g z:V),vs=[.ref x,s,g,z]/\H x=some (.ins (CK k) dx [])/\Q .non (upd H x (.ins (CK k) dx (kR s g z)))
def jW (k:Kd):Sp:=fun vs H Q _=>∃x,vs=[x]/\Q (.str k.wd) H
def oS (k:Kd):Sp:=fun vs H Q _=>∃x,vs=[x]/\Q (.bl (decide (k≠.pu))) H
def xE (CK:Kd->Addr):Sp:=fun vs H Q _=>∃(x:Addr) (k:Kd) (s g z:V),vs=[.ref x]/\Rw CK H x k s g z/\∀t,H t=none->Q (.ref t) (upd H t (.tup [.str k.wd,s,g,z]))
def qe1 (CK:Kd->Addr)(H:Hp)(Q:VK)(k:Kd)(s g z:V):Prop:=∀x H',aV H H'->H x=none->Rw CK H' x k s g z->Q (.ref x) H'
theorem ifT {c:Bool}{A B:Prop}(h:c=true)(x:A):if c=true then A else B:=by rw[if_pos h];exact x
theorem ifF {c:Bool}{A B:Prop}(h:c=false)(x:B):if c=true then A else B:=by rw[if_neg (by rw[h];decide)];exact x
theorem cT (k j:Kd):decide (V.str k.wd=V.str j.wd)=decide (k=j):=by
 by_cases h:k=j
 ·subst h;simp
 ·rw[decide_eq_false h];exact decide_eq_false fun z=>h (Kd.wd_inj (V.str.inj z))
theorem iV {p:Kd->Prop}(a:p .pc)(b:p .pu)(c:p .ho):∀k,p k:=fun k=>by cases k<;>assumption
theorem tN (K:Frag)(t:PySem.Value):PySem.W.kitOne K t t=some true:=by unfold PySem.W.kitOne;rw[if_pos (beq_self_eq_true _)]
def kd3 {α:Type}(a b c:α):Kd->α
 | .pc=>a
 | .pu=>b
 | .ho=>c
end L2
namespace Mq
def iW (ps:List Q2):Prop:=∀p∈ps,Low p
end Mq
open Mq (iW)
namespace L2
open PySem PySem.Spec PyProof.Rows
section
variable {κ:Type} [DecidableEq κ]
def pO (kvs:List (κ × V))(k:κ):Option V:=(kvs.find? fun kv=>decide (kv.1=k)).map (·.2)
def lC (kvs:List (κ × V))(k:κ)(v:V):List (κ × V):=
 if (kvs.any fun kv=>decide (kv.1=k))=true then kvs.map (fun kv=>if kv.1=k then (kv.1,v) else kv) else kvs++[(k,v)]
theorem pI {p:κ × V}{r:List (κ × V)}{k:κ}(e:p.1=k):pO (p :: r) k=some p.2:=by simp[pO,find?_cons,e]
theorem lV {p:κ × V}{r:List (κ × V)}{k:κ}(e:¬p.1=k):pO (p :: r) k=pO r k:=by simp[pO,find?_cons,e]
theorem zS (k:κ):∀kvs:List (κ × V),(kvs.any fun kv=>decide (kv.1=k))=(pO kvs k).isSome
 | []=>rfl
 |p :: r=>by
  rw[any_cons]
  by_cases e:p.1=k
  ·simp only[pI e,decide_eq_true e,Bool.true_or,Option.isSome_some]
  ·rw[lV e,decide_eq_false e,Bool.false_or];exact zS k r
theorem lQ (kvs:List (κ × V))(k:κ)(v:V):(lC kvs k v).length<=kvs.length+1:=by
 unfold lC;split
 ·rw[length_map];lia
 ·rw[List.length_append,length_cons,length_nil];lia
theorem kP.isSome_eq {o:Option V}{u:Option Value}(r:kP o u):o.isSome=u.isSome:=by
 cases o with
 |none=>cases u with
  |none=>rfl
  |some _=>exact(show False from r).elim
 |some _=>cases u with
  |none=>exact(show False from r).elim
  |some _=>rfl
theorem kP.getD {o:Option V}{u:Option Value}{d:V}{d':Value}(r:kP o u)(rd:cC d d'):cC (o.getD d) (u.getD d'):=by
 cases o with
 |none=>cases u with
  |none=>exact rd
  |some _=>exact(show False from r).elim
 |some _=>cases u with
  |none=>exact(show False from r).elim
  |some _=>exact r
theorem KV.val {kvs:List (κ × V)}{vs:List (κ × Value)}(r:KV kvs vs)(k:κ):kP (pO kvs k) (valueAt vs k):=by
 unfold KV at r
 induction r with
 |nil=>exact True.intro
 | @cons p q ps qs h t ih=>
  obtain⟨h1,h2⟩:=h
  by_cases e:p.1=k
  ·have e':q.1=k:=h1.symm.trans e;have b:valueAt (q :: qs) k=some q.2:=by simp[valueAt,find?_cons,e']
   rw[pI e,b];exact h2
  ·have e':¬q.1=k:=fun z=>e (h1.trans z);have b:valueAt (q :: qs) k=valueAt qs k:=by simp[valueAt,find?_cons,e']
   rw[lV e,b];exact ih
theorem KV.any {kvs:List (κ × V)}{vs:List (κ × Value)}(r:KV kvs vs)(k:κ):(kvs.any fun kv=>decide (kv.1=k))=vs.any fun kv=>decide (kv.1=k):=by
 unfold KV at r
 induction r with
 |nil=>rfl
 |cons h t ih=>rw[any_cons,any_cons,ih,h.1]
theorem KV.repl {kvs:List (κ × V)}{vs:List (κ × Value)}(r:KV kvs vs)(k:κ){y:V}{u:Value}(ry:cC y u) :
  KV (kvs.map fun kv=>if kv.1=k then (kv.1,y) else kv) (vs.map fun kv=>if kv.1=k then (kv.1,u) else kv):=by
 unfold KV at r ⊢
 induction r with
 |nil=>exact .nil
 | @cons p q ps qs h t ih=>
  rw[map_cons,map_cons];refine .cons ?_ ih;obtain⟨h1,h2⟩:=h
  by_cases e:p.1=k
  ·rw[if_pos e,if_pos (h1.symm.trans e)];exact⟨h1,ry⟩
  ·rw[if_neg e,if_neg (fun z=>e (h1.trans z))];exact⟨h1,h2⟩
theorem KV.put {kvs:List (κ × V)}{vs:List (κ × Value)}(r:KV kvs vs)(k:κ){y:V}{u:Value}(ry:cC y u):KV (lC kvs k y) (stored vs k u):=by
 unfold lC stored;rw[r.any k]
 by_cases e:(vs.any fun kv=>decide (kv.1=k))=true
 ·rw[if_pos e,if_pos e];exact r.repl k ry
 ·rw[if_neg e,if_neg e];exact Paired.snoc r ⟨rfl,ry⟩
theorem KV.length {kvs:List (κ × V)}{vs:List (κ × Value)}(r:KV kvs vs):kvs.length=vs.length:=Paired.length r
end
theorem vH {P:Program}{w:World}{k:Key}{u:Value}(r:cC (kV k) u):(dY P w).is k u=true:=by
 cases k with
 |inl i=>obtain⟨t,e⟩:=(show ∃t,u=Value.int i t from r);subst e;exact Ay P w i t
 |inr x=>obtain⟨t,e⟩:=(show ∃t,u=Value.str x t from r);subst e;exact zN P w x t
theorem wK {P:Program}{w:World}:∀{ks:List Key} {us:List Value},bZ (ks.map kV) us->ItemsAre (dY P w) ks us
 | [],_,r=>by rw[map_nil] at r;cases r;exact .nil
 |k :: ks,_,r=>by
  rw[map_cons] at r
  cases r with
  |cons h t=>exact .cons (vH h) (wK t)
abbrev KT (H:Hp):List (List Key × V)->List (List Key × Addr × Value)->Prop:=Paired fun p q=>p.1=q.1/\H q.2.1=some (.tup (p.1.map kV))/\cC p.2 q.2.2
theorem KT.val {H:Hp}{kvs:List (List Key × V)}{xs:List (List Key × Addr × Value)}(r:KT H kvs xs)(k:List Key):kP (pO kvs k) ((atKey xs k).map (·.2)):=by
 induction r with
 |nil=>exact True.intro
 | @cons p q ps qs h t ih=>
  obtain⟨h1,_,h2⟩:=h
  by_cases e:p.1=k
  ·have e':q.1=k:=h1.symm.trans e;have b:atKey (q :: qs) k=some q.2:=by simp[atKey,find?_cons,e']
   rw[pI e,b];exact h2
  ·have e':¬q.1=k:=fun z=>e (h1.trans z);have b:atKey (q :: qs) k=atKey qs k:=by simp[atKey,find?_cons,e']
   rw[lV e,b];exact ih
theorem KT.repl {H:Hp}{kvs:List (List Key × V)}{xs:List (List Key × Addr × Value)}(r:KT H kvs xs)(k:List Key){y:V}{u:Value}(ry:cC y u) :
  KT H (kvs.map fun kv=>if kv.1=k then (kv.1,y) else kv) (xs.map (putAt k u)):=by
 induction r with
 |nil=>exact .nil
 | @cons p q ps qs h t ih=>
  rw[map_cons,map_cons];refine .cons ?_ ih;obtain⟨h1,h2,h3⟩:=h;unfold putAt
  by_cases e:p.1=k
  ·rw[if_pos e,if_pos (h1.symm.trans e)];exact⟨h1,h2,ry⟩
  ·rw[if_neg e,if_neg (fun z=>e (h1.trans z))];exact⟨h1,h2,h3⟩
theorem KT.put {H:Hp}{kvs:List (List Key × V)}{xs:List (List Key × Addr × Value)}(r:KT H kvs xs)(k:List Key){b:Addr}{y:V}{u:Value}(hb:H b=some (.tup (k.map kV)))(ry:cC y u) :
  KT H (lC kvs k y) (storedH xs k b u):=by
 have e:(kvs.any fun kv=>decide (kv.1=k))=(atKey xs k).isSome:=by
  rw[zS,(r.val k).isSome_eq,Option.isSome_map]
 unfold lC storedH;rw[e]
 by_cases q:(atKey xs k).isSome=true
 ·rw[if_pos q,if_pos q];exact r.repl k ry
 ·rw[if_neg q,if_neg q];exact Paired.snoc r ⟨rfl,hb,ry⟩
theorem KT.keeps {H H':Hp}{kvs:List (List Key × V)}{xs:List (List Key × Addr × Value)}(r:KT H kvs xs)(ht:∀b ys,H b=some (.tup ys)->H' b=some (.tup ys)):KT H' kvs xs:=
 Paired.mapP r fun _ _ z=>⟨z.1,ht _ _ z.2.1,z.2.2⟩
section
variable {P:Program} {w:World} {H:Hp} {h:Heap} {a:Addr}
theorem Um {u:HO}(ok:HOk P w H h)(e:Rd H a u):eI P w H h a u:=e.ok ok
theorem wL {kvs:List (Key × V)}(ok:HOk P w H h)(e:Rd H a (.dK kvs)):kvs.length<=sizeLine/\(a == sysModules)=false/\∃vs,KV kvs vs/\h.DictOf (dY P w) a vs:=
 show eI P w H h a (.dK kvs) from Um ok e
theorem Tv {kvs:List (Key × V)}(ok:HOk P w H h)(e:H a=some (.dK kvs)):kvs.length<=sizeLine/\(a == sysModules)=false/\∃vs,KV kvs vs/\h.DictOf (dY P w) a vs:=wL ok (.inl e)
theorem tJ {ks:List Key}(ok:HOk P w H h)(e:H a=some (.tup (ks.map kV))):(tupleKind (dY P w)).is h ks a:=by
 obtain⟨_,its,r,o,h1,h2,n,h3⟩:=(show eI P w H h a (.tup (ks.map kV)) from ok a _ e)
 exact⟨o,its.toArray,n,h1,h2,h3,by simpa using wK r⟩
theorem vS {kvs:List (List Key × V)}(ok:HOk P w H h)(e:Rd H a (.dT kvs)):kvs.length<=sizeLine/\(a == sysModules)=false/\
  ∃xs,KT H kvs xs/\h.DictOfH (tupleKind (dY P w)) a xs:=by
 obtain⟨z,y,xs,r,o,es,ep,h1,h2,h3,h4,h5⟩:=(show eI P w H h a (.dT kvs) from Um ok e)
 refine⟨z,y,xs,r,o,es,ep,h1,h2,h3,h4,fun x hx=>?_,h5⟩;have all:∀{l:List (List Key × V)} {m:List (List Key × Addr × Value)},KT H l m->∀x∈m,(tupleKind (dY P w)).is h x.1 x.2.1:=by
  intro l m q
  induction q with
  |nil=>intro x hx;exact nomatch hx
  | @cons p q ps qs hq t ih=>
   intro x hx;rcases mem_cons.mp hx with e | hx
   ·subst e;exact tJ ok (by rw[<- hq.1];exact hq.2.1)
   ·exact ih x hx
 exact all r x hx
theorem Zm {kvs:List (List Key × V)}(ok:HOk P w H h)(e:H a=some (.dT kvs)):kvs.length<=sizeLine/\(a == sysModules)=false/\
  ∃xs,KT H kvs xs/\h.DictOfH (tupleKind (dY P w)) a xs:=vS ok (.inl e)
end
def jK (H:Hp)(a:Addr)(y:V)(r:Option V):Prop:=
 (∃kvs k,Rd H a (.dK kvs)/\y=kV k/\r=pO kvs k)\/∃kvs k b,Rd H a (.dT kvs)/\y=.ref b/\H b=some (.tup (k.map kV))/\r=pO kvs k
def Kg (H:Hp)(a:Addr)(y v:V)(H':Hp):Prop:=
 (∃kvs k,H a=some (.dK kvs)/\y=kV k/\kvs.length < sizeLine/\H'=upd H a (.dK (lC kvs k v)))\/
 ∃kvs k b,H a=some (.dT kvs)/\y=.ref b/\H b=some (.tup (k.map kV))/\kvs.length < sizeLine/\H'=upd H a (.dT (lC kvs k v))
theorem jK.k {H:Hp}{a:Addr}{kvs:List (Key × V)}{k:Key}(e:H a=some (.dK kvs)):jK H a (kV k) (pO kvs k):=.inl ⟨kvs,k,.inl e,rfl,rfl⟩
theorem Kg.k {H:Hp}{a:Addr}{kvs:List (Key × V)}{k:Key}{v:V}(e:H a=some (.dK kvs))(hl:kvs.length < sizeLine):Kg H a (kV k) v (upd H a (.dK (lC kvs k v))):=.inl ⟨kvs,k,e,rfl,hl,rfl⟩
section
variable {X:Cx} {pins:List (Addr × Obj)} {σ:St} {H:Hp} {s:Shared} {a:Addr} {y v:V} {u r:Value} {o:Option V} {A:Around} {E:Value->Shared->Prop}
theorem Inv.big (I:Inv X pins σ H s):sysModules < s.heap.objs.size:=by
 have h:mainGlobals < s.heap.objs.size:=(I.mod.glob.keeps I.bk).lt;exact Nat.lt_trans (by decide) h
theorem Hw {Q:Value->Shared->Prop}(hu:A.units+1 < cLine)(I:Inv X pins σ H s)(g:jK H a y (some v))(ry:cC y u)(h:∀w' s',Inv X pins σ H s'->cC v w'->Q w' s') :
  wpAny (model X.prog X.w) A (getItem (.ref a) u) Q E s:=by
 rcases g with ⟨kvs,k,e,ey,l⟩ | ⟨kvs,k,b,e,ey,eb,l⟩
 ·subst ey;obtain⟨z,hd,vs,rel,dd⟩:=wL I.hok e;obtain⟨w',hw,rw'⟩:=kP.some_of (v:=v) (o:=valueAt vs k) (by rw[l];exact rel.val k);exact wpAny_getItem_of (vH ry) dd.mapOf hw (h w' _ (I.tok _) rw')
 ·subst ey
  cases (show u=Value.ref b from ry)
  obtain⟨z,hd,xs,rel,dd⟩:=vS I.hok e;obtain⟨w',hw,rw'⟩:=kP.some_of (v:=v) (o:=(atKey xs k).map (·.2)) (by rw[l];exact rel.val k);obtain⟨p,hp,hp2⟩:=Option.map_eq_some_iff.mp hw;refine wpAny_getItem_heap (tupleKind_room_in1 hu) (tJ I.hok eb) dd hp ?_;rw[hp2];exact h w' _ (I.tok _) rw'
theorem Rc {Q:Value->Shared->Prop}(hu:A.units+1 < cLine)(I:Inv X pins σ H s)(g:jK H a y o)(ry:cC y u)(h:∀s',Inv X pins σ H s'->Q (.bool (!o.isSome)) s') :
  wpAny (model X.prog X.w) A (compareOp .NotIn u (.ref a)) Q E s:=by
 rcases g with ⟨kvs,k,e,ey,l⟩ | ⟨kvs,k,b,e,ey,eb,l⟩
 ·subst ey;obtain⟨z,hd,vs,rel,dd⟩:=wL I.hok e;refine wpAny_notIn_of (vH ry) hd dd.mapOf ?_;rw[<- (rel.val k).isSome_eq,<- l];exact h _ (I.tok _)
 ·subst ey
  cases (show u=Value.ref b from ry)
  obtain⟨z,hd,xs,rel,dd⟩:=vS I.hok e;refine wpAny_notIn_heap (tupleKind_room_in1 hu) (tJ I.hok eb) hd dd ?_;have q:=(rel.val k).isSome_eq;rw[Option.isSome_map] at q;rw[<- q,<- l];exact h _ (I.tok _)
theorem xY {h':Heap}{t':Nat}{ob:HO}(I:Inv X pins σ H s)(mu:Mut (H a))(hs:Heap.SameBut a s.heap h')(he:∃q,h'.get? a=some q)(new:eI X.prog X.w (upd H a ob) h' a ob) :
  Inv X pins σ (upd H a ob) { s with heap:=h',toks:=t' }:=
 I.write (x:=a) (e:=a) mu (.inl rfl) (fun b q hb z=>(hs.2 b hb).trans z) he new
theorem Oo {P:Program}{w:World}{H':Hp}{h':Heap}{kvs:List (Key × V)}{vs:List (Key × Value)}(z:kvs.length<=sizeLine)(hd:(a == sysModules)=false)(rel:KV kvs vs)(dd:h'.DictOf (dY P w) a vs) :
  eI P w H' h' a (.dK kvs):=⟨z,hd,vs,rel,dd⟩
theorem Ij {H':Hp}{Q:Unit->Shared->Prop}(hu:A.units+1 < cLine)(I:Inv X pins σ H s)(g:Kg H a y v H')(ry:cC y u)(rv:cC v r)(h:∀s',Inv X pins σ H' s'->Q () s') :
  wpAny (model X.prog X.w) A (setItem (.ref a) u r) Q E s:=by
 rcases g with ⟨kvs,k,e,ey,l,eH⟩ | ⟨kvs,k,b,e,ey,eb,l,eH⟩
 ·subst ey eH;obtain⟨z,hd,vs,rel,dd⟩:=Tv I.hok e;have hz:vs.length<=sizeLine:=by rw[<- rel.length];exact z
  have hl:(lC kvs k v).length<=sizeLine:=by have:=lQ kvs k v;lia
  refine wpAny_setItem_pairs (hsz:=hz) (vH ry) dd fun h' dd' hs=>h _ ?_;have he:∃q,h'.get? a=some q:=let ⟨q,_,_,hq,_⟩:=dd';⟨q,hq⟩
  exact xY I (by rw[e];exact True.intro) hs he (Oo hl hd (rel.put k rv) dd')
 ·subst ey eH
  cases (show u=Value.ref b from ry)
  obtain⟨z,hd,xs,rel,dd⟩:=Zm I.hok e;have hz:xs.length<=sizeLine:=by rw[<- Paired.length rel];exact z
  have hl:(lC kvs k v).length<=sizeLine:=by have:=lQ kvs k v;lia
  refine wpAny_setItem_heap (hsz:=hz) (tupleKind_room_in1 hu) (tJ I.hok eb) dd fun h' dd' hs=>h _ ?_;obtain⟨q,es,ep,hq,h2,h3,h4,_,h5⟩:=dd';refine xY I (by rw[e];exact True.intro) hs ⟨q,hq⟩ ⟨hl,hd,_,(rel.put k eb rv).keeps fun c ys ec=>?_,q,es,ep,hq,h2,h3,h4,h5⟩;rw[aU (fM ec e (fun z=>nomatch z))];exact ec
end
def Zp (i:Expr):Prop:=∀ov iv,subscripted i false ov iv=operate [ov,iv] (getItem ov iv)
theorem Rq {prog:Program}{w:World}{A:Around}{E:Value->Shared->Prop}{s:Shared}{env:Env}{value slice:Expr}{pos:Pos}{T id:String}{Q:Value->Shared->Prop}(hl:typeLookup (.type T) "__getitem__"=pure (some (.builtin id)))(hs:Zp slice)(h:wpAny (model prog w) A (eval value env) (fun o s₁=>wpAny (model prog w) A (eval slice env) (fun i s₂=>s₂.TypeIs o T/\wpAny (model prog w) A (getItem o i) Q E s₂) E s₁) E s) :
  wpAny (model prog w) A (eval (.Subscript value slice pos) env) Q E s:=by
 refine Subscript_ (wpAny_mono h (fun o s₁ h₁=>wpAny_mono h₁ (fun i s₂ h₂=>?_) fun _ _ x=>x) fun _ _ x=>x);obtain⟨hT,h₂⟩:=h₂;unfold subscriptTail;refine wpAny_bind ?_;rw[getitemInPython_of_ne hT.not_modules];refine wpAny_bind (wpAny_specialOf hT hl ?_);have fin:wpAny (model prog w) A (subscripted slice false o i) (fun r s₃=>wpAny (model prog w) A (letTemporaryGo value o r >>= fun _=>pure r) Q E s₃) E s₂:=by
  rw[hs o i];exact wpAny_operating (wpAny_mono h₂ (fun r s₃ h₃=>wpAny_bind (wpAny_letTemporaryGo (wpAny_pure h₃))) fun _ _ x=>x)
 first
  |exact wpAny_pure (wpAny_bind fin)
  |exact wpAny_bind (wpAny_pure (wpAny_bind fin))
  |exact wpAny_bind fin
theorem zY {X:Cx}{pins:List (Addr × Obj)}{σ:St}{H:Hp}{s:Shared}{a:Addr}{y:V}{o:Option V}(I:Inv X pins σ H s)(g:jK H a y o):s.TypeIs (.ref a) "dict":=by
 rcases g with ⟨kvs,k,e,_,_⟩ | ⟨kvs,k,b,e,_,_,_⟩
 ·obtain⟨_,_,vs,_,dd⟩:=wL I.hok e;exact dd.typeIs
 ·obtain⟨_,_,xs,_,dd⟩:=vS I.hok e;exact dd.typeIs
def Yg (td ty:TE):TE:=fun σ H Q=>td σ H fun x H1=>ty σ H1 fun y H2=>∃a v,x=.ref a/\jK H2 a y (some v)/\Q v H2
def Qt (ty td:TE):TE:=fun σ H Q=>ty σ H fun y H1=>td σ H1 fun x H2=>∃a o,x=.ref a/\jK H2 a y o/\Q (.bl (!o.isSome)) H2
def Zh (td ty tv:TE):TS:=fun D σ H=>tv σ H fun v H1=>td σ H1 fun x H2=>ty σ H2 fun y H3=>∃a H4,x=.ref a/\Kg H3 a y v H4/\D.nx σ H4
section
variable {X:Cx} {o i e value:Expr} {pos pos' tpos:Pos} {td ty tv:TE}
theorem rG (hu:X.A.units+1 < cLine)(ho:PE X o td)(hi:PE X i ty)(hs:Zp i):PE X (.Subscript o i pos) (Yg td ty):=by
 intro pins s σ H Q I h;refine Rq PySem.F.slot_dict_getitem.lookup hs (thn (ho pins s σ H _ I h) fun u s1 ⟨x,H1,I1,rx,q1⟩=>thn (hi pins s1 σ H1 _ I1 q1) fun iv s2 ⟨y,H2,I2,ry,a,v,ex,g,q2⟩=>?_);subst ex;obtain rfl:u=Value.ref a:=rx;exact⟨zY I2 g,Hw hu I2 g ry fun w' s3 I3 rw'=>⟨v,H2,I3,rw',q2⟩⟩
theorem Jb (hu:X.A.units+1 < cLine)(hi:PE X i ty)(ho:PE X o td):PC X .NotIn i o (Qt ty td):=by
 intro pins s σ H Q I h;refine thn (hi pins s σ H _ I h) fun iv s1 ⟨y,H1,I1,ry,q1⟩=>thn (ho pins s1 σ H1 _ I1 q1) fun u s2 ⟨x,H2,I2,rx,a,ov,ex,g,q2⟩=>?_;subst ex;obtain rfl:u=Value.ref a:=rx;exact Rc hu I2 g ry fun s3 I3=>⟨.bl (!ov.isSome),H2,I3,rfl,q2⟩
theorem Sm (hu:X.A.units+1 < cLine)(ho:PE X o td)(hi:PE X i ty)(hv:PE X value tv)(hs:swapsWith value (some (.Subscript o i pos')) pos.line X.env=pure false) :
  PS X (.Assign [.Subscript o i pos'] value pos) (Zh td ty tv):=by
 intro pins s σ H D I h;refine wpAny_Assign_Subscript (thn (hv pins s σ H _ I h) fun r s1 ⟨v,H1,I1,rv,q1⟩=>thn (ho pins s1 σ H1 _ I1 q1) fun u s2 ⟨x,H2,I2,rx,q2⟩=>thn (hi pins s2 σ H2 _ I2 q2) fun iv s3 ⟨y,H3,I3,ry,a,H4,ex,g,q3⟩=>?_) hs;subst ex;obtain rfl:u=Value.ref a:=rx;exact Ij hu I3 g ry rv fun s4 I4=>⟨σ,H4,I4,q3⟩
end
theorem Lq {P:Program}{w:World}{H:Hp}(h:Heap)(hb:sysModules < h.objs.size):eI P w H (h.push { cls:=.type "dict",data:=.dict #[] }) h.objs.size (.dK []):=
 ⟨Nat.zero_le _,beq_eq_false_iff_ne.mpr (Ne.symm (Nat.ne_of_lt hb)),[],.nil,Heap.DictOf.new h⟩
def Bm:List (TE × TE)->St->Hp->(List (V × V)->Hp->Prop)->Prop
 | [],_,H,Q=>Q [] H
 | (tk,tv) :: r,σ,H,Q=>tk σ H fun x H1=>tv σ H1 fun y H2=>Bm r σ H2 fun ps H3=>Q ((x,y) :: ps) H3
abbrev VV:List (V × V)->List (Value × Value)->Prop:=Paired fun p q=>cC p.1 q.1/\cC p.2 q.2
def PPs (X:Cx)(pos:Pos)(keys:List (Option Expr))(values:List Expr)(trs:List (TE × TE)):Prop:=
 ∀(pins:List (Addr × Obj)) (s:Shared) (σ:St) (H:Hp) (Q:List (V × V)->Hp->Prop),Inv X pins σ H s->Bm trs σ H Q->
  wpAny (model X.prog X.w) X.A (evalPairs (pairTrees keys values X.env pos)) (fun vs s'=>∃ps H',Inv X pins σ H' s'/\VV ps vs/\Q ps H') X.xe s
theorem Gb {X:Cx}{pos:Pos}:PPs X pos [] [] []:=fun pins s σ H Q I h=>pairTrees_nil_walk ⟨[],H,I,.nil,h⟩
theorem lL {X:Cx}{pos:Pos}{k v:Expr}{ks:List (Option Expr)}{vs:List Expr}{tk tv:TE}{trs:List (TE × TE)}(hk:PE X k tk)(hv:PE X v tv)(hr:PPs X pos ks vs trs) :
  PPs X pos (some k :: ks) (v :: vs) ((tk,tv) :: trs):=fun pins s σ H Q I h=>
 pairTrees_cons_walk (thn (hk pins s σ H _ I h) fun u s1 ⟨x,H1,I1,rx,q1⟩=>thn (hv pins s1 σ H1 _ I1 q1) fun w2 s2 ⟨y,H2,I2,ry,q2⟩=>
  thn (hr pins s2 σ H2 _ I2 q2) fun ws s3 ⟨ps,H3,I3,rel,q3⟩=>⟨(x,y) :: ps,H3,I3,.cons ⟨rx,ry⟩ rel,q3⟩)
def jE (kvs more:List (Key × V)):List (Key × V):=more.foldl (fun acc kv=>lC acc kv.1 kv.2) kvs
theorem KV.merge:∀{more:List (Key × V)} {rs:List (Key × Value)} {kvs:List (Key × V)} {vs:List (Key × Value)},KV more rs->KV kvs vs->KV (jE kvs more) (merged vs rs):=by
 intro more rs kvs vs r;unfold KV at r
 induction r generalizing kvs vs with
 |nil=>intro q;exact q
 | @cons p q ps qs h t ih=>
  intro r0;have e:KV (lC kvs p.1 p.2) (stored vs q.1 q.2):=by
   have:=r0.put p.1 h.2;rw[<- h.1];exact this
  exact ih e
theorem mZ:∀(more kvs:List (Key × V)),(jE kvs more).length<=kvs.length+more.length
 | [],kvs=>by show kvs.length<=kvs.length+0;lia
 |p :: r,kvs=>by
  have h1:=mZ r (lC kvs p.1 p.2);have h2:=lQ kvs p.1 p.2;show (jE (lC kvs p.1 p.2) r).length<=_;rw[length_cons];lia
theorem tY {P:Program}{w:World}:∀{kvs:List (Key × V)} {ws:List (Value × Value)},VV (kvs.map fun kv=>(kV kv.1,kv.2)) ws->∃rs,Carries (dY P w) ws rs/\KV kvs rs
 | [],_,r=>by rw[map_nil] at r;cases r;exact⟨[],True.intro,.nil⟩
 |p :: kvs,_,r=>by
  rw[map_cons] at r
  cases r with
  | @cons a b as bs h t=>
   obtain⟨rs,c,q⟩:=tY (P:=P) (w:=w) t;obtain⟨b1,b2⟩:=b;exact⟨(p.1,b2) :: rs,⟨vH h.1,rfl,c⟩,.cons ⟨rfl,h.2⟩ q⟩
def qb1 (trs:List (TE × TE)):TE:=fun σ H Q=>∀p,H p=none->Bm trs σ (upd H p (.dK [])) fun ps H2=>H2 p=some (.dK [])/\∃kvs:List (Key × V),ps=kvs.map (fun kv=>(kV kv.1,kv.2))/\kvs.length<=15/\Q (.ref p) (upd H2 p (.dK (jE [] kvs)))
theorem Fl {X:Cx}{pos:Pos}{keys:List (Option Expr)}{values:List Expr}{trs:List (TE × TE)}(h:PPs X pos keys values trs)(hall:keys.all (·.isSome)=true)(hl:keys.length=values.length)(h0:keys≠[])(h15:keys.length<=15):PE X (.Dict keys values pos) (qb1 trs):=by
 intro pins s σ H Q I q;have hn:=I.hok.fresh (Nat.le_refl s.heap.objs.size);have I1:=I.laid (a:=s.heap.objs.size) (o:=.dK []) (h':=s.heap.push { cls:=.type "dict",data:=.dict #[] }) (t':=s.toks) (fun _ _ q=>Heap.get?_push_of_some _ q) (Nat.le_refl _) (Lq s.heap I.big);refine wpAny_Dict_walk (knd:=dY X.prog X.w) hall hl h0 h15 (thn (h pins _ σ _ _ I1 (q _ hn)) fun ws s2 ⟨ps,H2,I2,rel,e,kvs,ep,lk,q2⟩=>?_);subst ep;obtain⟨rs,c,rk⟩:=tY (P:=X.prog) (w:=X.w) rel;obtain⟨z,hd,vs0,r0,dd⟩:=Tv I2.hok e
 cases r0
 refine⟨rs,c,dd,fun h' dd' hs=>⟨.ref s.heap.objs.size,_,?_,rfl,q2⟩⟩;have hz:(jE [] kvs).length<=sizeLine:=by
  have h1:=mZ kvs [];rw[length_nil] at h1;rw[sizeLine_eq];lia
 have he:∃q,h'.get? s.heap.objs.size=some q:=let ⟨q,_,_,hq,_⟩:=dd';⟨q,hq⟩
 exact xY I2 (by rw[e];exact True.intro) hs he (Oo hz hd (rk.merge .nil) dd')
structure M1 (X:Cx) (o:Expr) (m:Str) (apos:Pos) (e:Expr) (cpos:Pos):Prop where
 base:attributeBase o m X.env (eval o X.env)=eval o X.env
 few:((backTo cpos (starEach [e] X.env)).all (fun x=>!x.1) && (backToKw cpos (keywordEach [] X.env)).all (fun x=>x.1.isSome)
  && decide (([e]:List Expr).length+([]:List Keyword).length+(if ([]:List Keyword).isEmpty then 0 else 1) < 30))=true
 line:(apos.endLine == cpos.line)=true
 trees:backTo cpos (starEach [e] X.env)=[(false,eval e X.env)]
def IsD (H:Hp)(a:Addr):Prop:=(∃kvs,Rd H a (.dK kvs))\/∃kvs,Rd H a (.dT kvs)
theorem Xs {X:Cx}{pins:List (Addr × Obj)}{σ:St}{H:Hp}{s:Shared}{a:Addr}(I:Inv X pins σ H s)(d:IsD H a) :
  s.TypeIs (.ref a) "dict"/\(∀b,Value.ref a=.ref b->∃ob,s.heap.get? b=some ob/\ob.dict=none)/\(a == sysModules)=false:=by
 rcases d with ⟨kvs,e⟩ | ⟨kvs,e⟩
 ·obtain⟨_,hd,vs,_,dd⟩:=wL I.hok e;refine⟨dd.typeIs,fun b q=>?_,hd⟩
  cases q
  obtain⟨ob,_,_,h1,h2,_⟩:=dd;exact⟨ob,h1,h2.2.1⟩
 ·obtain⟨_,hd,xs,_,dd⟩:=vS I.hok e;refine⟨dd.typeIs,fun b q=>?_,hd⟩
  cases q
  obtain⟨ob,_,_,h1,h2,_⟩:=dd;exact⟨ob,h1,h2.2.1⟩
section
variable {X:Cx} {pins:List (Addr × Obj)} {σ:St} {H:Hp} {s:Shared} {a:Addr} {y d:V} {u r:Value} {o:Option V} {A:Around} {E:Value->Shared->Prop}
theorem Wn {Q:Value->Shared->Prop}(hu:A.units+1 < cLine)(I:Inv X pins σ H s)(g:jK H a y o)(ry:cC y u)(h:∀w' s',Inv X pins σ H s'->cC (o.getD .non) w'->Q w' s') :
  wpAny (model X.prog X.w) A (call (.builtin "dict.get") [.ref a,u]) Q E s:=by
 rcases g with ⟨kvs,k,e,ey,l⟩ | ⟨kvs,k,b,e,ey,eb,l⟩
 ·subst ey;obtain⟨z,hd,vs,rel,dd⟩:=wL I.hok e;refine call_meetsIn PySem.F.slot_dict_get dd.typeIs PySem.F.entry_dict_get (PySem.F.args_dict_get_2 _ _) (meets_dict_get (dY X.prog X.w) a (vH ry) hd) ⟨_,dd.mapOf,h _ _ (I.tok _) ?_⟩;rw[l];exact(rel.val k).getD rfl
 ·subst ey
  cases (show u=Value.ref b from ry)
  obtain⟨z,hd,xs,rel,dd⟩:=vS I.hok e;refine call_meetsIn PySem.F.slot_dict_get dd.typeIs PySem.F.entry_dict_get (PySem.F.args_dict_get_2 _ _) (meetsH_dict_get (tupleKind (dY X.prog X.w)) a b hd) ⟨tupleKind_room_in1 hu,k,xs,tJ I.hok eb,dd,h _ _ (I.tok _) ?_⟩;rw[l];exact(rel.val k).getD rfl
end
def Xe (td ty:TE):TE:=fun σ H Q=>td σ H fun x H1=>∃a,x=.ref a/\IsD H1 a/\ty σ H1 fun y H2=>∃o,jK H2 a y o/\Q (o.getD .non) H2
section
variable {X:Cx} {o e f:Expr} {apos cpos:Pos} {td ty tx:TE}
theorem Ld (hu:X.A.units+1 < cLine)(ho:PE X o td)(he:PE X e ty)(m:M1 X o "get" apos e cpos):PE X (.Call (.Attribute o "get" apos) [e] [] cpos) (Xe td ty):=by
 intro pins s σ H Q I h;refine wpAny_Call_method m.base m.few m.line PySem.F.plainAttrs_dict PySem.F.slot_dict_get PySem.F.type_dict_get (thn (ho pins s σ H _ I h) fun u s1 ⟨x,H1,I1,rx,a,ex,d,q1⟩=>?_);subst ex;obtain rfl:u=Value.ref a:=rx;obtain⟨t1,t2,_⟩:=Xs I1 d;refine⟨t1,t2,?_⟩;rw[m.trees];refine Calls.callWith_builtin rfl (Calls.evalArgs_plain (Calls.spliced_cons (thn (he pins s1 σ H1 _ I1 q1) fun iv s2 ⟨y,H2,I2,ry,ov,g,q2⟩=>Calls.spliced_nil ?_)));exact Wn hu I2 g ry fun w' s3 I3 rw'=>⟨_,H2,I3,rw',q2⟩
end
def Iu:Kd->Q2->Q2->Q2->Q2
 | .pc,u,_,p=>mX u p
 | .pu,_,_,p=>p
 | .ho,_,v,_=>v
theorem Fq.mod {K:Frag}{a:Addr}{d:Option Addr}{n:Nat}{sl:Array (Option Value)}{i j:Int}{t u:Tok}(l:K.lookup a=some ⟨.type "tuple",d,.seq #[.int i t,.int j u] n,sl⟩)(H:Hp):Fq K H a (i,j):=
 .inr ⟨_,_,_,l,rfl,rfl,(zl9 2),.cons ⟨_,rfl⟩ (.cons ⟨_,rfl⟩ .nil)⟩
abbrev RD:=Kd × Int × Int × Q2
inductive Rts (K:Frag) (H:Hp):List V->List RD->Prop where
 |nil:Rts K H [] []
 |cons {t z:Addr} {k:Kd} {i j:Int} {p:Q2} {xs:List V} {ds:List RD} (h:SqT K H t [.str k.wd,.int i,.int j,.ref z]) (f:Fq K H z p) (q:Rts K H xs ds):Rts K H (.ref t :: xs) ((k,i,j,p) :: ds)
section
variable {K:Frag} {H H':Hp}
theorem Rts.same (e:aV H H'):∀{xs:List V} {ds:List RD},Rts K H xs ds->Rts K H' xs ds
 |_,_,.nil=>.nil
 |_,_,.cons h f q=>.cons (e.seqT h) (e.fq f) (Rts.same e q)
theorem Rts.length:∀{xs:List V} {ds:List RD},Rts K H xs ds->xs.length=ds.length
 |_,_,.nil=>rfl
 |_,_,.cons _ _ q=>by simp[Rts.length q]
theorem Rts.app:∀{xs ys:List V} {ds es:List RD},Rts K H xs ds->Rts K H ys es->Rts K H (xs++ys) (ds++es)
 |_,_,_,_,.nil,r=>r
 |_,_,_,_,.cons h f q,r=>.cons h f (Rts.app q r)
theorem Rts.at:∀{xs:List V} {ds:List RD} {q:Nat} {d:RD},Rts K H xs ds->ds[q]?=some d->∃t z,xs[q]?=some (.ref t)/\SqT K H t [.str d.1.wd,.int d.2.1,.int d.2.2.1,.ref z]/\Fq K H z d.2.2.2
 |_,_,_,_,.nil,h=>by simp at h
 |_,_,0,_,.cons h f _,e=>by simp at e;subst e;exact⟨_,_,rfl,h,f⟩
 |_,_,i+1,_,.cons _ _ q,e=>by simpa using Rts.at q (by simpa using e)
theorem Rts.upd {l:Addr}{ys:List V}{o:HO}(hl:H l=some (.lst ys)):∀{xs:List V} {ds:List RD},Rts K H xs ds->Rts K (L2.upd H l o) xs ds
 |_,_,.nil=>.nil
 |_,_,.cons h f q=>.cons (h.upd hl) (f.upd hl) (Rts.upd hl q)
end
def dB (l:Addr)(H H':Hp):Prop:=∀b o,H b=some o->b≠l->H' b=some o
theorem aV.x {l:Addr}{H H':Hp}(s:aV H H'):dB l H H':=fun b o h _=>s b o h
theorem dB.write {l:Addr}{H H1:Hp}{o:HO}(a:dB l H H1):dB l H (upd H1 l o):=fun c u h n=>by rw[aU n];exact a c u h n
theorem fpk:¬(("point_count":Str) = "kept"):=by decide +kernel
def mY (m:Int)(l:Addr):List (Str × V):=eX "kept" (.ref l) (eX "point_count" (.int m) [])
theorem Av (m:Int)(l:Addr):(mY m l).lookup ("point_count":Str)=some (.int m):=by
 unfold mY;rw[bM,if_neg fpk,bM,if_pos rfl]
theorem iT (m:Int)(l:Addr):(mY m l).lookup ("kept":Str)=some (.ref l):=by
 unfold mY;rw[bM,if_pos rfl]
theorem fQ (m:Int)(l:Addr){x:Str}(h1:¬x = "point_count")(h2:¬x = "kept"):(mY m l).lookup x=none:=by
 unfold mY;rw[bM,if_neg h2,bM,if_neg h1];rfl
def Ho (m:Int)(d:RD):Prop:=0<=d.2.1/\d.2.1 < m/\0<=d.2.2.1/\d.2.2.1 < m/\Low d.2.2.2/\(d.1=.pc->0 < d.2.2.2.1)/\Bd 1000 d.2.2.2
structure fC (CN:Addr) (K:Frag) (H:Hp) (n l:Addr) (m:Int) (ds:List RD):Prop where
 ob:∃dx,H n=some (.ins CN dx (mY m l))
 ls:∃ts,H l=some (.lst ts)/\Rts K H ts ds
theorem fC.same {CN:Addr}{K:Frag}{H H':Hp}{n l:Addr}{m:Int}{ds:List RD}(e:aV H H')(h:fC CN K H n l m ds):fC CN K H' n l m ds:=
 let ⟨⟨dx,a⟩,ts,b,c⟩:=h;⟨⟨dx,e _ _ a⟩,ts,e _ _ b,c.same e⟩
structure NT (K:Frag) (mg:Str->Option Value) (CN:Addr):Prop where
 cl:Cls K CN
 nP:gG K CN "point_count"
 nK:gG K CN "kept"
 t1:W.findIn K (.ref CN) "__class__"=some (some (.builtin "object.__class__"))
 t2:W.specialIn K (.builtin "object.__class__") "__get__"=some (some (.builtin "getset_descriptor.__get__"))
 t3:W.takesIn K (.builtin "object.__class__")=some true
 t4:W.mroIn K CN (.type "object")=some true
 mN:mg "Net"=some (.ref CN)
def tI (K:Frag)(CK:Kd->Addr):Sp:=fun vs H Q _=>∃(t:Addr) (v s g z:V),vs=[.ref t]/\SqT K H t [v,s,g,z]/\∃k:Kd,v=.str k.wd/\qe1 CK H Q k s g z
def Gq (K:Frag):Sp:=fun vs H Q _=>∃(a:Addr) (p:Q2),vs=[.ref a]/\Fq K H a p/\Low p/\Q (.bl true) H
def Zq (K:Frag):Sp:=fun vs H Q _=>∃(a:Addr) (p:Q2) (n:Nat),vs=[.ref a]/\Fq K H a p/\Low p/\0 < p.1/\Bd n p/\n<=8000/\Q (.bl true) H
def qb0:Sp:=fun vs H Q _=>∃i b:Int,vs=[.int i,.int b]/\0<=i/\i < b/\Q (.bl true) H
def Ys (K:Frag):Sp:=fun vs H Q _=>∃(k:Kd) (z:Addr) (p:Q2),vs=[.str k.wd,.ref z]/\Fq K H z p/\Low p/\(k=.pc->0 < p.1)/\Bd 1000 p/\Q .non H
def Fb (CN:Addr):Sp:=fun vs H Q _=>∃(n dx:Addr) (m:Int),vs=[.ref n,.int m]/\H n=some (.ins CN dx [])/\1<=m/\m<=20/\∀l H',H l=none->(∀b o,H b=some o->b≠n->H' b=some o)->H' n=some (.ins CN dx (mY m l))->H' l=some (.lst [])->Q .non H'
def tF (CN:Addr)(K:Frag):Sp:=fun vs H Q _=>∃(n l:Addr) (m:Int) (ds:List RD),vs=[.ref n]/\fC CN K H n l m ds/\Q (.int m) H
def Eh (CN:Addr)(K:Frag):Sp:=fun vs H Q _=>∃(n l:Addr) (m:Int) (ds:List RD),vs=[.ref n]/\fC CN K H n l m ds/\Q (.int ds.length) H
def Up (CN:Addr)(K:Frag)(CK:Kd->Addr):Sp:=fun vs H Q _=>∃(n l x z:Addr) (m:Int) (ds:List RD) (k:Kd) (i j:Int) (p:Q2),vs=[.ref n,.ref x]/\fC CN K H n l m ds/\Rw CK H x k (.int i) (.int j) (.ref z)/\Fq K H z p/\Ho m (k,i,j,p)/\ds.length < 40/\
 ∀H',dB l H H'->fC CN K H' n l m (ds++[(k,i,j,p)])->Q (.int ds.length) H'
def gS (l r:Addr)(H H':Hp):Prop:=∀b o,H b=some o->b≠l->b≠r->H' b=some o
section
variable {K:Frag} {H H':Hp} {l r:Addr} {as bs:List V}
theorem gS.seqT {a:Addr}{xs:List V}(hl:H l=some (.lst as))(hr:H r=some (.lst bs))(e:gS l r H H')(h:SqT K H a xs):SqT K H' a xs:=by
 rcases h with (h | ⟨u,h⟩) | h
 ·exact .inl (.inl (e _ _ h (fM h hl (fun z=>by cases z)) (fM h hr (fun z=>by cases z))))
 ·exact .inl (.inr ⟨u,e _ _ h (fM h hl (fun z=>by cases z)) (fM h hr (fun z=>by cases z))⟩)
 ·exact .inr h
end
theorem gD {a1 u:TS}{D:lH}{σ:St}{H:Hp}(P:St->Hp->Prop)(h1:∀X:St->Hp->Prop,(∀σ' H',P σ' H'->X σ' H')->(a1) { D with nx:=X } σ H)(h2:∀σ' H',P σ' H'->u D σ' H'):(gE a1 (u)) D σ H:=h1 _ h2
theorem Xm {a1 a2 u:TS}{D:lH}{σ:St}{H:Hp}(P:St->Hp->Prop)(h1:∀X:St->Hp->Prop,(∀σ' H',P σ' H'->X σ' H')->(gE a1 (a2)) { D with nx:=X } σ H)(h2:∀σ' H',P σ' H'->u D σ' H'):(gE a1 (gE a2 (u))) D σ H:=h1 _ h2
theorem Yn {a1 a2 a3 u:TS}{D:lH}{σ:St}{H:Hp}(P:St->Hp->Prop)(h1:∀X:St->Hp->Prop,(∀σ' H',P σ' H'->X σ' H')->(gE a1 (gE a2 (a3))) { D with nx:=X } σ H)(h2:∀σ' H',P σ' H'->u D σ' H'):(gE a1 (gE a2 (gE a3 (u)))) D σ H:=h1 _ h2
theorem qc2 {a1 a2 a3 a4 u:TS}{D:lH}{σ:St}{H:Hp}(P:St->Hp->Prop)(h1:∀X:St->Hp->Prop,(∀σ' H',P σ' H'->X σ' H')->(gE a1 (gE a2 (gE a3 (a4)))) { D with nx:=X } σ H)(h2:∀σ' H',P σ' H'->u D σ' H'):(gE a1 (gE a2 (gE a3 (gE a4 (u))))) D σ H:=h1 _ h2
theorem qd3 {a1 a2 a3 a4 a5 u:TS}{D:lH}{σ:St}{H:Hp}(P:St->Hp->Prop)(h1:∀X:St->Hp->Prop,(∀σ' H',P σ' H'->X σ' H')->(gE a1 (gE a2 (gE a3 (gE a4 (a5))))) { D with nx:=X } σ H)(h2:∀σ' H',P σ' H'->u D σ' H'):(gE a1 (gE a2 (gE a3 (gE a4 (gE a5 (u)))))) D σ H:=h1 _ h2
theorem Hu (ns:List Int)(lo hi:Option Int):∃ms:List Int,kO (ns.map V.int) lo hi=ms.map V.int:=
 ⟨(ns.drop (HT.sIx (ns.map V.int).length 0 lo)).take (HT.sIx (ns.map V.int).length (ns.map V.int).length hi - HT.sIx (ns.map V.int).length 0 lo),by unfold kO;rw[map_take,map_drop]⟩
end L2
namespace Mq
def val (p:Q2):Rat:=(p.1:Rat) / (p.2:Rat)
theorem dP {b:Int}(h:b≠0):(b:Rat)≠0:=fun e=>h (Rat.intCast_inj.mp (by simpa using e))
theorem Bp {p:Q2}{t b:Int}(hp:p.2≠0)(hb:b≠0)(h:p.1*b=t*p.2):val p=(t:Rat) / (b:Rat):=by
 unfold val;have h1:=dP hp;have h2:=dP hb;have h3:(p.1:Rat)*(b:Rat)=(t:Rat)*(p.2:Rat):=by rw[<- Rat.intCast_mul,<- Rat.intCast_mul,h]
 grind
theorem jZ {t b:Int}(hb:b≠0):val (red t b)=(t:Rat) / (b:Rat):=by
 have:=(iJ (t:=t) hb).pos;exact Bp (by lia) hb (wP hb)
theorem mH {p q:Q2}(hp:Low p)(hq:Low q)(h:val p=val q):p=q:=by
 refine Mz hp hq ?_;have p1:=dP (show p.2≠0 by have:=hp.pos;lia);have q1:=dP (show q.2≠0 by have:=hq.pos;lia);unfold val at h;have:(p.1:Rat)*(q.2:Rat)=(q.1:Rat)*(p.2:Rat):=by grind
 rw[<- Rat.intCast_mul,<- Rat.intCast_mul] at this;exact Rat.intCast_inj.mp this
theorem jT {p q:Q2}(hp:1<=p.2)(hq:1<=q.2):val (plus p q)=val p+val q:=by
 have p1:=dP (show p.2≠0 by lia);have q1:=dP (show q.2≠0 by lia);unfold plus;rw[jZ (gF hp hq),Rat.intCast_add,Rat.intCast_mul,Rat.intCast_mul,Rat.intCast_mul];unfold val;grind
theorem eV {p q:Q2}(hp:1<=p.2)(hq:1<=q.2):val (minus p q)=val p - val q:=by
 have p1:=dP (show p.2≠0 by lia);have q1:=dP (show q.2≠0 by lia);unfold minus;rw[jZ (gF hp hq),Rat.intCast_sub,Rat.intCast_mul,Rat.intCast_mul,Rat.intCast_mul];unfold val;grind
theorem Jg {p q:Q2}(hp:1<=p.2)(hq:1<=q.2):val (kX p q)=val p*val q:=by
 have p1:=dP (show p.2≠0 by lia);have q1:=dP (show q.2≠0 by lia);unfold kX;rw[jZ (gF hp hq),Rat.intCast_mul,Rat.intCast_mul];unfold val;grind
theorem rW {p q:Q2}(hp:1<=p.2)(hq:1<=q.2)(h0:q.1≠0):val (mX p q)=val p / val q:=by
 have p1:=dP (show p.2≠0 by lia);have q1:=dP (show q.2≠0 by lia);have q2:=dP h0;unfold mX;rw[jZ (oZ hp h0),Rat.intCast_mul,Rat.intCast_mul];unfold val;grind
theorem kW:val (0,1)=0:=by unfold val;simp;grind
theorem Tu:val (1,1)=1:=by unfold val;simp;grind
theorem Qv {t b:Int}(ht:0 < t)(hb:0 < b):0 < (red t b).1:=by
 have h1:=wP (t:=t) (b:=b) (by lia);have h2:=(iJ (t:=t) (b:=b) (by lia)).pos;have h3:0 < t*(red t b).2:=Int.mul_pos ht (by lia);rw[<- h1] at h3;exact Int.pos_of_mul_pos_left h3 (by lia)
def rs (n:Nat)(F:Nat->Rat):Rat:=match n with
 |0=>0
 |n+1=>rs n F+F n
theorem aP {n:Nat}{F G:Nat->Rat}(h:∀i,i < n->F i=G i):rs n F=rs n G:=by
 induction n with
 |zero=>rfl
 |succ n ih=>simp only[rs];rw[ih (fun i hi=>h i (by lia)),h n (by lia)]
theorem dQ (n:Nat)(F G:Nat->Rat):rs n (fun i=>F i+G i)=rs n F+rs n G:=by
 induction n with
 |zero=>simp[rs];grind
 |succ n ih=>simp only[rs];rw[ih];grind
theorem fF (n:Nat)(c:Rat)(F:Nat->Rat):rs n (fun i=>c*F i)=c*rs n F:=by
 induction n with
 |zero=>simp[rs]
 |succ n ih=>simp only[rs];rw[ih];grind
theorem mE (n:Nat)(F:Nat->Rat):rs n (fun i=>- F i)=- rs n F:=by
 induction n with
 |zero=>simp[rs]
 |succ n ih=>simp only[rs];rw[ih];grind
theorem dC (n:Nat):rs n (fun _=>0)=0:=by
 induction n with
 |zero=>rfl
 |succ n ih=>simp only[rs];rw[ih];grind
theorem yS (n k:Nat)(F:Nat->Rat):rs n (fun i=>if k=i then F i else 0)=if k < n then F k else 0:=by
 induction n with
 |zero=>simp[rs]
 |succ n ih=>
  simp only[rs];rw[ih]
  by_cases h1:k < n
  ·rw[if_pos h1,if_neg (by lia),if_pos (by lia)];grind
  ·by_cases h2:k=n
   ·subst h2;rw[if_neg h1,if_pos rfl,if_pos (by lia)];grind
   ·rw[if_neg h1,if_neg h2,if_neg (by lia)];grind
abbrev z0:Q2:=(0,1)
abbrev Row:=Nat × Nat × Q2
theorem iW.pos {ls:List Q2}(h:iW ls):Pos ls:=fun p hp=>(h p hp).pos
def nX (L b:Int):Int:=Int.fdiv L (gc L b)*b
theorem oF {L b:Int}(hL:1<=L)(hb:1<=b):1<=nX L b/\(∃j,nX L b=L*j)/\(∃k,nX L b=k*b/\1<=k)/\nX L b<=L*b:=by
 have gp:0 < gc L b:=sU (by lia);have d1:gc L b ∣ L:=by unfold gc;exact Int.gcd_dvd_left ..
 have d2:gc L b ∣ b:=by unfold gc;exact Int.gcd_dvd_right ..
 obtain⟨k,hk⟩:=d1;obtain⟨j,hj⟩:=d2;have ek:Int.fdiv L (gc L b)=k:=fR (by lia) hk;have k1:1<=k:=by
  have:0 < gc L b*k:=by lia
  have:=Int.pos_of_mul_pos_right this (by lia);lia
 unfold nX;rw[ek];refine⟨?_,⟨j,?_⟩,⟨k,rfl,k1⟩,?_⟩
 ·have:0 < k*b:=Int.mul_pos (by lia) (by lia);lia
 ·generalize gc L b=g at *
  rw[hk,hj];grind
 ·have:k<=L:=by
   rw[hk];have:=Int.mul_le_mul_of_nonneg_right (show 1<=gc L b by lia) (show 0<=k by lia);lia
  exact Int.mul_le_mul_of_nonneg_right this (by lia)
def eK (ps:List Q2):Int:=ps.foldl (fun L p=>nX L p.2) 1
theorem Jj (ps:List Q2)(p:Q2):eK (ps++[p])=nX (eK ps) p.2:=by unfold eK;rw[foldl_append];rfl
theorem mI {ps:List Q2}{i:Nat}{p:Q2}(h:ps[i]?=some p):eK (ps.take (i+1))=nX (eK (ps.take i)) p.2:=by
 rw[take_add_one,h];exact Jj _ _
theorem oE {ps:List Q2}(hp:Pos ps){n:Nat}(hb:∀p∈ps,Bd n p):∀i,i<=ps.length->1<=eK (ps.take i)/\B (1+n*i) (eK (ps.take i))/\∀p∈ps.take i,∃k,eK (ps.take i)=k*p.2
 |0,_=>⟨by show (1:Int)<=1;lia,show (1:Nat) < 2 ^ (1+n*0) by simp,fun p h=>by simp at h⟩
 |i+1,hi=>by
  obtain⟨h1,h2,h3⟩:=oE hp hb i (by lia);have e:ps[i]?=some ps[i]:=getElem?_eq_getElem (by lia);have mem:ps[i]∈ps:=getElem_mem _;rw[mI e];obtain⟨l1,⟨j,l2⟩,⟨k,l3,l4⟩,l5⟩:=oF h1 (hp _ mem);refine⟨l1,?_,fun p hpp=>?_⟩
  ·have:=h2.mul (hb _ mem).b;refine B.mono (n:=1+n*i+n) (this.le ?_) (by rw[Nat.mul_succ];lia);have h0:1<=ps[i].2:=hp _ mem;have:0<=eK (ps.take i)*ps[i].2:=Int.mul_nonneg (by lia) (by lia);lia
  ·rw[take_add_one,e] at hpp;rcases mem_append.mp hpp with z | z
   ·obtain⟨q,hq⟩:=h3 p z;exact⟨q*j,by rw[l2,hq];grind⟩
   ·have:p=ps[i]:=by simpa using z
    rw[this];exact⟨k,l3⟩
theorem rC {ps:List Q2}(hp:Pos ps):1<=eK ps:=by
 have:∀(l:List Q2) (L:Int),1<=L->Pos l->1<=l.foldl (fun L p=>nX L p.2) L:=fun l=>by
  induction l with
  |nil=>intro L h _;exact h
  |cons p l ih=>intro L h q;exact ih _ (oF h (q p (by simp))).1 fun x hx=>q x (mem_cons_of_mem _ hx)
 exact this ps 1 (by lia) hp
def zV (L:Int)(p:Q2):Int:=p.1*Int.fdiv L p.2
def iw (ps:List Q2):List Int:=ps.map (zV (eK ps))
theorem La {L k:Int}{p:Q2}(h:1<=p.2)(e:L=k*p.2):((zV L p:Int):Rat)=val p*(L:Rat):=by
 have e1:Int.fdiv L p.2=k:=fR (by lia) (by rw[e,Int.mul_comm]);have n:=dP (show p.2≠0 by lia);unfold zV val;rw[e1,e,Rat.intCast_mul,Rat.intCast_mul];grind
theorem Be {ps:List Q2}(hp:Pos ps):∀p∈ps,∃k,eK ps=k*p.2:=fun p hpp=>by
 have:∀(l:List Q2) (L:Int),1<=L->Pos l->(∃j,l.foldl (fun L p=>nX L p.2) L=L*j)/\∀p∈l,∃k,l.foldl (fun L p=>nX L p.2) L=k*p.2:=fun l=>by
  induction l with
  |nil=>intro L h _;exact⟨⟨1,by simp⟩,fun p h=>by simp at h⟩
  |cons q l ih=>
   intro L h hq;obtain⟨l1,⟨j,l2⟩,⟨k,l3,l4⟩,l5⟩:=oF h (hq q (by simp));obtain⟨⟨j2,i1⟩,i2⟩:=ih (nX L q.2) l1 fun x hx=>hq x (mem_cons_of_mem _ hx);refine⟨⟨j*j2,by rw[foldl_cons,i1,l2];grind⟩,fun p hp=>?_⟩;rcases mem_cons.mp hp with rfl | hp
   ·exact⟨k*j2,by rw[foldl_cons,i1,l3];grind⟩
   ·exact i2 p hp
 exact(this ps 1 (by lia) hp).2 p hpp
def fK (X:List (List Q2)):Prop:=∀row∈X,Pos row
theorem Oc {row:List Q2}(h:Pos row)(j:Nat):1<=(row.getD j z0).2:=by
 rw[getD_eq_getElem?_getD]
 cases e:row[j]? with
 |none=>exact Int.le_refl 1
 |some v=>exact h v (mem_of_getElem? e)
end Mq
open Mq (Be Tu aP dC dP dQ eK eV fF fK iw jT jZ kW mE mH oE rC rW yS zV)
namespace L2
open PySem PySem.Spec PyProof.Rows
def Ite (K : Frag)(a : Addr) : It :=
  ⟨fun i H => ∃ xs x, SqL K H a xs /\ xs[i]? = some x,
   fun i H v H' => ∃ T x, v = .ref T /\ H T = none /\ H' = upd H T (.tup [.int (i : Int), x]) /\ ∀ xs, SqL K H a xs -> xs[i]? = some x,
   fun i H => ∃ xs, SqL K H a xs /\ xs.length <= i⟩
def Wd (e it l:Addr)(i:Nat)(h:Heap):Prop:=e≠it/\(∃old,IsEnum h e it (i:Int) old)/\h.IsListIter it l i
theorem Im {P:Program}{w:World}{K:Frag}{elts:List Expr}{kk:Nat}{tpos:Pos}(e it l:Addr) :
  Jd P w K (.Tuple elts kk tpos) (Ite K l) [e,it] e (Wd e it l) where
 mem:=by simp
 obj:=fun i h st b hb=>by
  obtain⟨ne,⟨old,he⟩,⟨o1,e1,c1,d1⟩⟩:=st;simp only[mem_cons,not_mem_nil,or_false] at hb;rcases hb with rfl | rfl
  ·exact⟨_,he,fun v q=>by cases q⟩
  ·exact⟨o1,e1,fun v q=>by rw[d1] at q;cases q⟩
 keep:=fun i h h' st k=>by
  obtain⟨ne,⟨old,he⟩,⟨o1,e1,c1,d1⟩⟩:=st;exact⟨ne,⟨old,k _ (by simp) _ he⟩,⟨o1,k _ (by simp) _ e1,c1,d1⟩⟩
 item:=by
  intro X hP hw hK hc i pins s σ H E I hf st hg;subst hP hw hK;obtain⟨ne,⟨old,he⟩,t1⟩:=st;obtain⟨xs,x,hx,ex⟩:=hg;obtain⟨its1,rv1,p1,z1⟩:=I.list hx;obtain⟨u1,hu1,ru1⟩:=rv1.get ex;refine wpAny_pyNext_enum_item he t1 p1.isList (x:=u1) (by simpa using hu1) ne fun h' g1 g2 g3 g4 kk'=>?_;have hn:H s.heap.objs.size=none:=I.hok.fresh (Nat.le_refl _);have lt:∀b∈[e,it],b < s.heap.objs.size:=fun b hb=>by
   simp only[mem_cons,not_mem_nil,or_false] at hb;obtain⟨o1,e1,_⟩:=t1;rcases hb with rfl | rfl
   ·exact Heap.lt_size he
   ·exact Heap.lt_size e1
  have I1:Inv X pins σ (upd H s.heap.objs.size (.tup [.int (i:Int),x])) { s with heap:=s.heap.push { cls:=.type "tuple",data:=.seq #[.int i s.toks,u1] },toks:=s.toks+1 }:=
   I.laid (t':=s.toks+1) (fun b o e=>Heap.get?_push_of_some _ e) (Nat.le_refl _) (show eI X.prog X.w _ _ _ (.tup [.int (i:Int),x]) from ⟨zl9 2,[.int i s.toks,u1],.cons ⟨_,rfl⟩ (.cons ru1 .nil),IsTup.new _ _⟩)
  have hf1:∀b∈[e,it],mU X pins (upd H s.heap.objs.size (.tup [.int (i:Int),x])) b:=fun b hb=>⟨by rw[aU (Nat.ne_of_lt (lt b hb))];exact(hf b hb).1,(hf b hb).2⟩
  have k1:∀b o,b∉[e,it]->(s.heap.push { cls:=.type "tuple",data:=.seq #[.int i s.toks,u1] }).get? b=some o->h'.get? b=some o:=fun b o nb e=>by
   simp only[mem_cons,not_mem_nil,or_false,not_or] at nb
   by_cases hb:b=s.heap.objs.size
   ·subst hb;rw[Heap.get?_push_size _ rfl] at e
    cases e
    exact g3
   ·have e0:s.heap.get? b=some o:=by rw[Heap.get?_push_ne _ _ _ hb] at e;exact e
    exact kk' b o nb.1 nb.2 e0
  have I2:Inv X pins σ (upd H s.heap.objs.size (.tup [.int (i:Int),x])) { s with heap:=h',toks:=s.toks+1 }:=Inv.turnedL (s:={ s with heap:=s.heap.push { cls:=.type "tuple",data:=.seq #[.int i s.toks,u1] },toks:=s.toks+1 }) (t':=s.toks+1) I1 k1 hf1;refine⟨_,rfl,wpAny_letOwnedTupleGo_enum (s:={ s with heap:=h',toks:=s.toks+1 }) g1 fun h2 q1 q2=>?_⟩;have kz:∀b o,b≠e->h'.get? b=some o->h2.get? b=some o:=fun b o nb e=>(q2.2 b nb).trans e;have I3:Inv X pins σ (upd H s.heap.objs.size (.tup [.int (i:Int),x])) { s with heap:=h2,toks:=s.toks+1 }:=Inv.turnedL (s:={ s with heap:=h',toks:=s.toks+1 }) (t':=s.toks+1) (fp:=[e]) I2 (fun b o nb e=>kz b o (by simpa using nb) e) fun b hb=>hf1 b (by simp at hb;simp[hb]);obtain⟨o3,e3,c3,d3⟩:=g2;refine⟨.ref s.heap.objs.size,_,I3,rfl,⟨_,x,rfl,hn,rfl,fun xs' h1=>?_⟩,⟨ne,⟨_,q1⟩,⟨o3,kz _ _ ne.symm e3,c3,d3⟩⟩,fun b hb=>(hf1 b hb).1⟩;rw[I.list_inj h1 hx];exact ex
 done:=by
  intro X hP hw hK hc i pins s σ H E I hf st hg;subst hP hw hK;obtain⟨ne,⟨old,he⟩,t1⟩:=st;obtain⟨xs,hx,hor⟩:=hg;obtain⟨its1,rv1,p1,z1⟩:=I.list hx;have l1':=rv1.length;refine wpAny_pyNext_enum_end (I.ok.hd hc) he t1 p1.isList (by simp;lia) fun h' kk'=>⟨rfl,?_⟩
  refine I.turnedL (t':=s.toks) (fun b o nb e=>?_) hf;simp only[mem_cons,not_mem_nil,or_false,not_or] at nb;exact kk' b o nb.2 e
 self:=fun A i s Q E st h=>by
  obtain⟨ne,⟨old,he⟩,t1⟩:=st;exact wpAny_pyIter_enum he h
section
variable {X:Cx}
def Zu (K:Frag)(ta:TA):TI:=fun σ H R=>ta σ H fun vs H1=>∃a,vs=[.ref a]/\(∃xs,SqL K H1 a xs)/\R (Ite K a) H1
theorem zB {e1:Expr}{ta:TA}{p pos:Pos}{elts:List Expr}{kk:Nat}{tpos:Pos}(hg:Gl X "enumerate")(hm:X.mg "enumerate"=none)(hv:bootBuiltins "enumerate"=some (.type "enumerate"))(ha:PA X [e1] ta)(hs:starEach [e1] X.env=(false,eval e1 X.env) :: starEach [] X.env:=by rfl)(hpl:(backTo pos (starEach [] X.env)).any (·.1)=false:=by rfl):PI X (.Tuple elts kk tpos) (.Call (.Name "enumerate" p) [e1] [] pos) (Zu X.K ta):=by
 intro pins s σ H R I h;refine Call_ (kJ I hg hm hv (PyProof.Rows.callWith_type1 (thn (ha pos pins s σ H _ I h) fun us s1 ⟨vs,H1,I1,r1,q1⟩=>?_) hs hpl));obtain⟨a,rfl,⟨xs,hx⟩,q⟩:=q1;obtain⟨u,rfl,ra⟩:=Ai r1
 cases (show u=Value.ref a from ra)
 obtain⟨its1,rv1,p1,z1⟩:=I1.list hx;have la:a < s1.heap.objs.size:=by obtain⟨o,e,_⟩:=p1.isList;exact Heap.lt_size e
 refine call_enumerate_list p1.isList fun h' g1 g2 g3 kk'=>?_;refine wpAny_pyIter_enum g1 ?_;refine⟨s1.heap.objs.size+1,[s1.heap.objs.size+1,s1.heap.objs.size],_,Ite X.K a,H1,rfl,I1.kept (t':=s1.toks) kk',Im _ _ a,⟨?_,⟨_,g1⟩,g2⟩,fun c hc=>?_,q⟩
 ·exact Nat.succ_ne_self _
 ·have hle:s1.heap.objs.size<=c:=by
   simp only[mem_cons,not_mem_nil,or_false] at hc;rcases hc with rfl | rfl<;>first | exact Nat.le_add_right _ _ | exact Nat.le_refl _
  exact I1.fpOk hle (I1.hok.fresh hle)
theorem Nv {K:Frag}{a:Addr}{xs:List V}{g:TG}{tb:TS}{D:lH}{σ:St}{H:Hp}(Pv:Nat->St->Hp->Prop)(h0:Pv 0 σ H)(hl:∀i σ H,i<=xs.length->Pv i σ H->SqL K H a xs)(hs:∀i x σ H T,xs[i]?=some x->Pv i σ H->H T=none->g (.ref T) σ (upd H T (.tup [.int (i:Int),x])) fun σ2 H2=>tb { D with nx:=Pv (i+1),ct:=Pv (i+1),bk:=D.nx } σ2 H2)(hd:∀σ H,Pv xs.length σ H->D.nx σ H) :
  ∃W:Nat->Nat->St->Hp->Prop,(∃m,W 0 m σ H)/\∀i m σ H,W i m σ H->
   ((Ite K a).stop i H/\D.nx σ H)\/((Ite K a).go i H/\∃N:St->Hp->Prop,(∀σ' H',N σ' H'->∃m',m' < m/\W (i+1) m' σ' H')/\∀x H',(Ite K a).yld i H x H'->g x σ H' fun σ2 H2=>tb { D with nx:=N,ct:=N,bk:=D.nx } σ2 H2):=by
 refine⟨fun i m σ H=>m=xs.length - i/\i<=xs.length/\Pv i σ H,⟨_,rfl,Nat.zero_le _,h0⟩,?_⟩;rintro i m σ H ⟨rfl,hi,p⟩;have qx:=hl i σ H hi p
 by_cases hlt:i < xs.length
 ·refine .inr ⟨⟨xs,xs[i],qx,by simp[hlt]⟩,Pv (i+1),fun σ' H' p'=>⟨xs.length - (i+1),by lia,rfl,hlt,p'⟩,fun v H' z=>?_⟩;obtain⟨T,x,rfl,hT,rfl,hh⟩:=z;exact hs i x σ H T (hh xs qx) p hT
 ·have e:i=xs.length:=by lia
  subst e;exact .inl ⟨⟨xs,qx,Nat.le_refl _⟩,hd σ H p⟩
theorem vG {K:Frag}{a:Addr}{xs:List V}{nl:Nat}{fr:List Nat}{g:TG}{tt:TT}{te:TE}{σ:St}{D:Addr}{H1:Hp}{Q:VK}(Pv:Nat->List V->Hp->Prop)(h0:Pv 0 [] (upd H1 D (.lst [])))(hl:∀i zs H,Pv i zs H->H D=some (.lst zs))(hx:∀i zs H,i<=xs.length->Pv i zs H->SqL K H a xs)(hs:∀i zs x H T,xs[i]?=some x->Pv i zs H->H T=none->∀(C:Nat->List V->Hp->Prop),(∀zs H,Pv (i+1) zs H->C (i+1) zs H)->Hb nl fr g tt te σ D C i zs (.ref T) (upd H T (.tup [.int (i:Int),x])))(hd:∀zs H,Pv xs.length zs H->Q (.ref D) H) :
  Ba (Ite K a) nl fr g tt te σ D H1 Q:=by
 refine⟨fun i m zs H=>m=xs.length - i/\i<=xs.length/\Pv i zs H,⟨_,rfl,Nat.zero_le _,h0⟩,?_⟩;rintro i m zs H ⟨rfl,hi,p⟩;refine⟨hl i zs H p,?_⟩;have qx:=hx i zs H hi p
 by_cases hlt:i < xs.length
 ·refine .inr ⟨⟨xs,xs[i],qx,by simp[hlt]⟩,fun v H' z=>?_⟩;obtain⟨T,x,rfl,hT,rfl,hh⟩:=z;exact hs i zs x H T (hh xs qx) p hT (fun j zs Hz=>∃m',m' < xs.length - i/\m'=xs.length - j/\j<=xs.length/\Pv j zs Hz) fun zs Hz z=>⟨xs.length - (i+1),by lia,rfl,hlt,z⟩
 ·have e:i=xs.length:=by lia
  subst e;exact .inl ⟨⟨xs,qx,Nat.le_refl _⟩,hd zs H p⟩
end
end L2
namespace Shp
open PySem L2
theorem Sa {t b:Int}(h:0 < b):dvr t b=gc t b:=by unfold dvr;rw[if_neg (by lia)]
end Shp
namespace Mq
def skip (j k:Nat):Nat:=if k < j then k else k+1
def sgn (n:Nat):Rat:=if n % 2=0 then 1 else -1
theorem tK (n:Nat):sgn (n+1)=- sgn n:=by
 unfold sgn;rcases Nat.mod_two_eq_zero_or_one n with h | h
 ·rw[if_neg (by lia),if_pos h]
 ·rw[if_pos (by lia),if_neg (by lia)];grind
abbrev Mat:=Nat->Nat->Rat
def det:Nat->Mat->Rat
 |0,_=>1
 |n+1,M=>rs (n+1) fun j=>sgn (n+j)*M n j*det n fun i k=>M i (skip j k)
theorem fU (n:Nat)(M:Mat):det (n+1) M=rs (n+1) fun j=>sgn (n+j)*M n j*det n fun i k=>M i (skip j k):=rfl
theorem Ra {j k n:Nat}(hk:k < n):skip j k < n+1:=by unfold skip;split<;>lia
theorem cJ:∀{n:Nat} {M N:Mat},(∀i j,i < n->j < n->M i j=N i j)->det n M=det n N
 |0,_,_,_=>rfl
 |n+1,M,N,h=>by
  rw[fU,fU];exact aP fun j hj=>by rw[h n j (by lia) hj,cJ (N:=fun i k=>N i (skip j k)) fun i k hi hk=>h i _ (by lia) (Ra hk)]
theorem vL {j k l:Nat}(h:j<=k):skip (k+1) (skip j l)=skip j (skip k l):=by
 unfold skip
 by_cases h1:l < j
 ·rw[if_pos h1,if_pos (show l < k by lia),if_pos (show l < k+1 by lia),if_pos h1]
 ·rw[if_neg h1]
  by_cases h2:l < k
  ·rw[if_pos h2,if_pos (show l+1 < k+1 by lia),if_neg h1]
  ·rw[if_neg h2,if_neg (show ¬l+1 < k+1 by lia),if_neg (show ¬l+1 < j by lia)]
theorem Ry (n m:Nat)(F:Nat->Nat->Rat):(rs n fun i=>rs m fun j=>F i j)=rs m fun j=>rs n fun i=>F i j:=by
 induction n with
 |zero=>simp only[rs];rw[dC]
 |succ n ih=>simp only[rs];rw[ih,<- dQ]
theorem oR (n:Nat)(F:Nat->Rat):rs (n+1) F=F 0+rs n fun i=>F (i+1):=by
 induction n with
 |zero=>simp only[rs];grind
 |succ n ih=>rw[show rs (n+1+1) F=rs (n+1) F+F (n+1) from rfl,ih];simp only[rs];grind
theorem uY (N:Nat)(X:Nat->Nat->Rat):(rs (N+1) fun j=>rs N fun k=>X j k)=(rs N fun k=>rs N fun j=>if k<=j then X (j+1) k else 0)+rs N fun j=>rs N fun k=>if j<=k then X j k else 0:=by
 have h1:(rs (N+1) fun j=>rs N fun k=>X j k)=(rs (N+1) fun j=>rs N fun k=>if k < j then X j k else 0)+rs (N+1) fun j=>rs N fun k=>if k < j then 0 else X j k:=by
  rw[<- dQ];refine aP fun j _=>?_;rw[<- dQ];exact aP fun k _=>by split<;>grind
 have h2:(rs (N+1) fun j=>rs N fun k=>if k < j then X j k else 0)=rs N fun k=>rs N fun j=>if k<=j then X (j+1) k else 0:=by
  rw[Ry];refine aP fun k _=>?_;rw[oR,if_neg (by lia)];have:(rs N fun i=>if k < i+1 then X (i+1) k else 0)=rs N fun j=>if k<=j then X (j+1) k else 0:=aP fun i _=>by
   by_cases c:k<=i
   ·rw[if_pos (by lia),if_pos c]
   ·rw[if_neg (by lia),if_neg c]
  rw[this];grind
 have h3:(rs (N+1) fun j=>rs N fun k=>if k < j then 0 else X j k)=rs N fun j=>rs N fun k=>if j<=k then X j k else 0:=by
  show (rs N fun j=>rs N fun k=>if k < j then 0 else X j k)+(rs N fun k=>if k < N then 0 else X N k)=_;have:(rs N fun k=>if k < N then 0 else X N k)=rs N fun _=>0:=aP fun k hk=>by rw[if_pos hk]
  rw[this,dC];have e2:(rs N fun j=>rs N fun k=>if k < j then 0 else X j k)=rs N fun j=>rs N fun k=>if j<=k then X j k else 0:=aP fun j _=>aP fun k _=>by
   by_cases c:j<=k
   ·rw[if_neg (by lia),if_pos c]
   ·rw[if_pos (by lia),if_neg c]
  rw[e2];grind
 rw[h1,h2,h3]
theorem Ct (N:Nat)(X Y:Nat->Nat->Rat)(h:∀j k,j<=k->Y (k+1) j=- X j k)(h':∀j k,j<=k->X (k+1) j=- Y j k):(rs (N+1) fun j=>rs N fun k=>Y j k)=- rs (N+1) fun j=>rs N fun k=>X j k:=by
 rw[uY,uY];have e1:(rs N fun k=>rs N fun j=>if k<=j then Y (j+1) k else 0)=- rs N fun j=>rs N fun k=>if j<=k then X j k else 0:=by
  rw[<- mE];refine aP fun k _=>?_;rw[<- mE];exact aP fun j _=>by
   by_cases c:k<=j
   ·rw[if_pos c,if_pos c,h k j c]
   ·rw[if_neg c,if_neg c];grind
 have e2:(rs N fun k=>rs N fun j=>if k<=j then X (j+1) k else 0)=- rs N fun j=>rs N fun k=>if j<=k then Y j k else 0:=by
  rw[<- mE];refine aP fun k _=>?_;rw[<- mE];exact aP fun j _=>by
   by_cases c:k<=j
   ·rw[if_pos c,if_pos c,h' k j c]
   ·rw[if_neg c,if_neg c];grind
 rw[e1,e2];grind
def cE (a:Nat)(M:Mat):Mat:=fun i=>if i=a then M (a+1) else if i=a+1 then M a else M i
theorem Ei (n:Nat)(M:Mat):det (n+2) M=rs (n+2) fun j=>rs (n+1) fun k=>(sgn (n+1+j)*M (n+1) j)*(sgn (n+k)*M n (skip j k)*det n fun i l=>M i (skip j (skip k l))):=by
 rw[fU];exact aP fun j _=>by rw[fU,<- fF]
theorem oI (a b:Nat):sgn (a+1+b)=- sgn (a+b):=by rw[show a+1+b=a+b+1 by lia,tK]
theorem uX (n:Nat)(M:Mat):det (n+2) (cE n M)=- det (n+2) M:=by
 rw[Ei,Ei];refine Ct (n+1) _ _ (fun j k hjk=>?_) (fun j k hjk=>?_)
 ·show (sgn (n+1+(k+1))*cE n M (n+1) (k+1))*(sgn (n+j)*cE n M n (skip (k+1) j)*det n fun i l=>cE n M i (skip (k+1) (skip j l)))=- ((sgn (n+1+j)*M (n+1) j)*(sgn (n+k)*M n (skip j k)*det n fun i l=>M i (skip j (skip k l))));have a1:cE n M (n+1)=M n:=by unfold cE;rw[if_neg (by lia),if_pos rfl]
  have a2:cE n M n=M (n+1):=by unfold cE;rw[if_pos rfl]
  have a3:(det n fun i l=>cE n M i (skip (k+1) (skip j l)))=det n fun i l=>M i (skip j (skip k l)):=cJ fun i l hi _=>by
   show cE n M i (skip (k+1) (skip j l))=M i (skip j (skip k l));rw[vL hjk];unfold cE;rw[if_neg (by lia),if_neg (by lia)]
  have a4:skip (k+1) j=j:=by unfold skip;rw[if_pos (by lia)]
  have a5:skip j k=k+1:=by unfold skip;rw[if_neg (by lia)]
  rw[a1,a2,a3,a4,a5,oI,oI,show n+(k+1)=n+k+1 by lia,tK];generalize (det n fun i l=>M i (skip j (skip k l)))=dd;generalize sgn (n+k)=s1;generalize sgn (n+j)=s2;grind
 ·show (sgn (n+1+(k+1))*M (n+1) (k+1))*(sgn (n+j)*M n (skip (k+1) j)*det n fun i l=>M i (skip (k+1) (skip j l)))=- ((sgn (n+1+j)*cE n M (n+1) j)*(sgn (n+k)*cE n M n (skip j k)*det n fun i l=>cE n M i (skip j (skip k l))));have a1:cE n M (n+1)=M n:=by unfold cE;rw[if_neg (by lia),if_pos rfl]
  have a2:cE n M n=M (n+1):=by unfold cE;rw[if_pos rfl]
  have a3:(det n fun i l=>M i (skip (k+1) (skip j l)))=det n fun i l=>cE n M i (skip j (skip k l)):=cJ fun i l hi _=>by
   show M i (skip (k+1) (skip j l))=cE n M i (skip j (skip k l));rw[vL hjk];unfold cE;rw[if_neg (by lia),if_neg (by lia)]
  have a4:skip (k+1) j=j:=by unfold skip;rw[if_pos (by lia)]
  have a5:skip j k=k+1:=by unfold skip;rw[if_neg (by lia)]
  rw[a1,a2,a3,a4,a5,oI,oI,show n+(k+1)=n+k+1 by lia,tK];generalize (det n fun i l=>cE n M i (skip j (skip k l)))=dd;generalize sgn (n+k)=s1;generalize sgn (n+j)=s2;grind
theorem kS:∀(n a:Nat) (M:Mat),a+1 < n->det n (cE a M)=- det n M
 |0,_,_,h=>absurd h (by lia)
 |n+1,a,M,h=>by
  by_cases e:a+1=n
  ·subst e;exact uX a M
  ·rw[fU,fU,<- mE];refine aP fun j hj=>?_;have e1:cE a M n j=M n j:=by unfold cE;rw[if_neg (by lia),if_neg (by lia)]
   have e2:(det n fun i k=>cE a M i (skip j k))=- det n fun i k=>M i (skip j k):=by
    rw[<- kS n a (fun i k=>M i (skip j k)) (by lia)];exact cJ fun i k _ _=>by
     show cE a M i (skip j k)=cE a (fun i k=>M i (skip j k)) i k;unfold cE;split
     ·rfl
     ·split<;>rfl
   rw[e1,e2];grind
theorem wT:∀(t n:Nat) (M:Mat) (i:Nat),i+t+1=n->(∀j,M i j=M n j)->det (n+1) M=0
 |0,n,M,i,h,e=>by
  have hn:n=i+1:=by lia
  subst hn;have s:=uX i M;have c:det (i+2) (cE i M)=det (i+2) M:=cJ fun k j _ _=>by
   unfold cE
   by_cases k1:k=i
   ·rw[if_pos k1,k1];exact(e j).symm
   ·rw[if_neg k1]
    by_cases k2:k=i+1
    ·rw[if_pos k2,k2];exact e j
    ·rw[if_neg k2]
  rw[c] at s;grind
 |t+1,n,M,i,h,e=>by
  have s:=kS (n+1) i M (by lia);have z:=wT t n (cE i M) (i+1) (by lia) fun j=>by
   have a1:cE i M (i+1)=M i:=by unfold cE;rw[if_neg (by lia),if_pos rfl]
   have a2:cE i M n=M n:=by unfold cE;rw[if_neg (by lia),if_neg (by lia)]
   rw[a1,a2];exact e j
  rw[z] at s;grind
def yR (n:Nat)(S:Mat)(x:Nat->Rat):Mat:=fun i=>if i=n then x else S i
def F (n:Nat)(S:Mat)(c:Nat->Nat)(x:Nat->Rat):Rat:=det (n+1) (yR n (fun i j=>S i (c j)) fun j=>x (c j))
theorem Ja (n:Nat)(S:Mat)(c:Nat->Nat)(x:Nat->Rat):F n S c x=rs (n+1) fun j=>sgn (n+j)*x (c j)*det n fun i k=>S i (c (skip j k)):=by
 unfold F;rw[fU];refine aP fun j _=>?_;have e1:yR n (fun i j=>S i (c j)) (fun j=>x (c j)) n j=x (c j):=by unfold yR;rw[if_pos rfl]
 rw[e1,cJ fun i k hi _=>show yR n (fun i j=>S i (c j)) (fun j=>x (c j)) i (skip j k)=S i (c (skip j k)) by unfold yR;rw[if_neg (by lia)]]
theorem Yr (n:Nat)(S:Mat)(c:Nat->Nat)(x y:Nat->Rat)(l:Rat):F n S c (fun j=>x j+l*y j)=F n S c x+l*F n S c y:=by
 rw[Ja,Ja,Ja,<- fF,<- dQ];exact aP fun j _=>by grind
theorem Gy (n:Nat)(S:Mat)(c:Nat->Nat){i:Nat}(h:i < n):F n S c (S i)=0:=by
 unfold F;refine wT (n - i - 1) n _ i (by lia) fun j=>?_;unfold yR;rw[if_neg (by lia),if_pos rfl]
theorem yL (n:Nat)(S:Mat)(c:Nat->Nat)(x:Nat->Rat)(h:∀j,j < n->x (c j)=0):F n S c x=x (c n)*det n fun i j=>S i (c j):=by
 rw[Ja];show (rs n fun j=>sgn (n+j)*x (c j)*det n fun i k=>S i (c (skip j k)))+sgn (n+n)*x (c n)*(det n fun i k=>S i (c (skip n k)))=_;have z:(rs n fun j=>sgn (n+j)*x (c j)*det n fun i k=>S i (c (skip j k)))=rs n fun _=>0:=aP fun j hj=>by rw[h j hj];grind
 have s:sgn (n+n)=1:=by unfold sgn;rw[if_pos (by lia)]
 have d:(det n fun i k=>S i (c (skip n k)))=det n fun i j=>S i (c j):=cJ fun i k _ hk=>by show S i (c (skip n k))=_;unfold skip;rw[if_pos hk]
 rw[z,dC,s,d];grind
theorem Ar {n:Nat}{F:Nat->Rat}(h:∀i,i < n->∃z:Int,F i=(z:Rat)):∃z:Int,rs n F=(z:Rat):=by
 induction n with
 |zero=>exact⟨0,by simp[rs]⟩
 |succ n ih=>
  obtain⟨a,ha⟩:=ih fun i hi=>h i (by lia);obtain⟨b,hb⟩:=h n (by lia);exact⟨a+b,by simp only[rs];rw[ha,hb,Rat.intCast_add]⟩
theorem Jc (n:Nat):∃z:Int,sgn n=(z:Rat):=by
 unfold sgn;split
 ·exact⟨1,by simp⟩
 ·exact⟨-1,by rw[Rat.intCast_neg];simp⟩
theorem qI {a b:Rat}(h:∃z:Int,a=(z:Rat))(k:∃z:Int,b=(z:Rat)):∃z:Int,a*b=(z:Rat):=by
 obtain⟨x,rfl⟩:=h;obtain⟨y,rfl⟩:=k;exact⟨x*y,by rw[Rat.intCast_mul]⟩
theorem vJ:∀{n:Nat} {M:Mat},(∀i j,∃z:Int,M i j=(z:Rat))->∃z:Int,det n M=(z:Rat)
 |0,_,_=>⟨1,by simp[det]⟩
 |n+1,M,h=>by
  rw[fU];exact Ar fun j _=>qI (qI (Jc _) (h n j)) (vJ fun i k=>h i _)
theorem Td {n:Nat}{S:Mat}{c:Nat->Nat}{x:Nat->Rat}(h:∀i j,∃z:Int,S i j=(z:Rat))(hx:∀j,∃z:Int,x j=(z:Rat)):∃z:Int,F n S c x=(z:Rat):=by
 unfold F;refine vJ fun i j=>?_;unfold yR;split
 ·exact hx _
 ·exact h i _
def Lin (Φ:(Nat->Rat)->Rat):Prop:=∀x y l,Φ (fun j=>x j+l*y j)=Φ x+l*Φ y
theorem Lin.zero {Φ:(Nat->Rat)->Rat}(h:Lin Φ):Φ (fun _=>0)=0:=by
 have:=h (fun _=>0) (fun _=>0) 1;have e:(fun j:Nat=>(fun _=>(0:Rat)) j+1*(fun _=>(0:Rat)) j)=fun _=>0:=by funext j;show (0:Rat)+1*0=0;grind
 rw[e] at this;grind
theorem Lin.mul {Φ:(Nat->Rat)->Rat}(h:Lin Φ)(l:Rat)(y:Nat->Rat):Φ (fun j=>l*y j)=l*Φ y:=by
 have:=h (fun _=>0) y l;have e:(fun j:Nat=>(fun _=>(0:Rat)) j+l*y j)=fun j=>l*y j:=by funext j;show (0:Rat)+l*y j=_;grind
 rw[e,h.zero] at this;grind
theorem Lin.sum {Φ:(Nat->Rat)->Rat}(h:Lin Φ)(a:Nat->Rat)(Y:Nat->Nat->Rat):∀n,Φ (fun j=>rs n fun k=>a k*Y k j)=rs n fun k=>a k*Φ (Y k)
 |0=>h.zero
 |n+1=>by
  have:=h (fun j=>rs n fun k=>a k*Y k j) (Y n) (a n);simp only[rs];rw[this,Lin.sum h a Y n]
theorem Ev (n:Nat)(S:Mat)(c:Nat->Nat):Lin (F n S c):=fun x y l=>Yr n S c x y l
def Wh (x:Rat):Prop:=∃z:Int,x=(z:Rat)
theorem Wh.mul {a b:Rat}(h:Wh a)(k:Wh b):Wh (a*b):=qI h k
theorem Wh.neg {a:Rat}(h:Wh a):Wh (-a):=by obtain⟨z,rfl⟩:=h;exact⟨-z,by rw[Rat.intCast_neg]⟩
theorem Wh.sub {a b:Rat}(h:Wh a)(k:Wh b):Wh (a - b):=by obtain⟨x,rfl⟩:=h;obtain⟨y,rfl⟩:=k;exact⟨x - y,by rw[Rat.intCast_sub]⟩
theorem Wh.one:Wh 1:=⟨1,by simp⟩
theorem Wh.nil:Wh 0:=⟨0,by simp⟩
structure Bar (m:Nat) (A E:Mat) (r col:Nat) (d:Rat) (c:Nat->Nat):Prop where
 dne:d≠0
 rm:r<=m
 rc:r<=col
 clt:∀j,j < r->c j < col
 cinj:∀i j,i < r->j < r->c i=c j->i=j
 wA:∀i j,Wh (A i j)
 wE:∀i j,i < m->Wh (E i j)
 i2:∀k j,k < r->j < r->E k (c j)=if j=k then d else 0
 i3:∀i x,r<=i->i < m->x < col->E i x=0
 i4:∀i x,i < m->d*A i x=(rs r fun k=>A i (c k)*E k x)+if i < r then 0 else E i x
 i5:det r (fun i j=>A i (c j))=d
 i6:∀Φ,Lin Φ->(∀s,s < r->Φ (A s)=0)->∀k,k < r->Φ (E k)=0
 full:r=col->∀j,j < r->c j=j
theorem Bar.start {m:Nat}{A:Mat}(wA:∀i j,Wh (A i j)):Bar m A A 0 0 1 id where
 dne:=by grind
 rm:=by lia
 rc:=by lia
 clt:=fun j h=>absurd h (by lia)
 cinj:=fun i j h=>absurd h (by lia)
 wA:=wA
 wE:=fun i j _=>wA i j
 i2:=fun k j h=>absurd h (by lia)
 i3:=fun i x _ _ h=>absurd h (by lia)
 i4:=fun i x _=>by simp only[rs];rw[if_neg (by lia)];grind
 i5:=rfl
 i6:=fun Φ _ _ k h=>absurd h (by lia)
 full:=fun _ j h=>absurd h (by lia)
section
variable {m:Nat} {A E:Mat} {r col:Nat} {d:Rat} {c:Nat->Nat}
theorem Bar.skip (h:Bar m A E r col d c)(hz:∀i,r<=i->i < m->E i col=0):Bar m A E r (col+1) d c:=
 { h with
  rc:=by have:=h.rc;lia
  clt:=fun j hj=>by have:=h.clt j hj;lia
  i3:=fun i x hi hm hx=>by
   by_cases e:x=col
   ·rw[e];exact hz i hi hm
   ·exact h.i3 i x hi hm (by lia)
  full:=fun e=>by have:=h.rc;lia }
def sw (p r i:Nat):Nat:=if i=r then p else if i=p then r else i
theorem wI {p r i:Nat}(hp:r<=p)(hi:i < r):sw p r i=i:=by unfold sw;rw[if_neg (by lia),if_neg (by lia)]
theorem Uj {p r i:Nat}(hp:r<=p)(hi:r<=i):r<=sw p r i:=by unfold sw;split;exact hp;split<;>lia
theorem yA {p r i m:Nat}(hp:p < m)(hr:r < m)(hi:i < m):sw p r i < m:=by unfold sw;split;exact hp;split<;>lia
theorem Mo (p r i:Nat):sw p r (sw p r i)=i:=by
 unfold sw
 by_cases h1:i=r
 ·rw[if_pos h1]
  by_cases h2:p=r
  ·rw[if_pos h2];lia
  ·rw[if_neg h2,if_pos rfl];exact h1.symm
 ·rw[if_neg h1]
  by_cases h2:i=p
  ·rw[if_pos h2,if_pos rfl];exact h2.symm
  ·rw[if_neg h2,if_neg h1,if_neg h2]
theorem Bar.swap (h:Bar m A E r col d c){p:Nat}(hp:r<=p)(hpm:p < m):Bar m (fun i=>A (sw p r i)) (fun i=>E (sw p r i)) r col d c:=
 { h with
  wA:=fun i j=>h.wA _ j
  wE:=fun i j hi=>h.wE _ j (yA hpm (by lia) hi)
  i2:=fun k j hk hj=>by
   show E (sw p r k) (c j)=_;rw[wI hp hk];exact h.i2 k j hk hj
  i3:=fun i x hi hm hx=>h.i3 _ x (Uj hp hi) (yA hpm (by lia) hm) hx
  i4:=fun i x hm=>by
   have e:(rs r fun k=>A (sw p r i) (c k)*E (sw p r k) x)=rs r fun k=>A (sw p r i) (c k)*E k x:=aP fun k hk=>by rw[wI hp hk]
   show d*A (sw p r i) x=(rs r fun k=>A (sw p r i) (c k)*E (sw p r k) x)+_;rw[e,h.i4 _ x (yA hpm (by lia) hm)];congr 1
   by_cases hi:i < r
   ·rw[wI hp hi,if_pos hi]
   ·have:=Uj hp (show r<=i by lia);rw[if_neg (by lia),if_neg hi]
  i5:=by
   rw[<- h.i5];exact cJ fun i j hi _=>by show A (sw p r i) (c j)=_;rw[wI hp hi]
  i6:=fun Φ hΦ hs k hk=>by
   show Φ (E (sw p r k))=0;rw[wI hp hk];exact h.i6 Φ hΦ (fun s hs'=>by have:=hs s hs';rwa [wI hp hs'] at this) k hk }
def clr (E:Mat)(r col:Nat)(d:Rat):Mat:=fun k x=>if k=r then E r x else (E r col*E k x - E k col*E r x) / d
def c1 (c:Nat->Nat)(r col:Nat):Nat->Nat:=fun j=>if j=r then col else c j
theorem iU (c:Nat->Nat){r col j:Nat}(h:j < r):c1 c r col j=c j:=by unfold c1;rw[if_neg (by lia)]
theorem nC (c:Nat->Nat)(r col:Nat):c1 c r col r=col:=by unfold c1;rw[if_pos rfl]
theorem yT (E:Mat)(r col:Nat)(d:Rat):clr E r col d r=E r:=by funext x;unfold clr;rw[if_pos rfl]
theorem kQ (E:Mat){r col k:Nat}{d:Rat}(h:k≠r)(x:Nat):clr E r col d k x=(E r col*E k x - E k col*E r x) / d:=by unfold clr;rw[if_neg h]
theorem Bar.j2 (h:Bar m A E r col d c)(hr:r < m):∀k j,k < r+1->j < r+1->clr E r col d k (c1 c r col j)=if j=k then E r col else 0:=fun k j hk hj=>by
 have hd:=h.dne
 by_cases kr:k=r
 ·subst kr;rw[yT]
  by_cases jr:j=k
  ·rw[if_pos jr,jr,nC]
  ·rw[if_neg jr,iU c (by lia)];exact h.i3 k _ (Nat.le_refl _) hr (h.clt j (by lia))
 ·rw[kQ E kr]
  by_cases jr:j=r
  ·subst jr;rw[nC,if_neg (by lia)];grind
  ·rw[iU c (by lia),h.i2 k j (by lia) (by lia),h.i3 r (c j) (Nat.le_refl _) hr (h.clt j (by lia))]
   by_cases e:j=k
   ·rw[if_pos e,if_pos e];grind
   ·rw[if_neg e,if_neg e];grind
theorem Bar.j4 (h:Bar m A E r col d c)(hr:r < m):∀i x,i < m->E r col*A i x=(rs (r+1) fun k=>A i (c1 c r col k)*clr E r col d k x)+if i < r+1 then 0 else clr E r col d i x:=fun i x hi=>by
 have hd:=h.dne;have q:=h.i4 i x hi;have q2:=h.i4 i col hi;show _=(rs r fun k=>A i (c1 c r col k)*clr E r col d k x)+A i (c1 c r col r)*clr E r col d r x+_;rw[nC,yT];have e:(rs r fun k=>A i (c1 c r col k)*clr E r col d k x)=(E r col / d)*(rs r fun k=>A i (c k)*E k x)+(-(E r x / d))*rs r fun k=>A i (c k)*E k col:=by
  rw[<- fF,<- fF,<- dQ];exact aP fun k hk=>by rw[iU c hk,kQ E (by lia)];grind
 rw[e];generalize (rs r fun k=>A i (c k)*E k x)=s1 at q ⊢;generalize (rs r fun k=>A i (c k)*E k col)=s2 at q2 ⊢
 by_cases h1:i < r
 ·rw[if_pos h1] at q q2;rw[if_pos (by lia)];have:s1=d*A i x:=by grind
  have:s2=d*A i col:=by grind
  subst s1 s2;grind
 ·rw[if_neg h1] at q q2;have a1:s1=d*A i x - E i x:=by grind
  have a2:s2=d*A i col - E i col:=by grind
  subst a1 a2
  by_cases h2:i=r
  ·subst h2;rw[if_pos (by lia)];grind
  ·rw[if_neg (by lia),kQ E h2];grind
theorem Bar.j6 (h:Bar m A E r col d c)(hr:r < m):∀Φ,Lin Φ->(∀s,s < r+1->Φ (A s)=0)->∀k,k < r+1->Φ (clr E r col d k)=0:=fun Φ hΦ hs k hk=>by
 have hd:=h.dne;have z:=h.i6 Φ hΦ fun s hs'=>hs s (by lia);have zr:Φ (E r)=0:=by
  have e:E r=fun x=>(fun x=>d*A r x) x+(-1)*(fun x=>rs r fun k=>A r (c k)*E k x) x:=by
   funext x
   have:=h.i4 r x hr;rw[if_neg (by lia)] at this;show E r x=d*A r x+(-1)*(rs r fun k=>A r (c k)*E k x)
   grind
  rw[e,hΦ,hΦ.mul,hΦ.sum,hs r (by lia)];have:(rs r fun k=>A r (c k)*Φ (E k))=rs r fun _=>0:=aP fun k hk=>by rw[z k hk];grind
  rw[this,dC];grind
 by_cases kr:k=r
 ·rw[kr,yT];exact zr
 ·have e:clr E r col d k=fun x=>(fun x=>(E r col / d)*E k x) x+(-(E k col / d))*E r x:=by
   funext x
   rw[kQ E kr];show _=(E r col / d)*E k x+(-(E k col / d))*E r x;grind
  rw[e,hΦ,hΦ.mul,z k (by lia),zr];grind
theorem Bar.j5 (h:Bar m A E r col d c)(hr:r < m):det (r+1) (fun i j=>A i (c1 c r col j))=E r col:=by
 have hd:=h.dne;have e1:det (r+1) (fun i j=>A i (c1 c r col j))=F r A (c1 c r col) (A r):=by
  unfold F;exact cJ fun i j hi _=>by
   unfold yR
   by_cases e:i=r
   ·rw[if_pos e,e]
   ·rw[if_neg e]
 have hΦ:=Ev r A (c1 c r col);have z:=h.i6 _ hΦ fun s hs=>Gy r A (c1 c r col) hs;have eA:A r=fun x=>(fun x=>(1 / d)*E r x) x+(1 / d)*(fun x=>rs r fun k=>A r (c k)*E k x) x:=by
  funext x
  have:=h.i4 r x hr;rw[if_neg (by lia)] at this;show A r x=(1 / d)*E r x+(1 / d)*(rs r fun k=>A r (c k)*E k x)
  grind
 have zs:(rs r fun k=>A r (c k)*F r A (c1 c r col) (E k))=0:=by
  have:(rs r fun k=>A r (c k)*F r A (c1 c r col) (E k))=rs r fun _=>0:=aP fun k hk=>by rw[z k hk];grind
  rw[this,dC]
 have fb:=yL r A (c1 c r col) (E r) fun j hj=>by rw[iU c hj];exact h.i3 r _ (Nat.le_refl _) hr (h.clt j hj)
 have dd:(det r fun i j=>A i (c1 c r col j))=d:=by rw[<- h.i5];exact cJ fun i j _ hj=>by show A i (c1 c r col j)=_;rw[iU c hj]
 rw[nC,dd] at fb;rw[e1,eA,hΦ,hΦ.mul,hΦ.sum,zs,fb];grind
theorem Bar.wV (h:Bar m A E r col d c)(hr:r < m)(he:E r col≠0):∀i x,i < m->Wh (clr E r col d i x):=by
 have j2:=h.j2 hr;have j4:=h.j4 hr;have j5:=h.j5 hr;have j6:=h.j6 hr;have cin:∀i j,i < r+1->j < r+1->c1 c r col i=c1 c r col j->i=j:=fun i j hi hj e=>by
  by_cases a:i=r
  ·by_cases b:j=r
   ·lia
   ·rw[a,nC,iU c (by lia)] at e;have:=h.clt j (by lia);lia
  ·by_cases b:j=r
   ·rw[b,nC,iU c (by lia)] at e;have:=h.clt i (by lia);lia
   ·rw[iU c (by lia),iU c (by lia)] at e;exact h.cinj i j (by lia) (by lia) e
 have top:∀k x,k < r+1->Wh (clr E r col d k x):=fun k x hk=>by
  by_cases hx:∃j,j < r+1/\x=c1 c r col j
  ·obtain⟨j,hj,rfl⟩:=hx;rw[j2 k j hk hj];split
   ·exact h.wE r col hr
   ·exact Wh.nil
  ·let c2:Nat->Nat:=fun j=>if j=r+1 then x else c1 c r col j
   let u:Nat->Rat:=fun j=>if j=c1 c r col k then 1 else 0
   have hΦ:=Ev (r+1) A c2;have z:=j6 _ hΦ (fun s hs=>Gy (r+1) A c2 hs) k hk;have eu:u=fun y=>(fun y=>u y+(-(1 / E r col))*clr E r col d k y) y+(1 / E r col)*clr E r col d k y:=by
    funext y
    show u y=u y+(-(1 / E r col))*clr E r col d k y+(1 / E r col)*clr E r col d k y;grind
   have fb:=yL (r+1) A c2 (fun y=>u y+(-(1 / E r col))*clr E r col d k y) fun j hj=>by
    have ec:c2 j=c1 c r col j:=by show (if j=r+1 then x else c1 c r col j)=_;rw[if_neg (by lia)]
    rw[ec];show u (c1 c r col j)+(-(1 / E r col))*clr E r col d k (c1 c r col j)=0;rw[j2 k j hk hj];show (if c1 c r col j=c1 c r col k then (1:Rat) else 0)+_=0
    by_cases e:j=k
    ·rw[if_pos e,if_pos (by rw[e])];grind
    ·rw[if_neg e,if_neg (fun q=>e (cin j k hj hk q))];grind
   have dd:(det (r+1) fun i j=>A i (c2 j))=E r col:=by
    rw[<- j5];exact cJ fun i j _ hj=>by show A i (if j=r+1 then x else c1 c r col j)=_;rw[if_neg (by lia)]
   have ux:u x=0:=by show (if x=c1 c r col k then (1:Rat) else 0)=0;rw[if_neg (fun q=>hx ⟨k,hk,q⟩)]
   have cx:c2 (r+1)=x:=by show (if r+1=r+1 then x else _)=x;rw[if_pos rfl]
   rw[dd,cx] at fb;have val:F (r+1) A c2 u=- clr E r col d k x:=by
    rw[eu,hΦ,z,fb];show (u x+(-(1 / E r col))*clr E r col d k x)*E r col+_=_;rw[ux];grind
   have wh:Wh (F (r+1) A c2 u):=Td h.wA fun j=>by
    show Wh (if j=c1 c r col k then (1:Rat) else 0);split
    ·exact Wh.one
    ·exact Wh.nil
   rw[val] at wh;have:=wh.neg
   rwa [show - - clr E r col d k x=clr E r col d k x by grind] at this
 intro i x hi
 by_cases h1:i < r+1
 ·exact top i x h1
 ·have q:=j4 i x hi;rw[if_neg h1] at q;have e:clr E r col d i x=E r col*A i x - rs (r+1) fun k=>A i (c1 c r col k)*clr E r col d k x:=by grind
  rw[e];exact Wh.sub (Wh.mul (h.wE r col hr) (h.wA i x)) (Ar fun k hk=>Wh.mul (h.wA _ _) (top k x hk))
theorem Bar.clear (h:Bar m A E r col d c)(hr:r < m)(he:E r col≠0):Bar m A (clr E r col d) (r+1) (col+1) (E r col) (c1 c r col) where
 dne:=he
 rm:=hr
 rc:=by have:=h.rc;lia
 clt:=fun j hj=>by
  by_cases e:j=r
  ·rw[e,nC];lia
  ·rw[iU c (by lia)];have:=h.clt j (by lia);lia
 cinj:=fun i j hi hj e=>by
  by_cases a:i=r
  ·by_cases b:j=r
   ·lia
   ·rw[a,nC,iU c (by lia)] at e;have:=h.clt j (by lia);lia
  ·by_cases b:j=r
   ·rw[b,nC,iU c (by lia)] at e;have:=h.clt i (by lia);lia
   ·rw[iU c (by lia),iU c (by lia)] at e;exact h.cinj i j (by lia) (by lia) e
 wA:=h.wA
 wE:=fun i j hi=>h.wV hr he i j hi
 i2:=h.j2 hr
 i3:=fun i x hi hm hx=>by
  rw[kQ E (by lia)]
  by_cases e:x=col
  ·rw[e];grind
  ·rw[h.i3 i x (by lia) hm (by lia),h.i3 r x (Nat.le_refl _) hr (by lia)];grind
 i4:=h.j4 hr
 i5:=h.j5 hr
 i6:=h.j6 hr
 full:=fun e j hj=>by
  by_cases a:j=r
  ·rw[a,nC];lia
  ·rw[iU c (by lia)];exact h.full (by lia) j (by lia)
end
def ent (R:List (List Int))(i x:Nat):Int:=(R.getD i []).getD x 0
def at2 (R:List (List Int)):Mat:=fun i x=>((ent R i x:Int):Rat)
theorem Bar.congr {m:Nat}{A E E':Mat}{r col:Nat}{d:Rat}{c:Nat->Nat}(h:Bar m A E r col d c)(e:∀i,i < m->E i=E' i):Bar m A E' r col d c:=
 { h with
  wE:=fun i j hi=>by rw[<- e i hi];exact h.wE i j hi
  i2:=fun k j hk hj=>by rw[<- e k (by have:=h.rm;lia)];exact h.i2 k j hk hj
  i3:=fun i x hi hm hx=>by rw[<- e i hm];exact h.i3 i x hi hm hx
  i4:=fun i x hm=>by
   rw[h.i4 i x hm];congr 1
   ·exact aP fun k hk=>by rw[e k (by have:=h.rm;lia)]
   ·rw[e i hm]
  i6:=fun Φ hΦ hs k hk=>by rw[<- e k (by have:=h.rm;lia)];exact h.i6 Φ hΦ hs k hk }
theorem Mr (n:Nat):∀(t p r:Nat) (A:Mat),p=r+t+1->p < n->det n (fun i=>A (sw p r i))=- det n A
 |0,p,r,A,h,hp=>by
  subst h;rw[<- kS n r A (by lia)];exact cJ fun i j _ _=>by
   show A (sw (r+0+1) r i) j=cE r A i j;unfold sw cE
   by_cases h1:i=r
   ·rw[if_pos h1,if_pos h1]
   ·rw[if_neg h1,if_neg h1]
    by_cases h2:i=r+1
    ·rw[if_pos (by lia),if_pos h2]
    ·rw[if_neg (by lia),if_neg h2]
 |t+1,p,r,A,h,hp=>by
  have ih:=Mr n t (r+t+1) r (cE (r+t+1) A) rfl (by lia);have s1:=kS n (r+t+1) A (by lia);have s2:=kS n (r+t+1) (fun i=>cE (r+t+1) A (sw (r+t+1) r i)) (by lia);have e:det n (fun i=>A (sw p r i))=det n (cE (r+t+1) (fun i=>cE (r+t+1) A (sw (r+t+1) r i))):=cJ fun i j _ _=>by
   subst h;show A (sw (r+(t+1)+1) r i) j=cE (r+t+1) (fun i=>cE (r+t+1) A (sw (r+t+1) r i)) i j
   by_cases h1:i=r
   ·have a1:sw (r+(t+1)+1) r i=r+t+1+1:=by unfold sw;rw[if_pos h1];lia
    have a2:sw (r+t+1) r i=r+t+1:=by unfold sw;rw[if_pos h1]
    rw[a1];unfold cE;rw[if_neg (by lia),if_neg (by lia)];dsimp only;rw[a2,if_pos rfl]
   ·by_cases h2:i=r+t+1+1
    ·have a1:sw (r+(t+1)+1) r i=r:=by unfold sw;rw[if_neg h1,if_pos (by lia)]
     have a2:sw (r+t+1) r (r+t+1)=r:=by unfold sw;rw[if_neg (by lia),if_pos rfl]
     rw[a1];unfold cE;rw[if_neg (by lia),if_pos h2];dsimp only;rw[a2,if_neg (by lia),if_neg (by lia)]
    ·have a1:sw (r+(t+1)+1) r i=i:=by unfold sw;rw[if_neg h1,if_neg (by lia)]
     rw[a1]
     by_cases h3:i=r+t+1
     ·have a2:sw (r+t+1) r (r+t+1+1)=r+t+1+1:=by unfold sw;rw[if_neg (by lia),if_neg (by lia)]
      unfold cE;rw[if_pos h3];dsimp only;rw[a2,if_neg (by lia),if_pos rfl,h3]
     ·have a2:sw (r+t+1) r i=i:=by unfold sw;rw[if_neg h1,if_neg h3]
      unfold cE;rw[if_neg h3,if_neg h2];dsimp only;rw[a2,if_neg h3,if_neg h2]
  rw[e,s2,ih,s1];grind
def fE (R:List (List Int))(p r:Nat):List (List Int):=(R.set p (R.getD r [])).set r (R.getD p [])
theorem Xg (R:List (List Int))(p r:Nat):(fE R p r).length=R.length:=by unfold fE;simp
theorem xJ {R:List (List Int)}{p r:Nat}(hp:p < R.length)(hr:r < R.length)(i:Nat):(fE R p r).getD i []=R.getD (sw p r i) []:=by
 unfold fE sw;rw[getD_eq_getElem?_getD]
 by_cases h1:i=r
 ·rw[if_pos h1,h1,getElem?_set_self (by simpa using hr)];rfl
 ·rw[if_neg h1,getElem?_set_ne (Ne.symm h1)]
  by_cases h2:i=p
  ·rw[if_pos h2,h2,getElem?_set_self hp];rfl
  ·rw[if_neg h2,getElem?_set_ne (Ne.symm h2),getD_eq_getElem?_getD]
def gJ (upper row:List Int)(col:Nat)(dv:Int):List Int:=zipWith (fun here above=>Int.fdiv (upper.getD col 0*here - row.getD col 0*above) dv) row upper
def cG (R:List (List Int))(r col:Nat)(dv:Int):List (List Int):=R.mapIdx fun i row=>if i=r then row else gJ (R.getD r []) row col dv
theorem Ew (R:List (List Int))(r col:Nat)(dv:Int):(cG R r col dv).length=R.length:=by unfold cG;simp
theorem pB {R:List (List Int)}{i:Nat}(hi:i < R.length)(r col:Nat)(dv:Int):(cG R r col dv).getD i []=if i=r then R.getD i [] else gJ (R.getD r []) (R.getD i []) col dv:=by
 unfold cG;rw[getD_eq_getElem?_getD,getElem?_mapIdx,getElem?_eq_getElem hi];have:R.getD i []=R[i]:=by rw[getD_eq_getElem?_getD,getElem?_eq_getElem hi];rfl
 rw[this];rfl
structure SI (m w:Nat) (A0:Mat) (R:List (List Int)) (r col:Nat) (d sg:Int):Prop where
 len:R.length=m
 wid:∀i,i < m->(R.getD i []).length=w
 bar:∃A c,Bar m A (at2 R) r col (d:Rat) c/\det m A=(sg:Rat)*det m A0
 one:sg=1\/sg=-1
theorem SI.start {m w:Nat}{R:List (List Int)}(h:R.length=m)(hw:∀i,i < m->(R.getD i []).length=w):SI m w (at2 R) R 0 0 1 1:=
 ⟨h,hw,⟨at2 R,id,by
  have:=Bar.start (m:=m) (A:=at2 R) fun i j=>⟨_,rfl⟩
  simpa using this,by simp⟩,.inl rfl⟩
theorem SI.skip {m w:Nat}{A0:Mat}{R:List (List Int)}{r col:Nat}{d sg:Int}(h:SI m w A0 R r col d sg)(hz:∀i,r<=i->i < m->ent R i col=0):SI m w A0 R r (col+1) d sg:=by
 obtain⟨A,c,B,e⟩:=h.bar;exact⟨h.len,h.wid,⟨A,c,B.skip fun i h1 h2=>by unfold at2;rw[hz i h1 h2];simp,e⟩,h.one⟩
theorem SI.swap {m w:Nat}{A0:Mat}{R:List (List Int)}{r col:Nat}{d sg:Int}(h:SI m w A0 R r col d sg){p:Nat}(hp:r < p)(hm:p < m):SI m w A0 (fE R p r) r col d (-sg):=by
 obtain⟨A,c,B,e⟩:=h.bar;have hl:=h.len;have gd:=fun i=>xJ (R:=R) (p:=p) (r:=r) (by lia) (by lia) i;refine⟨(Xg R p r).trans hl,fun i hi=>?_,⟨_,c,(B.swap (by lia) hm).congr fun i hi=>?_,?_⟩,?_⟩
 ·rw[gd i];exact h.wid _ (yA hm (by lia) hi)
 ·funext x
  show (((R.getD (sw p r i) []).getD x 0:Int):Rat)=((((fE R p r).getD i []).getD x 0:Int):Rat)
  rw[gd i]
 ·rw[Mr m (p - r - 1) p r A (by lia) hm,e,Rat.intCast_neg];grind
 ·rcases h.one with z | z
  ·right;lia
  ·left;lia
theorem kZ {l:List Int}{x:Nat}(h:x < l.length):l[x]?=some (l.getD x 0):=by rw[getD_eq_getElem?_getD,getElem?_eq_getElem h];rfl
theorem tE {l:List Int}{x:Nat}(h:l.length<=x):l.getD x 0=0:=by rw[getD_eq_getElem?_getD,getElem?_eq_none h];rfl
theorem Ek {m w:Nat}{A A0:Mat}{R:List (List Int)}{r col:Nat}{d sg:Int}(h:SI m w A0 R r col d sg){c:Nat->Nat}(B:Bar m A (at2 R) r col (d:Rat) c)(hr:r < m)(hc:col < w)(he:ent R r col≠0){i:Nat}(hi:i < m)(hir:i≠r)(x:Nat) :
  ∃z:Int,(gJ (R.getD r []) (R.getD i []) col d).getD x 0=z/\(z:Rat)=clr (at2 R) r col (d:Rat) i x/\(x < w->ent R r col*ent R i x - ent R i col*ent R r x=d*z):=by
 have dn:d≠0:=fun z=>B.dne (by rw[z];simp);have dq:=B.dne;have heq:at2 R r col≠0:=fun z=>he (Rat.intCast_inj.mp (by unfold at2 at z;simpa using z));have wi:=h.wid i hi;have wr:=h.wid r hr
 by_cases hx:x < w
 ·obtain⟨z,hz⟩:=B.wV hr heq i x hi;have e1:ent R r col*ent R i x - ent R i col*ent R r x=d*z:=by
   rw[kQ _ hir] at hz;have:((ent R r col*ent R i x - ent R i col*ent R r x:Int):Rat)=((d*z:Int):Rat):=by
    rw[Rat.intCast_sub,Rat.intCast_mul,Rat.intCast_mul,Rat.intCast_mul,<- hz];show at2 R r col*at2 R i x - at2 R i col*at2 R r x=_;grind
   exact Rat.intCast_inj.mp this
  refine⟨z,?_,hz.symm,fun _=>e1⟩;unfold gJ;have g1:(R.getD i [])[x]?=some ((R.getD i []).getD x 0):=kZ (by lia);have g2:(R.getD r [])[x]?=some ((R.getD r []).getD x 0):=kZ (by lia);rw[getD_eq_getElem?_getD (l:=zipWith _ _ _),getElem?_zipWith,g1,g2];exact fR dn e1
 ·refine⟨0,?_,?_,fun h=>absurd h hx⟩
  ·unfold gJ;exact tE (by rw[length_zipWith,wi,wr];lia)
  ·rw[kQ _ hir];have a1:at2 R i x=0:=by unfold at2 ent;rw[tE (by lia)];simp
   have a2:at2 R r x=0:=by unfold at2 ent;rw[tE (by lia)];simp
   rw[a1,a2];simp;grind
theorem SI.clear {m w:Nat}{A0:Mat}{R:List (List Int)}{r col:Nat}{d sg:Int}(h:SI m w A0 R r col d sg)(hr:r < m)(hc:col < w)(he:ent R r col≠0):SI m w A0 (cG R r col d) (r+1) (col+1) (ent R r col) sg:=by
 obtain⟨A,c,B,e⟩:=h.bar;have hl:=h.len;have heq:at2 R r col≠0:=fun z=>he (Rat.intCast_inj.mp (by unfold at2 at z;simpa using z));refine⟨(Ew R r col d).trans hl,fun i hi=>?_,⟨A,_,(B.clear hr heq).congr fun i hi=>?_,e⟩,h.one⟩
 ·rw[pB (by lia)];split
  ·exact h.wid i hi
  ·unfold gJ;rw[length_zipWith,h.wid i hi,h.wid r hr,Nat.min_self]
 ·funext x
  show clr (at2 R) r col (d:Rat) i x=((((cG R r col d).getD i []).getD x 0:Int):Rat)
  rw[pB (by lia)]
  by_cases hir:i=r
  ·rw[if_pos hir,hir,yT];rfl
  ·rw[if_neg hir];obtain⟨z,h1,h2,_⟩:=Ek h B hr hc he hi hir x;rw[h1,h2]
def BdR (n:Nat)(R:List (List Int)):Prop:=∀i x,B n (ent R i x)
theorem SI.whole {m w:Nat}{A0:Mat}{R:List (List Int)}{d sg:Int}(h:SI m w A0 R m m d sg):det m A0=(sg:Rat)*(d:Rat):=by
 obtain⟨A,c,B,e⟩:=h.bar;have f:=B.full rfl;have i5:=B.i5;have:det m (fun i j=>A i (c j))=det m A:=cJ fun i j _ hj=>by show A i (c j)=A i j;rw[f j hj]
 rw[this,e] at i5;rcases h.one with z | z
 ·rw[z] at i5 ⊢;simp at i5 ⊢;exact i5
 ·rw[z,Rat.intCast_neg] at i5 ⊢;simp at i5 ⊢;grind
theorem SI.lame {m w:Nat}{A0:Mat}{R:List (List Int)}{r:Nat}{d sg:Int}(h:SI m w A0 R r m d sg)(hr:r < m):det m A0=0:=by
 obtain⟨A,c,B,e⟩:=h.bar;obtain⟨n,rfl⟩:∃n,m=n+1:=⟨m - 1,by lia⟩
 have dq:=B.dne;have e1:det (n+1) A=F n A id (A n):=by
  unfold F;exact cJ fun i j hi _=>by
   unfold yR
   by_cases z:i=n
   ·rw[if_pos z,z];rfl
   ·rw[if_neg z];rfl
 have hΦ:=Ev n A id;have z:=B.i6 _ hΦ fun s hs=>Gy n A id (by lia);have eA:A n=fun x=>(fun x=>(1 / (d:Rat))*at2 R n x) x+(1 / (d:Rat))*(fun x=>rs r fun k=>A n (c k)*at2 R k x) x:=by
  funext x
  have:=B.i4 n x (by lia);rw[if_neg (by lia)] at this;show A n x=(1 / (d:Rat))*at2 R n x+(1 / (d:Rat))*(rs r fun k=>A n (c k)*at2 R k x)
  grind
 have zs:(rs r fun k=>A n (c k)*F n A id (at2 R k))=0:=by
  have:(rs r fun k=>A n (c k)*F n A id (at2 R k))=rs r fun _=>0:=aP fun k hk=>by rw[z k hk];grind
  rw[this,dC]
 have zn:F n A id (at2 R n)=0:=by
  rw[Ja];have:(rs (n+1) fun j=>sgn (n+j)*at2 R n (id j)*det n fun i k=>A i (id (Mq.skip j k)))=rs (n+1) fun _=>0:=aP fun j hj=>by
   rw[show at2 R n (id j)=0 from B.i3 n j (by lia) (by lia) hj];grind
  rw[this,dC]
 have:det (n+1) A=0:=by
  rw[e1,eA,hΦ,hΦ.mul,hΦ.sum,zs,zn];grind
 rw[this] at e;rcases h.one with q | q
 ·rw[q] at e;simp at e;exact e.symm
 ·rw[q,Rat.intCast_neg] at e;simp at e;grind
def Ic:Nat->(Nat->Rat)->Rat
 |0,_=>1
 |n+1,b=>Ic n b*b n
theorem pY:∀(n:Nat) (b:Nat->Rat) (Q:Mat),det n (fun i j=>b i*Q i j)=Ic n b*det n Q
 |0,_,_=>by simp[det,Ic]
 |n+1,b,Q=>by
  rw[fU,fU,<- fF];refine aP fun j _=>?_;have:=pY n b (fun i k=>Q i (Mq.skip j k));show sgn (n+j)*(b n*Q n j)*det n (fun i k=>b i*Q i (Mq.skip j k))=Ic n b*b n*_;rw[this];grind
end Mq
open Mq (BdR Ic Mat SI cG cJ ent fE gJ kZ oR pB pY xJ)
namespace Shp
open PySem L2
inductive Imx (D:Addr) (H:Hp):List V->List (List Int)->Prop where
 |nil:Imx D H [] []
 |cons {u:Addr} {r:List Int} {us:List V} {R:List (List Int)} (ne:u≠D) (h:H u=some (.lst (r.map V.int))) (q:Imx D H us R):Imx D H (.ref u :: us) (r :: R)
theorem Imx.same {D:Addr}{H H':Hp}(e:aV H H'):∀{xs:List V} {R:List (List Int)},Imx D H xs R->Imx D H' xs R
 |_,_,.nil=>.nil
 |_,_,.cons n h q=>.cons n (e _ _ h) (q.same e)
theorem Imx.upd {D:Addr}{H:Hp}{o:HO}:∀{xs:List V} {R:List (List Int)},Imx D H xs R->Imx D (L2.upd H D o) xs R
 |_,_,.nil=>.nil
 |_,_,.cons n h q=>.cons n (by rw[aU n];exact h) q.upd
theorem Imx.length {D:Addr}{H:Hp}:∀{xs:List V} {R:List (List Int)},Imx D H xs R->xs.length=R.length
 |_,_,.nil=>rfl
 |_,_,.cons _ _ q=>by rw[length_cons,length_cons,q.length]
theorem Imx.get {D:Addr}{H:Hp}:∀{xs:List V} {R:List (List Int)} {i:Nat} {x:V},Imx D H xs R->xs[i]?=some x->∃u r,x=.ref u/\R[i]?=some r/\u≠D/\H u=some (.lst (r.map V.int))
 |_,_,0,_,.cons n h q,e=>by simp at e;exact⟨_,_,e.symm,rfl,n,h⟩
 |_,_,i+1,_,.cons n h q,e=>by simp at e;exact q.get e
theorem Imx.at {D:Addr}{H:Hp}{xs:List V}{R:List (List Int)}(h:Imx D H xs R){i:Nat}(hi:i < R.length):∃u,xs[i]?=some (.ref u)/\u≠D/\H u=some (.lst ((R.getD i []).map V.int)):=by
 have hx:i < xs.length:=by rw[h.length];exact hi
 obtain⟨u,r,e1,e2,e3,e4⟩:=h.get (getElem?_eq_getElem hx);refine⟨u,by rw[getElem?_eq_getElem hx,e1],e3,?_⟩;rw[getD_eq_getElem?_getD,e2];exact e4
theorem Imx.app {D:Addr}{H:Hp}:∀{xs ys:List V} {R S:List (List Int)},Imx D H xs R->Imx D H ys S->Imx D H (xs++ys) (R++S)
 |_,_,_,_,.nil,k=>k
 |_,_,_,_,.cons n h q,k=>.cons n h (q.app k)
theorem Imx.set {D:Addr}{H:Hp}{u:Addr}{r:List Int}(hn:u≠D)(hu:H u=some (.lst (r.map V.int))):∀{xs:List V} {R:List (List Int)} (i:Nat),Imx D H xs R->Imx D H (xs.set i (.ref u)) (R.set i r)
 |_,_,_,.nil=>by simp;exact .nil
 |_,_,0,.cons n h q=>.cons hn hu q
 |_,_,i+1,.cons n h q=>.cons n h (q.set hn hu i)
theorem Imx.other {D D':Addr}{H:Hp}(hD:H D'=none):∀{xs:List V} {R:List (List Int)},Imx D H xs R->Imx D' H xs R
 |_,_,.nil=>.nil
 |_,_,.cons n h q=>.cons (fun z=>by rw[z,hD] at h;cases h) h (q.other hD)
theorem kE {l:List Int}{i:Nat}(h:i < l.length):(l.map V.int)[i]?=some (.int (l.getD i 0)):=by
 rw[getElem?_map,kZ h];rfl
def Tz (K:Frag):Sp:=fun vs H Q _=>∃(a:Addr) (xs:List V) (ps:List Q2) (n:Nat),vs=[.ref a]/\SqL K H a xs/\Fqs K H xs ps/\Mq.Pos ps/\(∀p∈ps,Bd n p)/\ps.length<=100/\10+n+n*ps.length<=8000/\
 ∀t l H',aV H H'->H l=none->SqT K H' t [.ref l,.int (eK ps)]->H' l=some (.lst ((iw ps).map V.int))->Q (.ref t) H'
def Uc (K:Frag):Sp:=fun vs H Q _=>∃(l D:Addr) (zs:List V) (R:List (List Int)) (r c m w:Nat),vs=[.ref l,.int (r:Int),.int (c:Int)]/\SqL K H l zs/\Imx D H zs R/\R.length=m/\(∀i,i < m->(R.getD i []).length=w)/\c < w/\r<=m/\m<=100/\
 (∀p,r<=p->p < m->ent R p c≠0->Q (.int (p:Int)) H)/\((∀i,r<=i->i < m->ent R i c=0)->Q .non H)
def wQ (K:Frag):Sp:=fun vs H Q _=>∃(u v:Addr) (row upper:List Int) (c n:Nat) (dv:Int),vs=[.ref u,.ref v,.int (c:Int),.int dv]/\SqL K H u (row.map V.int)/\SqL K H v (upper.map V.int)/\row.length=upper.length/\row.length<=100/\c < row.length/\dv≠0/\
 (∀i,Mq.B n (row.getD i 0))/\(∀i,Mq.B n (upper.getD i 0))/\Mq.B n dv/\n<=9000/\
 ∀l H',aV H H'->H l=none->H' l=some (.lst ((gJ upper row c dv).map V.int))->Q (.ref l) H'
def wZ (K:Frag):Sp:=fun vs H Q _=>∃(l D:Addr) (zs:List V) (R:List (List Int)) (r c m w n:Nat) (dv:Int),vs=[.ref l,.int (r:Int),.int (c:Int),.int dv]/\SqL K H l zs/\Imx D H zs R/\R.length=m/\(∀i,i < m->(R.getD i []).length=w)/\c < w/\w<=100/\r < m/\m<=100/\dv≠0/\BdR n R/\Mq.B n dv/\n<=9000/\
 ∀l' zs' H',aV H H'->H l'=none->H' l'=some (.lst zs')->Imx l' H' zs' (cG R r c dv)->Q (.ref l') H'
def Ot (l:Addr)(rank:Nat)(pivot sign:Int):HO:=.dK (jE [] [(.inr "rows",.ref l),(.inr "rank",.int (rank:Int)),(.inr "pivot",.int pivot),(.inr "sign",.int sign)])
def wgt (X:List (List Q2)):Rat:=Mq.det X.length fun i j=>Mq.val ((X.getD i []).getD j Mq.z0)
theorem Au {H:Hp}{d l:Addr}{rank:Nat}{pivot sign:Int}(h:H d=some (Ot l rank pivot sign)):jK H d (.str "rows") (some (.ref l))/\jK H d (.str "rank") (some (.int (rank:Int)))/\jK H d (.str "pivot") (some (.int pivot))/\jK H d (.str "sign") (some (.int sign)):=by
 refine⟨?_,?_,?_,?_⟩
 ·exact jK.k (k:=(Sum.inr "rows":Key)) h
 ·exact jK.k (k:=(Sum.inr "rank":Key)) h
 ·exact jK.k (k:=(Sum.inr "pivot":Key)) h
 ·exact jK.k (k:=(Sum.inr "sign":Key)) h
def rA (X:List (List Q2)):Int:=X.foldl (fun b row=>b*eK row) 1
theorem vW {X:List (List Q2)}{i:Nat}{row:List Q2}(h:X[i]?=some row):rA (X.take (i+1))=rA (X.take i)*eK row:=by
 unfold rA;rw[take_add_one,h,foldl_append];rfl
theorem qE (X:List (List Q2)):∀i,i<=X.length->((rA (X.take i):Int):Rat)=Ic i fun k=>((eK (X.getD k []):Int):Rat)
 |0,_=>by simp[rA,Ic]
 |i+1,h=>by
  have e:X[i]?=some (X.getD i []):=by rw[getD_eq_getElem?_getD,getElem?_eq_getElem (by lia)];rfl
  rw[vW e,Rat.intCast_mul,qE X i (by lia)];rfl
theorem zC {X:List (List Q2)}(hX:fK X):∀i,i<=X.length->1<=rA (X.take i)
 |0,_=>by show (1:Int)<=1;lia
 |i+1,h=>by
  have e:X[i]?=some (X.getD i []):=by rw[getD_eq_getElem?_getD,getElem?_eq_getElem (by lia)];rfl
  rw[vW e];have h1:=zC hX i (by lia);have h2:=rC (hX _ (mem_of_getElem? e));have:=Int.mul_pos (show 0 < rA (X.take i) by lia) (show 0 < eK (X.getD i []) by lia);lia
theorem Lr {row:List Q2}(hp:Mq.Pos row){j:Nat}(hj:j < row.length):(((iw row).getD j 0:Int):Rat)=((eK row:Int):Rat)*Mq.val (row.getD j Mq.z0):=by
 have ej:row[j]?=some (row.getD j Mq.z0):=by rw[getD_eq_getElem?_getD,getElem?_eq_getElem hj];rfl
 have mem:row.getD j Mq.z0∈row:=mem_of_getElem? ej;obtain⟨k,hk⟩:=Be hp _ mem;have e2:(iw row).getD j 0=zV (eK row) (row.getD j Mq.z0):=by
  unfold iw;rw[getD_eq_getElem?_getD,getElem?_map,ej];rfl
 rw[e2,Mq.La (hp _ mem) hk];grind
theorem uJ (row:List Q2):(iw row).length=row.length:=by unfold iw;simp
end Shp
namespace Mq
theorem mD (m a:Nat)(v:Rat)(h:a < m):(rs m fun i=>if i=a then v else 0)=v:=by
 induction m with
 |zero=>lia
 |succ m ih=>
  simp only[rs]
  by_cases e:m=a
  ·subst e;rw[if_pos rfl];have:(rs m fun i=>if i=m then v else 0)=rs m fun _=>0:=aP fun i hi=>by rw[if_neg (by lia)]
   rw[this,dC];grind
  ·rw[if_neg e,ih (by lia)];grind
theorem qb2 (m p r:Nat)(hp:p < m)(hr:r < m)(F:Nat->Rat):(rs m fun i=>F (sw p r i))=rs m F:=by
 by_cases e:p=r
 ·subst e;exact aP fun i _=>by
   congr 1;unfold sw
   by_cases h:i=p
   ·rw[if_pos h,h]
   ·rw[if_neg h,if_neg h]
 have:(rs m fun i=>F (sw p r i))=rs m fun i=>F i+((if i=r then F p - F r else 0)+(if i=p then F r - F p else 0)):=aP fun i _=>by
  unfold sw
  by_cases h1:i=r
  ·rw[if_pos h1,if_pos h1,if_neg (by lia),h1];grind
  ·rw[if_neg h1,if_neg h1]
   by_cases h2:i=p
   ·rw[if_pos h2,if_pos h2,h2];grind
   ·rw[if_neg h2,if_neg h2];grind
 rw[this,dQ,dQ,mD m r _ hr,mD m p _ hp];grind
structure LI (m:Nat) (Aq:Mat) (R:List (List Int)):Prop where
 lin:∀i x,i < m->x < m->at2 R i x=rs m fun k=>at2 R i (m+k)*Aq k x
 ind:∀lam:Nat->Rat,(∀j,j < m->(rs m fun i=>lam i*at2 R i (m+j))=0)->∀i,i < m->lam i=0
theorem qC {R:List (List Int)}{p r:Nat}(hp:p < R.length)(hr:r < R.length)(i x:Nat):at2 (fE R p r) i x=at2 R (sw p r i) x:=by
 show ((((fE R p r).getD i []).getD x 0:Int):Rat)=_;rw[xJ hp hr];rfl
theorem LI.swap {m:Nat}{Aq:Mat}{R:List (List Int)}(h:LI m Aq R)(hl:R.length=m){p r:Nat}(hp:p < m)(hr:r < m):LI m Aq (fE R p r) where
 lin:=fun i x hi hx=>by
  rw[qC (by lia) (by lia),h.lin _ x (yA hp hr hi) hx];exact aP fun k _=>by rw[qC (by lia) (by lia)]
 ind:=fun lam hz i hi=>by
  have:=h.ind (fun i=>lam (sw p r i)) (fun j hj=>by
   rw[<- hz j hj,<- qb2 m p r hp hr];exact aP fun i _=>by
    show lam (sw p r (sw p r i))*_=_;rw[Mo,qC (by lia) (by lia)]) (sw p r i) (yA hp hr hi)
  have e:lam (sw p r (sw p r i))=0:=this
  rwa [Mo] at e
theorem rH {m w:Nat}{A0:Mat}{R:List (List Int)}{r col:Nat}{d sg:Int}(h:SI m w A0 R r col d sg)(hr:r < m)(hc:col < w)(he:ent R r col≠0){i:Nat}(hi:i < m)(x:Nat) :
  at2 (cG R r col d) i x=if i=r then at2 R i x else (at2 R r col*at2 R i x - at2 R i col*at2 R r x) / (d:Rat):=by
 obtain⟨A,c,B,e⟩:=h.bar;have hl:=h.len;show ((((cG R r col d).getD i []).getD x 0:Int):Rat)=_;rw[pB (by lia)]
 by_cases hir:i=r
 ·rw[if_pos hir,if_pos hir];rfl
 ·rw[if_neg hir,if_neg hir];obtain⟨z,h1,h2,_⟩:=Ek h B hr hc he hi hir x;rw[h1,h2,kQ _ hir]
theorem SI.dne {m w:Nat}{A0:Mat}{R:List (List Int)}{r col:Nat}{d sg:Int}(h:SI m w A0 R r col d sg):(d:Rat)≠0:=by
 obtain⟨A,c,B,e⟩:=h.bar;exact B.dne
theorem LI.clear {m w:Nat}{Aq A0:Mat}{R:List (List Int)}{r col:Nat}{d sg:Int}(h:LI m Aq R)(s:SI m w A0 R r col d sg)(hr:r < m)(hc:col < w)(he:ent R r col≠0):LI m Aq (cG R r col d):=by
 have dn:=s.dne;have hn:at2 R r col≠0:=fun z=>he (Rat.intCast_inj.mp (by unfold at2 at z;simpa using z));have cl:=fun (i:Nat) (hi:i < m) (x:Nat)=>rH s hr hc he hi x;refine⟨fun i x hi hx=>?_,fun lam hz i hi=>?_⟩
 ·rw[cl i hi x]
  by_cases e:i=r
  ·rw[if_pos e,h.lin i x hi hx];exact aP fun k _=>by rw[cl i hi,if_pos e]
  ·rw[if_neg e,h.lin i x hi hx,h.lin r x hr hx];have:(rs m fun k=>at2 (cG R r col d) i (m+k)*Aq k x)=rs m fun k=>(at2 R r col / (d:Rat))*(at2 R i (m+k)*Aq k x)+(-(at2 R i col / (d:Rat)))*(at2 R r (m+k)*Aq k x):=aP fun k _=>by rw[cl i hi,if_neg e];grind
   rw[this,dQ,fF,fF];grind
 ·-- the factors of the rows as they were
  have key:=h.ind (fun i=>if i=r then lam r - (rs m fun k=>if k=r then 0 else lam k*(at2 R k col / (d:Rat))) else lam i*(at2 R r col / (d:Rat))) (fun j hj=>by
   have e0:=hz j hj;have e1:(rs m fun i=>lam i*at2 (cG R r col d) i (m+j))=rs m fun i=>(if i=r then lam r*at2 R r (m+j) else 0)+((if i=r then 0 else lam i*(at2 R r col / (d:Rat))*at2 R i (m+j))+(-(at2 R r (m+j)))*(if i=r then 0 else lam i*(at2 R i col / (d:Rat)))):=aP fun i hi=>by
    rw[cl i hi]
    by_cases e:i=r
    ·rw[if_pos e,if_pos e,if_pos e,if_pos e,e];grind
    ·rw[if_neg e,if_neg e,if_neg e,if_neg e];grind
   rw[e1,dQ,dQ,fF,mD m r _ hr] at e0;have e2:(rs m fun i=>(if i=r then lam r - (rs m fun k=>if k=r then 0 else lam k*(at2 R k col / (d:Rat))) else lam i*(at2 R r col / (d:Rat)))*at2 R i (m+j))=rs m fun i=>(if i=r then (lam r - (rs m fun k=>if k=r then 0 else lam k*(at2 R k col / (d:Rat))))*at2 R r (m+j) else 0)+(if i=r then 0 else lam i*(at2 R r col / (d:Rat))*at2 R i (m+j)):=aP fun i _=>by
    by_cases e:i=r
    ·rw[if_pos e,if_pos e,if_pos e,e];grind
    ·rw[if_neg e,if_neg e,if_neg e];grind
   rw[e2,dQ,mD m r _ hr];grind)
  have other:∀k,k < m->k≠r->lam k=0:=fun k hk e=>by
   have:=key k hk;rw[if_neg e] at this;have n2:at2 R r col / (d:Rat)≠0:=fun z=>hn (by grind);grind
  by_cases e:i=r
  ·have:=key r hr;rw[if_pos rfl] at this;have z:(rs m fun k=>if k=r then 0 else lam k*(at2 R k col / (d:Rat)))=rs m fun _=>0:=aP fun k hk=>by
    by_cases e:k=r
    ·rw[if_pos e]
    ·rw[if_neg e,other k hk e];grind
   rw[z,dC] at this;rw[e];grind
  ·exact other i hi e
theorem LI.lame {m w:Nat}{Aq A0:Mat}{R:List (List Int)}{d sg:Int}{r:Nat}(h:LI m Aq R)(s:SI m w A0 R r m d sg)(hr:r < m):(∃k,k < m/\ent R (m - 1) (m+k)≠0)/\∀x,x < m->(rs m fun k=>at2 R (m - 1) (m+k)*Aq k x)=0:=by
 obtain⟨A,c,B,e⟩:=s.bar;refine⟨Classical.byContradiction fun n=>?_,fun x hx=>?_⟩
 ·have all:∀k,k < m->ent R (m - 1) (m+k)=0:=fun k hk=>Classical.byContradiction fun z=>n ⟨k,hk,z⟩;have:=h.ind (fun i=>if i=m - 1 then 1 else 0) (fun j hj=>by
   have:(rs m fun i=>(if i=m - 1 then (1:Rat) else 0)*at2 R i (m+j))=rs m fun _=>0:=aP fun i _=>by
    by_cases e:i=m - 1
    ·rw[if_pos e,e];have:at2 R (m - 1) (m+j)=0:=by unfold at2;rw[all j hj];simp
     rw[this];grind
    ·rw[if_neg e];grind
   rw[this,dC]) (m - 1) (by lia)
  rw[if_pos rfl] at this;grind
 ·rw[<- h.lin (m - 1) x (by lia) hx];exact B.i3 (m - 1) x (by lia) (by lia) hx
end Mq
namespace Shp
open PySem L2
inductive Fmd (K:Frag) (H0:Hp) (D:Addr) (H:Hp):List V->List (List Q2)->Prop where
 |nil:Fmd K H0 D H [] []
 |cons {u:Addr} {xs:List V} {ps:List Q2} {us:List V} {X:List (List Q2)} (n0:H0 u=none) (ne:u≠D) (h:H u=some (.lst xs)) (f:Fqs K H xs ps) (q:Fmd K H0 D H us X):Fmd K H0 D H (.ref u :: us) (ps :: X)
theorem Fmd.length {K:Frag}{H0:Hp}{D:Addr}{H:Hp}:∀{xs:List V} {X:List (List Q2)},Fmd K H0 D H xs X->xs.length=X.length
 |_,_,.nil=>rfl
 |_,_,.cons _ _ _ _ q=>by rw[length_cons,length_cons,q.length]
def pX (X:List (List Q2)):Mat:=fun i j=>Mq.val ((X.getD i []).getD j Mq.z0)
def mM (m i:Nat)(row:List Q2):List Int:=iw row++(List.range m).map fun c=>if c=i then eK row else 0
def jS (X:List (List Q2)):List (List Int):=X.mapIdx fun i row=>mM X.length i row
theorem Ov (X:List (List Q2)):(jS X).length=X.length:=by unfold jS;simp
theorem tV {X:List (List Q2)}{i:Nat}(h:i < X.length):(jS X).getD i []=mM X.length i (X.getD i []):=by
 unfold jS;rw[getD_eq_getElem?_getD,getElem?_mapIdx,getD_eq_getElem?_getD,getElem?_eq_getElem h];rfl
theorem uU {X:List (List Q2)}{i:Nat}(h:i < X.length):X[i]?=some (X.getD i []):=by rw[getD_eq_getElem?_getD,getElem?_eq_getElem h];rfl
theorem Aw (m i:Nat)(row:List Q2):(mM m i row).length=row.length+m:=by unfold mM;simp[uJ]
theorem vV {X:List (List Q2)}(hX:fK X)(hw:∀row∈X,row.length=X.length){i x:Nat}(hi:i < X.length)(hx:x < X.length):Mq.at2 (jS X) i x=((eK (X.getD i []):Int):Rat)*pX X i x:=by
 have mem:=mem_of_getElem? (uU hi);show ((((jS X).getD i []).getD x 0:Int):Rat)=_;rw[tV hi];unfold mM;have l:=hw _ mem;rw[getD_eq_getElem?_getD,getElem?_append_left (by rw[uJ];lia),<- getD_eq_getElem?_getD];exact Lr (hX _ mem) (by lia)
theorem uG {X:List (List Q2)}(hw:∀row∈X,row.length=X.length){i k:Nat}(hi:i < X.length)(hk:k < X.length):ent (jS X) i (X.length+k)=if k=i then eK (X.getD i []) else 0:=by
 have mem:=mem_of_getElem? (uU hi);unfold ent;rw[tV hi];unfold mM;have l:=hw _ mem;rw[getD_eq_getElem?_getD,getElem?_append_right (by rw[uJ];lia),uJ,l,Nat.add_sub_cancel_left,getElem?_map,getElem?_range hk];rfl
theorem Qu {X:List (List Q2)}(hX:fK X)(hw:∀row∈X,row.length=X.length):Mq.LI X.length (pX X) (jS X) where
 lin:=fun i x hi hx=>by
  rw[vV hX hw hi hx];have:(Mq.rs X.length fun k=>Mq.at2 (jS X) i (X.length+k)*pX X k x)=Mq.rs X.length fun k=>if k=i then ((eK (X.getD i []):Int):Rat)*pX X i x else 0:=aP fun k hk=>by
   show ((ent (jS X) i (X.length+k):Int):Rat)*_=_;rw[uG hw hi hk]
   by_cases e:k=i
   ·rw[if_pos e,if_pos e,e]
   ·rw[if_neg e,if_neg e];simp
  rw[this,Mq.mD _ _ _ hi]
 ind:=fun lam hz i hi=>by
  have e:=hz i hi;have:(Mq.rs X.length fun j=>lam j*Mq.at2 (jS X) j (X.length+i))=Mq.rs X.length fun j=>if j=i then lam i*((eK (X.getD i []):Int):Rat) else 0:=aP fun k hk=>by
   show _*((ent (jS X) k (X.length+i):Int):Rat)=_;rw[uG hw hk hi]
   by_cases e:k=i
   ·rw[if_pos e,if_pos e.symm,e]
   ·rw[if_neg e,if_neg (Ne.symm e)];simp
  rw[this,Mq.mD _ _ _ hi] at e;have g:=rC (hX _ (mem_of_getElem? (uU hi)));have n:=dP (show eK (X.getD i [])≠0 by lia);grind
theorem Ti {X:List (List Q2)}{R:List (List Int)}(h:∀i j,i < X.length->j < X.length->Mq.at2 R i j=((eK (X.getD i []):Int):Rat)*pX X i j):Mq.det X.length (Mq.at2 R)=((rA X:Int):Rat)*wgt X:=by
 unfold wgt;have hb:=qE X X.length (Nat.le_refl _);rw[take_length] at hb;rw[hb,<- pY];exact cJ fun i j hi hj=>h i j hi hj
theorem Kl {X:List (List Q2)}{R R':List (List Int)}{w r:Nat}{d sg:Int}(hX:fK X)(hR:Mq.det X.length (Mq.at2 R)=((rA X:Int):Rat)*wgt X)(h:SI X.length w (Mq.at2 R) R' r X.length d sg):(r < X.length/\wgt X=0)\/(r=X.length/\wgt X≠0):=by
 have b1:=zC hX X.length (Nat.le_refl _);rw[take_length] at b1;have bn:=dP (show rA X≠0 by lia);obtain⟨A,c,B,e⟩:=h.bar;have rm:=B.rm;have dn:=B.dne;clear B
 by_cases hr:r < X.length
 ·left
  have e:=h.lame hr;rw[hR] at e;exact⟨hr,by grind⟩
 ·right
  have er:r=X.length:=by lia
  subst er;refine⟨rfl,fun z=>?_⟩;have e:=h.whole;rw[hR,z] at e;rcases h.one with q | q
  ·rw[q] at e;simp at e;grind
  ·rw[q,Rat.intCast_neg] at e;simp at e;grind
structure Stp (m w:Nat) (A0:Mat) (Pr:List (List Int)->Prop):Prop where
 sw:∀R r col d sg p,SI m w A0 R r col d sg->r < p->p < m->Pr R->Pr (fE R p r)
 cl:∀R r col d sg,SI m w A0 R r col d sg->r < m->col < w->ent R r col≠0->Pr R->Pr (cG R r col d)
theorem Vy {m w:Nat}{A0 Aq:Mat}:Stp m w A0 (Mq.LI m Aq):=
 ⟨fun R r col d sg p s h1 h2 h=>h.swap s.len h2 (by lia),fun R r col d sg s h1 h2 h3 h=>h.clear s h1 h2 h3⟩
end Shp
namespace Mq
theorem Lo {row:List Q2}{j:Nat}(h:j < row.length):row[j]?=some (row.getD j z0):=by rw[getD_eq_getElem?_getD,getElem?_eq_getElem h];rfl
end Mq
namespace Shp
open PySem L2
theorem Fmd.get {K:Frag}{H0:Hp}{D:Addr}{H:Hp}:∀{xs:List V} {X:List (List Q2)} {i:Nat} {x:V},Fmd K H0 D H xs X->xs[i]?=some x->∃u ys ps,x=.ref u/\X[i]?=some ps/\H0 u=none/\u≠D/\H u=some (.lst ys)/\Fqs K H ys ps
 |_,_,0,_,.cons n0 n h f q,e=>by simp at e;exact⟨_,_,_,e.symm,rfl,n0,n,h,f⟩
 |_,_,i+1,_,.cons n0 n h f q,e=>by simp at e;exact q.get e
end Shp
namespace Mq
def KI (m:Nat)(A0:Mat)(R:List (List Int)):Prop:=∀Φ,Lin Φ->(∀k,k < m->Φ (at2 R k)=0)->∀i,i < m->Φ (A0 i)=0
theorem KI.swap {m:Nat}{A0:Mat}{R:List (List Int)}(h:KI m A0 R)(hl:R.length=m){p r:Nat}(hp:p < m)(hr:r < m):KI m A0 (fE R p r):=fun Φ lin hz=>by
 refine h Φ lin fun k hk=>?_;have e:at2 R k=at2 (fE R p r) (sw p r k):=by
  funext x
  rw[qC (by lia) (by lia),Mo]
 rw[e];exact hz _ (yA hp hr hk)
theorem KI.clear {m w:Nat}{A0 A1:Mat}{R:List (List Int)}{r col:Nat}{d sg:Int}(h:KI m A1 R)(s:SI m w A0 R r col d sg)(hr:r < m)(hc:col < w)(he:ent R r col≠0):KI m A1 (cG R r col d):=fun Φ lin hz=>by
 have dn:=s.dne;have hn:at2 R r col≠0:=fun z=>he (Rat.intCast_inj.mp (by unfold at2 at z;simpa using z));have cl:=fun (i:Nat) (hi:i < m) (x:Nat)=>rH s hr hc he hi x;have zr:Φ (at2 R r)=0:=by
  have e:at2 R r=at2 (cG R r col d) r:=by funext x;rw[cl r hr x,if_pos rfl]
  rw[e];exact hz r hr
 refine h Φ lin fun k hk=>?_
 by_cases e:k=r
 ·rw[e];exact zr
 ·have e2:at2 R k=fun x=>(fun x=>((d:Rat) / at2 R r col)*at2 (cG R r col d) k x) x+(at2 R k col / at2 R r col)*at2 R r x:=by
   funext x
   show _=((d:Rat) / at2 R r col)*at2 (cG R r col d) k x+_;rw[cl k hk x,if_neg e];grind
  rw[e2,lin,lin.mul,hz k hk,zr];grind
theorem KI.whole {m w:Nat}{A0 A1:Mat}{R:List (List Int)}{d sg:Int}(h:KI m A1 R)(s:SI m w A0 R m m d sg){i:Nat}(hi:i < m):(rs m fun k=>A1 i k*(at2 R k m / (d:Rat)))=A1 i m:=by
 obtain⟨A,c,B,e⟩:=s.bar;have dn:=B.dne;have:=h (fun f=>(rs m fun k=>f k*(at2 R k m / (d:Rat))) - f m) (fun x y l=>by
  have:(rs m fun k=>(x k+l*y k)*(at2 R k m / (d:Rat)))=(rs m fun k=>x k*(at2 R k m / (d:Rat))+l*(y k*(at2 R k m / (d:Rat)))):=aP fun k _=>by grind
  show (rs m fun k=>(x k+l*y k)*(at2 R k m / (d:Rat))) - (x m+l*y m)=((rs m fun k=>x k*(at2 R k m / (d:Rat))) - x m)+l*((rs m fun k=>y k*(at2 R k m / (d:Rat))) - y m)
  rw[this,dQ,fF];grind) (fun k hk=>by
  have:(rs m fun j=>at2 R k j*(at2 R j m / (d:Rat)))=rs m fun j=>if j=k then (d:Rat)*(at2 R k m / (d:Rat)) else 0:=aP fun j hj=>by
   have i2:=B.i2 k j hk hj;rw[B.full rfl j hj] at i2;rw[i2]
   by_cases z:j=k
   ·rw[if_pos z,if_pos z,z]
   ·rw[if_neg z,if_neg z];grind
  show (rs m fun j=>at2 R k j*(at2 R j m / (d:Rat))) - at2 R k m=0;rw[this,mD m k _ hk];grind) i hi
 have e2:(rs m fun k=>A1 i k*(at2 R k m / (d:Rat))) - A1 i m=0:=this;grind
end Mq
namespace Shp
open PySem L2
def lU (X:List (List Q2))(qs:List Q2):List (List Q2):=zipWith (fun row q=>row++[q]) X qs
def iG (X:List (List Q2))(qs:List Q2):List (List Int):=(lU X qs).map iw
section
variable {X:List (List Q2)} {qs:List Q2}
theorem pC (hl:qs.length=X.length):(lU X qs).length=X.length:=by unfold lU;simp[hl]
theorem Ax (hl:qs.length=X.length):(iG X qs).length=X.length:=by unfold iG;rw[length_map,pC hl]
theorem oN (hl:qs.length=X.length){i:Nat}(hi:i < X.length):(lU X qs).getD i []=X.getD i []++[qs.getD i Mq.z0]:=by
 unfold lU;rw[getD_eq_getElem?_getD,getElem?_zipWith,uU hi,Mq.Lo (show i < qs.length by lia)];rfl
theorem uM (hl:qs.length=X.length){i:Nat}(hi:i < X.length):(iG X qs).getD i []=iw (X.getD i []++[qs.getD i Mq.z0]):=by
 unfold iG;rw[getD_eq_getElem?_getD,getElem?_map,uU (X:=lU X qs) (by rw[pC hl];exact hi),oN hl hi];rfl
theorem rQ (hX:fK X)(hq:Mq.Pos qs)(hl:qs.length=X.length){i:Nat}(hi:i < X.length):Mq.Pos (X.getD i []++[qs.getD i Mq.z0]):=fun p hp=>by
 rcases mem_append.mp hp with z | z
 ·exact hX _ (mem_of_getElem? (uU hi)) p z
 ·have e:p=qs.getD i Mq.z0:=by simpa using z
  rw[e];exact Mq.Oc hq i
theorem Ce (hX:fK X)(hq:Mq.Pos qs)(hl:qs.length=X.length):fK (lU X qs):=fun row hr=>by
 obtain⟨i,hi,rfl⟩:=getElem_of_mem hr;have hi':i < X.length:=by rw[pC hl] at hi;exact hi
 have e:=oN hl hi';rw[getD_eq_getElem?_getD,getElem?_eq_getElem hi] at e;have e':(lU X qs)[i]=X.getD i []++[qs.getD i Mq.z0]:=e;rw[e'];exact rQ hX hq hl hi'
theorem tZ (hX:fK X)(hq:Mq.Pos qs)(hl:qs.length=X.length)(hw:∀row∈X,row.length=X.length){i x:Nat}(hi:i < X.length)(hx:x < X.length+1) :
  Mq.at2 (iG X qs) i x=((eK ((lU X qs).getD i []):Int):Rat)*if x < X.length then pX X i x else Mq.val (qs.getD i Mq.z0):=by
 have l:=hw _ (mem_of_getElem? (uU hi));show ((((iG X qs).getD i []).getD x 0:Int):Rat)=_;rw[uM hl hi,oN hl hi,Lr (rQ hX hq hl hi) (by rw[List.length_append,l];simpa using hx)];congr 1
 by_cases h:x < X.length
 ·rw[if_pos h,getD_eq_getElem?_getD,getElem?_append_left (by rw[l];exact h),<- getD_eq_getElem?_getD];rfl
 ·have ex:x=X.length:=by lia
  rw[if_neg h,getD_eq_getElem?_getD,getElem?_append_right (by rw[l];lia),l,ex,Nat.sub_self];rfl
theorem Pw (hX:fK X)(hq:Mq.Pos qs)(hl:qs.length=X.length)(hw:∀row∈X,row.length=X.length):Mq.det X.length (Mq.at2 (iG X qs))=((rA (lU X qs):Int):Rat)*wgt X:=by
 unfold wgt;have hb:=qE (lU X qs) (lU X qs).length (Nat.le_refl _);rw[take_length,pC hl] at hb;rw[hb,<- pY];refine cJ fun i j hi hj=>?_;rw[tZ hX hq hl hw hi (by lia),if_pos hj];rfl
theorem Jf {R R':List (List Int)}{w r:Nat}{d sg:Int}{f:Rat}(fn:f≠0)(hR:Mq.det X.length (Mq.at2 R)=f*wgt X)(h:SI X.length w (Mq.at2 R) R' r X.length d sg):(r < X.length/\wgt X=0)\/(r=X.length/\wgt X≠0):=by
 obtain⟨A,c,B,e⟩:=h.bar;have rm:=B.rm;have dn:=B.dne;clear B
 by_cases hr:r < X.length
 ·left
  have e:=h.lame hr;rw[hR] at e;exact⟨hr,by grind⟩
 ·right
  have er:r=X.length:=by lia
  subst er;refine⟨rfl,fun z=>?_⟩;have e:=h.whole;rw[hR,z] at e;rcases h.one with q | q
  ·rw[q] at e;simp at e;grind
  ·rw[q,Rat.intCast_neg] at e;simp at e;grind
theorem Oj (hX:fK X)(hq:Mq.Pos qs)(hl:qs.length=X.length)(hw:∀row∈X,row.length=X.length){R':List (List Int)}{w r:Nat}{d sg:Int}(h:SI X.length w (Mq.at2 (iG X qs)) R' r X.length d sg):(r < X.length/\wgt X=0)\/(r=X.length/\wgt X≠0):=by
 have b1:=zC (Ce hX hq hl) (lU X qs).length (Nat.le_refl _);rw[take_length] at b1;exact Jf (dP (show rA (lU X qs)≠0 by lia)) (Pw hX hq hl hw) h
end
structure Slv (X:List (List Q2)) (qs ps:List Q2):Prop where
 len:ps.length=X.length
 low:iW ps
 bd:∀p∈ps,Bd 9000 p
 sum:∀i,i < X.length->(Mq.rs X.length fun j=>pX X i j*Mq.val (ps.getD j Mq.z0))=Mq.val (qs.getD i Mq.z0)
theorem Uu {X:List (List Q2)}{qs:List Q2}(hX:fK X)(hq:Mq.Pos qs)(hl:qs.length=X.length)(hw:∀row∈X,row.length=X.length){R:List (List Int)}{w:Nat}{d sg:Int}(h:Mq.KI X.length (Mq.at2 (iG X qs)) R)(s:SI X.length w (Mq.at2 (iG X qs)) R X.length X.length d sg){i:Nat}(hi:i < X.length):(Mq.rs X.length fun j=>pX X i j*(Mq.at2 R j X.length / (d:Rat)))=Mq.val (qs.getD i Mq.z0):=by
 have e:=h.whole s hi;rw[tZ hX hq hl hw hi (by lia),if_neg (by lia)] at e;have e2:(Mq.rs X.length fun k=>Mq.at2 (iG X qs) i k*(Mq.at2 R k X.length / (d:Rat)))=((eK ((lU X qs).getD i []):Int):Rat)*Mq.rs X.length fun k=>pX X i k*(Mq.at2 R k X.length / (d:Rat)):=by
  rw[<- fF];refine aP fun k hk=>?_;rw[tZ hX hq hl hw hi (by lia),if_pos hk];grind
 rw[e2] at e;have g:=rC (rQ hX hq hl hi);have n:=dP (show eK ((lU X qs).getD i [])≠0 by rw[oN hl hi];lia);grind
end Shp
namespace Mq
def Wb (n:Nat)(x:Rat):Prop:=∃z:Int,x=(z:Rat)/\B n z
theorem Wb.mono {n m:Nat}{x:Rat}(h:Wb n x)(l:n<=m):Wb m x:=by obtain⟨z,e,b⟩:=h;exact⟨z,e,b.mono l⟩
theorem Wb.mul {n m:Nat}{x y:Rat}(h:Wb n x)(k:Wb m y):Wb (n+m) (x*y):=by
 obtain⟨a,rfl,b⟩:=h;obtain⟨c,rfl,d⟩:=k;exact⟨a*c,by rw[Rat.intCast_mul],b.mul d⟩
theorem Wb.sub {n:Nat}{x y:Rat}(h:Wb n x)(k:Wb n y):Wb (n+1) (x - y):=by
 obtain⟨a,rfl,b⟩:=h;obtain⟨c,rfl,d⟩:=k;exact⟨a - c,by rw[Rat.intCast_sub],b.sub d⟩
theorem Wb.neg {n:Nat}{x:Rat}(h:Wb n x):Wb n (-x):=by
 obtain⟨a,rfl,b⟩:=h;exact⟨-a,by rw[Rat.intCast_neg],b.neg⟩
theorem Wb.zero (n:Nat):Wb n 0:=⟨0,by simp,Nat.two_pow_pos _⟩
theorem Wb.one:Wb 1 1:=⟨1,by simp,show (1:Nat) < 2 ^ 1 by decide⟩
theorem Wb.sgn {n:Nat}{x:Rat}(h:Wb n x)(k:Nat):Wb n (Mq.sgn k*x):=by
 unfold Mq.sgn;split
 ·rw[show (1:Rat)*x=x by grind];exact h
 ·rw[show (-1:Rat)*x=-x by grind];exact h.neg
theorem Uf {n:Nat}{f:Nat->Rat}:∀K,(∀k,k < K->Wb n (f k))->∃z:Int,rs K f=(z:Rat)/\z.natAbs+K<=K*2 ^ n
 |0,_=>⟨0,by simp only[rs];simp,by simp⟩
 |K+1,h=>by
  obtain⟨z,e,b⟩:=Uf K fun k hk=>h k (by lia);obtain⟨y,e2,b2⟩:=h K (by lia);refine⟨z+y,by simp only[rs];rw[e,e2,Rat.intCast_add],?_⟩;have:y.natAbs < 2 ^ n:=b2;rw[Nat.succ_mul];lia
def SB (n m:Nat)(R:List (List Int))(r col:Nat)(d:Int):Prop:=∃A c,Bar m A (at2 R) r col (d:Rat) c/\∀i x,i < m->Wb n (A i x)
theorem SB.start {n m:Nat}{R:List (List Int)}(hb:BdR n R):SB n m R 0 0 1:=
 ⟨at2 R,id,by
  have:=Bar.start (m:=m) (A:=at2 R) fun i j=>⟨_,rfl⟩
  simpa using this,fun i x _=>⟨ent R i x,rfl,hb i x⟩⟩
theorem SB.skip {n m:Nat}{R:List (List Int)}{r col:Nat}{d:Int}(h:SB n m R r col d)(hz:∀i,r<=i->i < m->ent R i col=0):SB n m R r (col+1) d:=by
 obtain⟨A,c,B,q⟩:=h;exact⟨A,c,B.skip fun i h1 h2=>by unfold at2;rw[hz i h1 h2];simp,q⟩
theorem SB.swap {n m w:Nat}{A0:Mat}{R:List (List Int)}{r col:Nat}{d sg:Int}(h:SB n m R r col d)(s:SI m w A0 R r col d sg){p:Nat}(hp:r < p)(hm:p < m):SB n m (fE R p r) r col d:=by
 obtain⟨A,c,B,q⟩:=h;have hl:=s.len;refine⟨_,c,(B.swap (by lia) hm).congr fun i hi=>?_,fun i x hi=>q _ x (yA hm (by lia) hi)⟩
 funext x
 rw[qC (by lia) (by lia)]
theorem SB.clear {n m w:Nat}{A0:Mat}{R:List (List Int)}{r col:Nat}{d sg:Int}(h:SB n m R r col d)(s:SI m w A0 R r col d sg)(hr:r < m)(hc:col < w)(he:ent R r col≠0):SB n m (cG R r col d) (r+1) (col+1) (ent R r col):=by
 obtain⟨A,c,B,q⟩:=h;have heq:at2 R r col≠0:=fun z=>he (Rat.intCast_inj.mp (by unfold at2 at z;simpa using z));refine⟨A,_,(B.clear hr heq).congr fun i hi=>?_,q⟩
 funext x
 rw[rH s hr hc he hi x];unfold clr
 by_cases e:i=r
 ·rw[if_pos e,if_pos e,e]
 ·rw[if_neg e,if_neg e]
end Mq
namespace Shp
open PySem L2
abbrev bq (n m:Nat):Nat:=(n+4)*(m+1)+7
end Shp
namespace L2
open PySem PySem.Spec PyProof.Rows
theorem aL.weak {P:Program}{w:World}{K:Frag}{mg:Str->Option Value}{base:Heap}{CX:CXT}{k:Nat}{f:Addr}{fd:FuncData}{ps:List Str}{sp sp':Sp}(F:aL P w K mg base CX k f fd ps sp)(h:∀vs H Q E,sp' vs H Q E->sp vs H Q E):aL P w K mg base CX k f fd ps sp':=
 ⟨fun vs H Q E q=>F.len vs H Q E (h _ _ _ _ q),fun A outer s H args us vs Q E hr he hb hv hs=>F.run A outer s H args us vs Q E hr he hb hv (h _ _ _ _ hs)⟩
abbrev cK (m i j:Int):Prop:=0<=i/\i < m/\0<=j/\j < m
inductive Zv (K:Frag) (H:Hp):V->Option Q2->Prop where
 |fr {u:Addr} {p:Q2} (h:Fq K H u p) (l:Low p):Zv K H (.ref u) (some p)
 |ty {v:V} {t:Value} (h:TyQ K H v t) (n:W.kitOne K t (.type "tuple")=some false):Zv K H v none
 |len {u:Addr} {x y z:V} (h:SqT K H u [x,y,z]):Zv K H (.ref u) none
 |n0 {u:Addr} {x y:V} {t:Value} (h:SqT K H u [x,y]) (ty:mV K H x t) (n:tQ t):Zv K H (.ref u) none
 |n1 {u:Addr} {i:Int} {y:V} {t:Value} (h:SqT K H u [.int i,y]) (ty:mV K H y t) (n:tQ t):Zv K H (.ref u) none
 |fb {u:Addr} {p:Q2} (h:Fq K H u p) (c:p.2 < 1\/(1<=p.2/\gc p.1 p.2≠1)):Zv K H (.ref u) none
def Kc (K:Frag):Sp:=fun vs H Q _=>∃(v:V) (o:Option Q2),vs=[v]/\Zv K H v o/\Q (.bl o.isSome) H
inductive gO (CK:Kd->Addr) (K:Frag) (H:Hp):List V->List RD->Prop where
 |nil:gO CK K H [] []
 |cons {x z:Addr} {k:Kd} {i j:Int} {p:Q2} {xs:List V} {ds:List RD} (h:Rw CK H x k (.int i) (.int j) (.ref z)) (f:Fq K H z p) (q:gO CK K H xs ds):gO CK K H (.ref x :: xs) ((k,i,j,p) :: ds)
section
variable {CK:Kd->Addr} {K:Frag} {H H':Hp}
theorem gO.same (e:aV H H'):∀{xs:List V} {ds:List RD},gO CK K H xs ds->gO CK K H' xs ds
 |_,_,.nil=>.nil
 |_,_,.cons h f q=>.cons (h.same e) (e.fq f) (gO.same e q)
theorem gO.length:∀{xs:List V} {ds:List RD},gO CK K H xs ds->xs.length=ds.length
 |_,_,.nil=>rfl
 |_,_,.cons _ _ q=>by simp[gO.length q]
theorem gO.app:∀{xs ys:List V} {ds es:List RD},gO CK K H xs ds->gO CK K H ys es->gO CK K H (xs++ys) (ds++es)
 |_,_,_,_,.nil,r=>r
 |_,_,_,_,.cons h f q,r=>.cons h f (gO.app q r)
theorem gO.at:∀{xs:List V} {ds:List RD} {q:Nat} {d:RD},gO CK K H xs ds->ds[q]?=some d->∃x z,xs[q]?=some (.ref x)/\Rw CK H x d.1 (.int d.2.1) (.int d.2.2.1) (.ref z)/\Fq K H z d.2.2.2
 |_,_,_,_,.nil,h=>by simp at h
 |_,_,0,_,.cons h f _,e=>by simp at e;subst e;exact⟨_,_,rfl,h,f⟩
 |_,_,i+1,_,.cons _ _ q,e=>by simpa using gO.at q (by simpa using e)
theorem gO.upd {l:Addr}{ys:List V}{o:HO}(hl:H l=some (.lst ys)):∀{xs:List V} {ds:List RD},gO CK K H xs ds->gO CK K (L2.upd H l o) xs ds
 |_,_,.nil=>.nil
 |_,_,.cons (h:=h) f q=>by
  obtain⟨dx,e⟩:=h;exact .cons ⟨dx,by rw[aU (fM e hl (fun z=>by cases z))];exact e⟩ (f.upd hl) (gO.upd hl q)
end
def pS (CN:Addr)(K:Frag)(CK:Kd->Addr):Sp:=fun vs H Q _=>∃(n l:Addr) (m:Int) (ds:List RD),vs=[.ref n]/\fC CN K H n l m ds/\ds.length<=100/\∀a xs H',aV H H'->H a=none->H' a=some (.lst xs)->gO CK K H' xs ds->Q (.ref a) H'
abbrev RE:=RD × Q2
def flF (hp:List Q2)(d:RD):Q2:=Mq.minus (hp.getD d.2.1.toNat (0,1)) (hp.getD d.2.2.1.toNat (0,1))
def iP (k:Kd)(l:List RD):List RD:=l.filter fun d=>decide (d.1=k)
theorem Iy (k:Kd)(l:List RD)(e:RD):iP k (l++[e])=if e.1=k then iP k l++[e] else iP k l:=by
 unfold iP;rw[filter_append]
 by_cases h:e.1=k
 ·rw[if_pos h];simp[h]
 ·rw[if_neg h];simp[h]
def rZ (K:Frag):Sp:=fun vs H Q _=>∃(a b:Addr) (p q:Q2) (n m:Nat),vs=[.ref a,.ref b]/\Fq K H a p/\Fq K H b q/\1<=p.2/\1<=q.2/\0 < q.1/\Bd n p/\Bd m q/\n+m+1<=9000/\lK H Q (mX p q)
section
variable {m n:Nat} {hp:List Q2} {d:RD} {e:RE}
theorem jN {ps:List Q2}{j:Nat}(h:j < ps.length):ps[j]?=some (ps.getD j (0,1)):=by rw[getD_eq_getElem?_getD,getElem?_eq_getElem h];rfl
end
def rzl (ps:List Q2)(j:Nat)(a:Q2):List Q2:=ps.set j (Mq.plus (ps.getD j (0,1)) a)
def jH (M:List (List Q2))(i j:Nat):Q2:=(M.getD i []).getD j (0,1)
def rz (M:List (List Q2))(i j:Nat)(a:Q2):List (List Q2):=M.set i (rzl (M.getD i []) j a)
structure MxB (M:List (List Q2)) (h w n:Nat):Prop where
 h:M.length=h
 w:∀ps∈M,ps.length=w
 l:∀ps∈M,∀p∈ps,Low p/\Bd n p
theorem MxB.mono {M:List (List Q2)}{h w n n':Nat}(b:MxB M h w n)(le:n<=n'):MxB M h w n':=⟨b.h,b.w,fun ps hp p hp'=>⟨(b.l ps hp p hp').1,(b.l ps hp p hp').2.mono le⟩⟩
theorem MxB.row {M:List (List Q2)}{h w n i:Nat}(b:MxB M h w n)(hi:i < h):M[i]?=some (M.getD i [])/\M.getD i []∈M/\(M.getD i []).length=w:=by
 have hi':i < M.length:=by rw[b.h];exact hi
 have e:M.getD i []=M[i]:=by rw[getD_eq_getElem?_getD,getElem?_eq_getElem hi'];rfl
 rw[e];exact⟨getElem?_eq_getElem hi',getElem_mem hi',b.w _ (getElem_mem hi')⟩
theorem MxB.at {M:List (List Q2)}{h w n i j:Nat}(b:MxB M h w n)(hi:i < h)(hj:j < w):(M.getD i [])[j]?=some (jH M i j)/\Low (jH M i j)/\Bd n (jH M i j):=by
 obtain⟨e,m,l⟩:=b.row hi;have hj':j < (M.getD i []).length:=by rw[l];exact hj
 have:=jN hj';exact⟨this,b.l _ m _ (mem_of_getElem? this)⟩
theorem MxB.rz {M:List (List Q2)}{h w n k i j:Nat}{a:Q2}(b:MxB M h w n)(hi:i < h)(hj:j < w)(la:Low a)(ba:Bd k a):MxB (L2.rz M i j a) h w (n+k+1):=by
 obtain⟨e,m,l⟩:=b.row hi;obtain⟨e2,l2,b2⟩:=b.at hi hj;refine⟨by unfold L2.rz;rw[length_set];exact b.h,fun ps hp=>?_,fun ps hp p hp'=>?_⟩
 ·rcases mem_or_eq_of_mem_set hp with z | z
  ·exact b.w ps z
  ·rw[z];unfold rzl;rw[length_set];exact l
 ·rcases mem_or_eq_of_mem_set hp with z | z
  ·have:=b.l ps z p hp';exact⟨this.1,this.2.mono (by lia)⟩
  ·rw[z] at hp';unfold rzl at hp';rcases mem_or_eq_of_mem_set hp' with y | y
   ·have:=b.l _ m p y;exact⟨this.1,this.2.mono (by lia)⟩
   ·rw[y];exact⟨mB l2.pos la.pos,zG b2 ba l2.pos la.pos⟩
theorem yM {M:List (List Q2)}{h w n i j:Nat}{a:Q2}(b:MxB M h w n)(hi:i < h)(hj:j < w)(la:Low a)(x y:Nat):Mq.val (jH (L2.rz M i j a) x y)=Mq.val (jH M x y)+if i=x/\j=y then Mq.val a else 0:=by
 obtain⟨e,m,l⟩:=b.row hi;obtain⟨e2,l2,b2⟩:=b.at hi hj;have hl:i < M.length:=by rw[b.h];exact hi
 unfold jH L2.rz
 by_cases c:i=x
 ·subst c;have e3:(M.set i (rzl (M.getD i []) j a)).getD i []=rzl (M.getD i []) j a:=by rw[getD_eq_getElem?_getD,getElem?_set,if_pos rfl,if_pos hl];rfl
  rw[e3];unfold rzl
  by_cases d:j=y
  ·subst d;have e4:((M.getD i []).set j (Mq.plus ((M.getD i []).getD j (0,1)) a)).getD j (0,1)=Mq.plus ((M.getD i []).getD j (0,1)) a:=by rw[getD_eq_getElem?_getD,getElem?_set,if_pos rfl,if_pos (by rw[l];exact hj)];rfl
   rw[e4,if_pos ⟨rfl,rfl⟩];exact jT l2.pos la.pos
  ·have e4:((M.getD i []).set j (Mq.plus ((M.getD i []).getD j (0,1)) a)).getD y (0,1)=(M.getD i []).getD y (0,1):=by rw[getD_eq_getElem?_getD,getElem?_set,if_neg d,<- getD_eq_getElem?_getD]
   rw[e4,if_neg (fun z=>d z.2),Rat.add_zero]
 ·have e3:(M.set i (rzl (M.getD i []) j a)).getD x []=M.getD x []:=by rw[getD_eq_getElem?_getD,getElem?_set,if_neg c,<- getD_eq_getElem?_getD]
  rw[e3,if_neg (fun z=>c z.1),Rat.add_zero]
structure LnB (R:List Q2) (w n:Nat):Prop where
 w:R.length=w
 l:∀p∈R,Low p/\Bd n p
theorem LnB.mono {R:List Q2}{w n n':Nat}(b:LnB R w n)(le:n<=n'):LnB R w n':=⟨b.w,fun p hp=>⟨(b.l p hp).1,(b.l p hp).2.mono le⟩⟩
theorem LnB.at {R:List Q2}{w n j:Nat}(b:LnB R w n)(hj:j < w):R[j]?=some (R.getD j (0,1))/\Low (R.getD j (0,1))/\Bd n (R.getD j (0,1)):=by
 have hj':j < R.length:=by rw[b.w];exact hj
 have:=jN hj';exact⟨this,b.l _ (mem_of_getElem? this)⟩
theorem LnB.set {R:List Q2}{w n j:Nat}{q:Q2}(b:LnB R w n)(lq:Low q)(bq:Bd n q):LnB (R.set j q) w n:=⟨by rw[length_set];exact b.w,fun p hp=>by
 rcases mem_or_eq_of_mem_set hp with z | z
 ·exact b.l p z
 ·rw[z];exact⟨lq,bq⟩⟩
theorem LnB.rz {R:List Q2}{w n k j:Nat}{a:Q2}(b:LnB R w n)(hj:j < w)(la:Low a)(ba:Bd k a):LnB (rzl R j a) w (n+k+1):=by
 obtain⟨_,l2,b2⟩:=b.at hj;exact(b.mono (by lia)).set (mB l2.pos la.pos) (zG b2 ba l2.pos la.pos)
theorem vE {R:List Q2}{j y:Nat}{q:Q2}(hj:j < R.length):(R.set j q).getD y (0,1)=if j=y then q else R.getD y (0,1):=by
 rw[getD_eq_getElem?_getD,getElem?_set]
 by_cases e:j=y
 ·rw[if_pos e,if_pos e,if_pos (by lia)];rfl
 ·rw[if_neg e,if_neg e,<- getD_eq_getElem?_getD]
theorem Gz {R:List Q2}{w n j:Nat}{a:Q2}(b:LnB R w n)(hj:j < w)(la:Low a)(y:Nat):Mq.val ((rzl R j a).getD y (0,1))=Mq.val (R.getD y (0,1))+if j=y then Mq.val a else 0:=by
 obtain⟨_,l2,b2⟩:=b.at hj;unfold rzl;rw[vE (by rw[b.w];exact hj)]
 by_cases d:j=y
 ·subst d;rw[if_pos rfl,if_pos rfl];exact jT l2.pos la.pos
 ·rw[if_neg d,if_neg d,Rat.add_zero]
def SX (as:List Addr)(H H':Hp):Prop:=∀b o,H b=some o->b∉as->H' b=some o
theorem aV.sx {as:List Addr}{H H':Hp}(s:aV H H'):SX as H H':=fun b o e _=>s b o e
theorem SX.trans {as:List Addr}{H H1 H2:Hp}(a:SX as H H1)(b:SX as H1 H2):SX as H H2:=fun c o h n=>b c o (a c o h n) n
theorem SX.write {as:List Addr}{H H1:Hp}{l:Addr}{o:HO}(a:SX as H H1)(hl:l∈as):SX as H (upd H1 l o):=fun c u h n=>by rw[aU (fun z=>n (by rw[z];exact hl))];exact a c u h n
theorem SX.mono {as bs:List Addr}{H H':Hp}(a:SX as H H')(h:∀x∈as,x∈bs):SX bs H H':=fun c o e n=>a c o e fun z=>n (h c z)
theorem SX.same {as:List Addr}{H0 H H':Hp}(s:aV H0 H)(a:SX as H H')(h:∀x∈as,H0 x=none):aV H0 H':=fun c o e=>a c o (s c o e) fun z=>by rw[h c z] at e;cases e
def Qb (as:List Addr)(H:Hp):Prop:=∀a∈as,∃xs,H a=some (.lst xs)
theorem SX.seqT {K:Frag}{as:List Addr}{H H':Hp}(hl:Qb as H)(e:SX as H H'){a:Addr}{xs:List V}(h:SqT K H a xs):SqT K H' a xs:=by
 have nx:∀{o:HO},H a=some o->(∀ys,o≠.lst ys)->a∉as:=fun ho n z=>by
  obtain⟨ys,hy⟩:=hl a z;rw[hy] at ho;exact n ys (Option.some.inj ho).symm
 rcases h with (h | ⟨u,h⟩) | h
 ·exact .inl (.inl (e _ _ h (nx h fun ys z=>by cases z)))
 ·exact .inl (.inr ⟨u,e _ _ h (nx h fun ys z=>by cases z)⟩)
 ·exact .inr h
theorem SX.rw {CK:Kd->Addr}{as:List Addr}{H H':Hp}(hl:Qb as H)(e:SX as H H'){x:Addr}{k:Kd}{s g z:V}(h:Rw CK H x k s g z):Rw CK H' x k s g z:=by
 obtain⟨dx,q⟩:=h;refine⟨dx,e _ _ q fun y=>?_⟩;obtain⟨ys,hy⟩:=hl x y;rw[hy] at q;cases q
theorem SX.fqs {K:Frag}{as:List Addr}{H H':Hp}(hl:Qb as H)(e:SX as H H'):∀{xs:List V} {ps:List Q2},Fqs K H xs ps->Fqs K H' xs ps
 |_,_,.nil=>.nil
 |_,_,.cons f q=>.cons (e.seqT hl f) (SX.fqs hl e q)
structure Mx (K:Frag) (H:Hp) (D:Addr) (as:List Addr) (M:List (List Q2)):Prop where
 d:H D=some (.lst (as.map V.ref))
 n:as.Nodup
 nd:D∉as
 la:as.length=M.length
 r:∀(i:Nat) (a:Addr) (ps:List Q2),as[i]?=some a->M[i]?=some ps->∃xs,H a=some (.lst xs)/\Fqs K H xs ps
theorem Mx.lsts {K:Frag}{H:Hp}{D:Addr}{as:List Addr}{M:List (List Q2)}(m:Mx K H D as M):Qb as H:=fun a ha=>by
 obtain⟨i,hi⟩:=getElem?_of_mem ha;have il:=(List.getElem?_eq_some_iff.mp hi).1;have il':i < M.length:=by rw[<- m.la];exact il
 obtain⟨xs,h,_⟩:=m.r i a M[i] hi (getElem?_eq_getElem il');exact⟨xs,h⟩
theorem Mx.same {K:Frag}{H H':Hp}{D:Addr}{as:List Addr}{M:List (List Q2)}(s:aV H H')(m:Mx K H D as M):Mx K H' D as M:=⟨s _ _ m.d,m.n,m.nd,m.la,fun i a ps h1 h2=>by
 obtain⟨xs,h,f⟩:=m.r i a ps h1 h2;exact⟨xs,s _ _ h,f.same s⟩⟩
theorem Mx.other {K:Frag}{H:Hp}{D l:Addr}{as:List Addr}{M:List (List Q2)}{ys:List V}{o:HO}(m:Mx K H D as M)(hl:H l=some (.lst ys))(n1:l≠D)(n2:l∉as):Mx K (upd H l o) D as M:=⟨by rw[aU (Ne.symm n1)];exact m.d,m.n,m.nd,m.la,fun i a ps h1 h2=>by
 obtain⟨xs,h,f⟩:=m.r i a ps h1 h2;exact⟨xs,by rw[aU (fun z=>n2 (by rw[<- z];exact mem_of_getElem? h1))];exact h,f.upd hl⟩⟩
theorem Mx.set {K:Frag}{H H1:Hp}{D a v:Addr}{as:List Addr}{M:List (List Q2)}{i j:Nat}{ps:List Q2}{xs:List V}{q:Q2}(m:Mx K H D as M)(ha:as[i]?=some a)(hp:M[i]?=some ps)(hx:H a=some (.lst xs))(hF:Fqs K H xs ps)(s:aV H H1)(fv:Fq K H1 v q):Mx K (upd H1 a (.lst (xs.set j (.ref v)))) D as (M.set i (ps.set j q))/\SX as H (upd H1 a (.lst (xs.set j (.ref v)))):=by
 have ma:=mem_of_getElem? ha;have hx1:=s _ _ hx;have il:=(List.getElem?_eq_some_iff.mp ha).1;refine⟨⟨?_,m.n,m.nd,by rw[length_set];exact m.la,fun k b qs h1 h2=>?_⟩,s.sx.write ma⟩
 ·rw[aU (fun z=>m.nd (by rw[z];exact ma))];exact s _ _ m.d
 ·rw[getElem?_set] at h2
  by_cases c:i=k
  ·subst c;rw[ha] at h1;have h1:a=b:=Option.some.inj h1;subst h1;rw[if_pos rfl] at h2;split at h2
   ·have h2:ps.set j q=qs:=Option.some.inj h2;rw[<- h2];exact⟨_,aB,(Fqs.set fv j (hF.same s)).upd hx1⟩
   ·cases h2
  ·rw[if_neg c] at h2;obtain⟨ys,hy,fy⟩:=m.r k b qs h1 h2;have nb:b≠a:=fun z=>by
    subst z;have kl:=(List.getElem?_eq_some_iff.mp h1).1;have e1:as[i]'il=b:=(List.getElem?_eq_some_iff.mp ha).2;have e2:as[k]'kl=b:=(List.getElem?_eq_some_iff.mp h1).2;exact c ((getElem_inj m.n).mp (e1.trans e2.symm))
   exact⟨ys,by rw[aU nb];exact s _ _ hy,(fy.same s).upd hx1⟩
def bV (k:Kd):Nat:=if k=.ho then 1 else 0
def en (M:List (List Q2))(d:RD)(c:Nat)(a:Q2):List (List Q2):=rz (rz M d.2.1.toNat c a) d.2.2.1.toNat c (Mq.minus (0,1) a)
def dl (s g x:Nat):Rat:=(if s=x then 1 else 0) - (if g=x then 1 else 0)
def cM (d:RD)(h x y:Nat):Rat:=match d.1 with
 | .pc=>dl d.2.1.toNat d.2.2.1.toNat x*dl d.2.1.toNat d.2.2.1.toNat y*(1 / Mq.val d.2.2.2)
 | .pu=>0
 | .ho=>dl d.2.1.toNat d.2.2.1.toNat x*(if h=y then 1 else 0)+(if h=x then 1 else 0)*dl d.2.1.toNat d.2.2.1.toNat y
def cR (d:RD)(h x:Nat):Rat:=match d.1 with
 | .pc=>0
 | .pu=>- dl d.2.1.toNat d.2.2.1.toNat x*Mq.val d.2.2.2
 | .ho=>if h=x then Mq.val d.2.2.2 else 0
def eqM:Nat->List RD->Nat->Nat->Rat
 |_,[],_,_=>0
 |h,d :: ds,x,y=>cM d h x y+eqM (h+bV d.1) ds x y
def eqR:Nat->List RD->Nat->Rat
 |_,[],_=>0
 |h,d :: ds,x=>cR d h x+eqR (h+bV d.1) ds x
def bL (ds:List RD):Nat:=(iP .ho ds).length
theorem hG (ds:List RD)(d:RD):bL (ds++[d])=bL ds+bV d.1:=by
 unfold bL bV;rw[Iy];split
 ·rw[List.length_append];rfl
 ·rfl
theorem dF (d:RD)(ds:List RD):bL (d :: ds)=bV d.1+bL ds:=by
 unfold bL bV iP
 by_cases h:d.1=.ho
 ·rw[filter_cons_of_pos (by exact decide_eq_true h),if_pos h,length_cons];lia
 ·rw[filter_cons_of_neg (by simp[h]),if_neg h];lia
theorem Ap (d:RD)(x y:Nat):∀(ds:List RD) (h:Nat),eqM h (ds++[d]) x y=eqM h ds x y+cM d (h+bL ds) x y
 | [],h=>by show cM d h x y+0=0+cM d (h+0) x y;rw[Nat.add_zero];grind
 |e :: ds,h=>by
  show cM e h x y+eqM (h+bV e.1) (ds++[d]) x y=cM e h x y+eqM (h+bV e.1) ds x y+_;rw[Ap d x y ds,dF,Nat.add_assoc];grind
theorem Ag (d:RD)(x:Nat):∀(ds:List RD) (h:Nat),eqR h (ds++[d]) x=eqR h ds x+cR d (h+bL ds) x
 | [],h=>by show cR d h x+0=0+cR d (h+0) x;rw[Nat.add_zero];grind
 |e :: ds,h=>by
  show cR e h x+eqR (h+bV e.1) (ds++[d]) x=cR e h x+eqR (h+bV e.1) ds x+_;rw[Ag d x ds,dF,Nat.add_assoc];grind
theorem jA:Low (1,1):=⟨by decide,by decide⟩
theorem kC {a:Q2}{k:Nat}(la:Low a)(ba:Bd k a):Low (Mq.minus (0,1) a)/\Bd (k+2) (Mq.minus (0,1) a)/\Mq.val (Mq.minus (0,1) a)=- Mq.val a:=by
 have h01:1<=((0,1):Q2).2:=by decide
 have b01:Bd 1 (0,1):=⟨show (0:Nat) < 2 ^ 1 by decide,show (1:Nat) < 2 ^ 1 by decide⟩
 refine⟨dX h01 la.pos,(sV b01 ba h01 la.pos).mono (by lia),?_⟩;rw[eV h01 la.pos,kW];grind
theorem zQ {M:List (List Q2)}{h w n k c:Nat}{d:RD}{a:Q2}(b:MxB M h w n)(pt:cK (h:Int) d.2.1 d.2.2.1)(hc:c < w)(la:Low a)(ba:Bd k a):MxB (en M d c a) h w (n+2*k+4)/\∀x y,Mq.val (jH (en M d c a) x y)=Mq.val (jH M x y)+dl d.2.1.toNat d.2.2.1.toNat x*(if c=y then 1 else 0)*Mq.val a:=by
 obtain⟨i0,i1,j0,j1⟩:=pt;obtain⟨ln,bn,vn⟩:=kC la ba;have b1:=b.rz (i:=d.2.1.toNat) (by lia) hc la ba;have b2:=b1.rz (i:=d.2.2.1.toNat) (by lia) hc ln bn;refine⟨b2.mono (by lia),fun x y=>?_⟩;unfold en;rw[yM b1 (by lia) hc ln,yM b (by lia) hc la,vn];unfold dl
 by_cases c1:d.2.1.toNat=x<;>by_cases c2:d.2.2.1.toNat=x<;>by_cases c3:c=y<;>simp only[c1,c2,c3,true_and,and_true,false_and,and_false,and_self,if_true,if_false]<;>grind
def hM (M:List (List Q2))(d:RD)(c:Nat):List (List Q2):=rz (rz (en M d c (1,1)) c d.2.1.toNat (1,1)) c d.2.2.1.toNat (Mq.minus (0,1) (1,1))
def pM (M:List (List Q2))(d:RD):List (List Q2):=en (en M d d.2.1.toNat (mX (1,1) d.2.2.2)) d d.2.2.1.toNat (Mq.minus (0,1) (mX (1,1) d.2.2.2))
def pR (rs:List Q2)(d:RD):List Q2:=rzl (rzl rs d.2.1.toNat (Mq.minus (0,1) d.2.2.2)) d.2.2.1.toNat d.2.2.2
theorem iS:Bd 1 (1,1):=⟨show (1:Nat) < 2 ^ 1 by decide,show (1:Nat) < 2 ^ 1 by decide⟩
theorem h11:1<=((1,1):Q2).2:=by decide
theorem Af {p:Q2}{k:Nat}(l:Low p)(h0:0 < p.1)(b:Bd k p):Low (mX (1,1) p)/\Bd (k+1) (mX (1,1) p)/\Mq.val (mX (1,1) p)=1 / Mq.val p:=by
 refine⟨sX h11 (by lia),(Gj iS b h11 (by lia)).mono (by lia),?_⟩;rw[rW h11 l.pos (by lia),Tu]
theorem Ye {M:List (List Q2)}{w n k m h:Nat}{d:RD}(b:MxB M w w n)(pt:cK (m:Int) d.2.1 d.2.2.1)(hm:m<=w)(hk:d.1=.pc)(l:Low d.2.2.2)(h0:0 < d.2.2.2.1)(bk:Bd k d.2.2.2):MxB (pM M d) w w (n+4*k+20)/\∀x y,Mq.val (jH (pM M d) x y)=Mq.val (jH M x y)+cM d h x y:=by
 obtain⟨i0,i1,j0,j1⟩:=pt;obtain⟨ls,bs,vs⟩:=Af l h0 bk;obtain⟨ln,bn,vn⟩:=kC ls bs;have pt':cK (w:Int) d.2.1 d.2.2.1:=⟨i0,by lia,j0,by lia⟩
 obtain⟨b1,v1⟩:=zQ b pt' (c:=d.2.1.toNat) (by lia) ls bs;obtain⟨b2,v2⟩:=zQ b1 pt' (c:=d.2.2.1.toNat) (by lia) ln bn;refine⟨b2.mono (by lia),fun x y=>?_⟩;unfold pM;rw[v2,v1,vn,vs];unfold cM;rw[hk];show _=_+dl d.2.1.toNat d.2.2.1.toNat x*dl d.2.1.toNat d.2.2.1.toNat y*(1 / Mq.val d.2.2.2)
 generalize 1 / Mq.val d.2.2.2=v;generalize dl d.2.1.toNat d.2.2.1.toNat x=u;unfold dl
 by_cases c1:d.2.1.toNat=y<;>by_cases c2:d.2.2.1.toNat=y<;>simp only[c1,c2,if_true,if_false]<;>grind
theorem qa5 {M:List (List Q2)}{w n m c:Nat}{d:RD}(b:MxB M w w n)(pt:cK (m:Int) d.2.1 d.2.2.1)(hm:m<=w)(hc:c < w)(hk:d.1=.ho):MxB (hM M d c) w w (n+20)/\∀x y,Mq.val (jH (hM M d c) x y)=Mq.val (jH M x y)+cM d c x y:=by
 obtain⟨i0,i1,j0,j1⟩:=pt;have pt':cK (w:Int) d.2.1 d.2.2.1:=⟨i0,by lia,j0,by lia⟩
 obtain⟨ln,bn,vn⟩:=kC jA iS;obtain⟨b1,v1⟩:=zQ b pt' hc jA iS;have b2:=b1.rz (i:=c) (j:=d.2.1.toNat) hc (by lia) jA iS;have b3:=b2.rz (i:=c) (j:=d.2.2.1.toNat) hc (by lia) ln bn;refine⟨b3.mono (by lia),fun x y=>?_⟩;unfold hM;rw[yM b2 hc (by lia) ln,yM b1 hc (by lia) jA,v1,vn,Tu];unfold cM;rw[hk];show _=_+(dl d.2.1.toNat d.2.2.1.toNat x*(if c=y then 1 else 0)+(if c=x then 1 else 0)*dl d.2.1.toNat d.2.2.1.toNat y)
 generalize dl d.2.1.toNat d.2.2.1.toNat x=u;unfold dl
 by_cases c1:d.2.1.toNat=y<;>by_cases c2:d.2.2.1.toNat=y<;>by_cases c3:c=x<;>by_cases c4:c=y<;>simp only[c1,c2,c3,c4,true_and,and_true,false_and,and_false,and_self,if_true,if_false]<;>grind
theorem qa8 {rs:List Q2}{w n k m h:Nat}{d:RD}(b:LnB rs w n)(pt:cK (m:Int) d.2.1 d.2.2.1)(hm:m<=w)(hk:d.1=.pu)(l:Low d.2.2.2)(bk:Bd k d.2.2.2):LnB (pR rs d) w (n+4*k+20)/\∀x,Mq.val ((pR rs d).getD x (0,1))=Mq.val (rs.getD x (0,1))+cR d h x:=by
 obtain⟨i0,i1,j0,j1⟩:=pt;obtain⟨ln,bn,vn⟩:=kC l bk;have b1:=b.rz (j:=d.2.1.toNat) (by lia) ln bn;have b2:=b1.rz (j:=d.2.2.1.toNat) (by lia) l bk;refine⟨b2.mono (by lia),fun x=>?_⟩;unfold pR;rw[Gz b1 (by lia) l,Gz b (by lia) ln,vn];unfold cR;rw[hk];show _=_ + - dl d.2.1.toNat d.2.2.1.toNat x*Mq.val d.2.2.2;unfold dl
 by_cases c1:d.2.1.toNat=x<;>by_cases c2:d.2.2.1.toNat=x<;>simp only[c1,c2,if_true,if_false]<;>grind
theorem vF {m:Nat}:∀(ds:List RD) (h x:Nat),(∀d∈ds,cK (m:Int) d.2.1 d.2.2.1)->m<=h->h+bL ds<=x->eqR h ds x=0
 | [],_,_,_,_,_=>rfl
 |d :: ds,h,x,pt,hm,hx=>by
  rw[dF] at hx;have ih:=vF ds (h+bV d.1) x (fun e he=>pt e (mem_cons_of_mem _ he)) (by lia) (by lia);obtain⟨i0,i1,j0,j1⟩:=pt d (by simp);show cR d h x+eqR (h+bV d.1) ds x=0;rw[ih];have z:dl d.2.1.toNat d.2.2.1.toNat x=0:=by unfold dl;rw[if_neg (by lia),if_neg (by lia)];grind
  unfold cR
  cases hk:d.1 with
  |pc=>show (0:Rat)+0=0;grind
  |pu=>show - dl d.2.1.toNat d.2.2.1.toNat x*Mq.val d.2.2.2+0=0;rw[z];grind
  |ho=>
   have:bV d.1=1:=by unfold bV;rw[if_pos hk]
   show (if h=x then Mq.val d.2.2.2 else 0)+0=0;rw[if_neg (by lia)];grind
theorem Yp {rs:List Q2}{w n k m c:Nat}{d:RD}(b:LnB rs w n)(hc:c < w)(hk:d.1=.ho)(l:Low d.2.2.2)(bk:Bd k d.2.2.2)(h0:Mq.val (rs.getD c (0,1))=0):LnB (rs.set c d.2.2.2) w (n+k)/\∀x,Mq.val ((rs.set c d.2.2.2).getD x (0,1))=Mq.val (rs.getD x (0,1))+cR d c x:=by
 refine⟨(b.mono (by lia)).set l (bk.mono (by lia)),fun x=>?_⟩;rw[vE (by rw[b.w];exact hc)];unfold cR;rw[hk];show _=_+if c=x then Mq.val d.2.2.2 else 0
 by_cases e:c=x
 ·subst e;rw[if_pos rfl,if_pos rfl,h0];grind
 ·rw[if_neg e,if_neg e];grind
def rE (K:Frag):Sp:=fun vs H Q _=>∃(l z:Addr) (j:Nat) (xs:List V) (ps:List Q2) (a:Q2) (n m:Nat),vs=[.ref l,.int (j:Int),.ref z]/\H l=some (.lst xs)/\Fqs K H xs ps/\j < ps.length/\1<=(ps.getD j (0,1)).2/\Bd n (ps.getD j (0,1))/\Fq K H z a/\1<=a.2/\Bd m a/\n+m+1<=9000/\∀v H1,aV H H1->Fq K H1 v (Mq.plus (ps.getD j (0,1)) a)->Q .non (upd H1 l (.lst (xs.set j (.ref v))))
def zH (K:Frag)(CK:Kd->Addr):Sp:=fun vs H Q _=>∃(D x z:Addr) (zz:V) (as:List Addr) (M:List (List Q2)) (d:RD) (w n k c:Nat) (a:Q2),vs=[.ref D,.ref x,.int (c:Int),.ref z]/\Mx K H D as M/\MxB M w w n/\Rw CK H x d.1 (.int d.2.1) (.int d.2.2.1) zz/\cK (w:Int) d.2.1 d.2.2.1/\c < w/\Fq K H z a/\Low a/\Bd k a/\n+2*k+4<=9000/\∀H',SX as H H'->Mx K H' D as (en M d c a)->Q .non H'
def Bc (K:Frag)(CK:Kd->Addr):Sp:=fun vs H Q _=>∃(D x zz:Addr) (as:List Addr) (M:List (List Q2)) (d:RD) (w n k:Nat),vs=[.ref D,.ref x]/\Mx K H D as M/\MxB M w w n/\Rw CK H x d.1 (.int d.2.1) (.int d.2.2.1) (.ref zz)/\Fq K H zz d.2.2.2/\cK (w:Int) d.2.1 d.2.2.1/\Low d.2.2.2/\0 < d.2.2.2.1/\Bd k d.2.2.2/\n+4*k+20<=9000/\∀H',SX as H H'->Mx K H' D as (pM M d)->Q .non H'
def Al (K:Frag)(CK:Kd->Addr):Sp:=fun vs H Q _=>∃(D R x zz:Addr) (as:List Addr) (M:List (List Q2)) (ys:List V) (rs:List Q2) (d:RD) (w n c:Nat),vs=[.ref D,.ref R,.ref x,.int (c:Int)]/\Mx K H D as M/\MxB M w w n/\H R=some (.lst ys)/\Fqs K H ys rs/\rs.length=w/\R≠D/\R∉as/\Rw CK H x d.1 (.int d.2.1) (.int d.2.2.1) (.ref zz)/\Fq K H zz d.2.2.2/\cK (w:Int) d.2.1 d.2.2.1/\c < w/\n+20<=9000/\∀ys' H',SX (R :: as) H H'->Mx K H' D as (hM M d c)->H' R=some (.lst ys')->Fqs K H' ys' (rs.set c d.2.2.2)->Q .non H'
structure Fms (K:Frag) (H0 H:Hp) (us:List V) (X:List (List Q2)):Prop where
 l:us.length=X.length
 r:∀(i:Nat) (x:V) (ps:List Q2),us[i]?=some x->X[i]?=some ps->∃(a:Addr) (xs:List V),x=.ref a/\H0 a=none/\H a=some (.lst xs)/\Fqs K H xs ps
structure Aj (m:Nat) (ds:List RD) (N:Nat) (X:List (List Q2)) (Y:List Q2):Prop where
 x:MxB X (m - 1+bL ds) (m - 1+bL ds) N
 y:LnB Y (m - 1+bL ds) N
 vx:∀i j,Mq.val (jH X i j)=eqM m ds (i+1) (j+1)
 vy:∀i,Mq.val (Y.getD i (0,1))=eqR m ds (i+1)
def jL (wb:Nat->Nat):Nat->Nat
 |0=>0
 |i+1=>jL wb i+wb i
theorem vU (wb:Nat->Nat){i:Nat}:∀{j:Nat},i<=j->jL wb i<=jL wb j
 |0,h=>by rw[Nat.le_zero.mp h];exact Nat.le_refl _
 |j+1,h=>by
  rcases Nat.eq_or_lt_of_le h with z | z
  ·rw[z];exact Nat.le_refl _
  ·have:=vU wb (i:=i) (j:=j) (by lia);show _<=jL wb j+wb j;lia
def wY (K:Frag)(CK:Kd->Addr):Sp:=fun vs H Q _=>∃(R x zz:Addr) (ys:List V) (rs:List Q2) (d:RD) (w n k:Nat),vs=[.ref R,.ref x]/\H R=some (.lst ys)/\Fqs K H ys rs/\LnB rs w n/\Rw CK H x d.1 (.int d.2.1) (.int d.2.2.1) (.ref zz)/\Fq K H zz d.2.2.2/\cK (w:Int) d.2.1 d.2.2.1/\Low d.2.2.2/\Bd k d.2.2.2/\n+2*k+10<=9000/\∀ys' H',SX [R] H H'->H' R=some (.lst ys')->Fqs K H' ys' (pR rs d)->Q .non H'
theorem Wg {rs:List Q2}{w n k m h:Nat}{d:RD}(b:LnB rs w n)(pt:cK (m:Int) d.2.1 d.2.2.1)(hm:m<=w)(hk:d.1=.pu)(l:Low d.2.2.2)(bk:Bd k d.2.2.2):LnB (pR rs d) w (n+2*k+10)/\∀x,Mq.val ((pR rs d).getD x (0,1))=Mq.val (rs.getD x (0,1))+cR d h x:=by
 refine⟨?_,(qa8 b pt hm hk l bk).2⟩;obtain⟨i0,i1,j0,j1⟩:=pt;obtain⟨ln,bn,vn⟩:=kC l bk;have b1:=b.rz (j:=d.2.1.toNat) (by lia) ln bn;have b2:=b1.rz (j:=d.2.2.1.toNat) (by lia) l bk;exact LnB.mono b2 (by lia)
structure RwW (m:Nat) (k w:Nat) (d:RD):Prop where
 ok:Ho (m:Int) d
 bd:Bd k d.2.2.2
 pu:d.1=.pu->2*k+10<=w
 ot:d.1≠.pu->4*k+20<=w
def Kf (CN:Addr)(K:Frag):Sp:=fun vs H Q _=>∃(n l:Addr) (m:Nat) (kb wb:Nat->Nat) (ds:List RD),vs=[.ref n]/\fC CN K H n l (m:Int) ds/\(∀i d,ds[i]?=some d->RwW m (kb i) (wb i) d)/\1<=m/\m<=20/\ds.length<=40/\jL wb ds.length+30<=8900/\
 ∀t p r us ys X Y H',aV H H'->H' t=some (.tup [.ref p,.ref r])->H p=none->H r=none->H' p=some (.lst us)->H' r=some (.lst ys)->Fms K H H' us X->Fqs K H' ys Y->(∀x∈us,x≠.ref p/\x≠.ref r)->Aj m ds (jL wb ds.length+1) X Y->Q (.ref t) H'
def Tb (ta:TA):TE:=fun σ H Q=>ta σ H fun vs H1=>∃n:Nat,vs=[.int (n:Int)]/\n<=1000/\∀l,H1 l=none->Q (.ref l) (upd H1 l (.lst ((List.range n).map fun (i:Nat)=>V.int (i:Int))))
theorem uC:∀{n:Nat} {acc:List Value},acc.length=n->(∀(j:Nat) (v:Value),acc[j]?=some v->∃t,v=Value.int (j:Int) t)->bZ ((List.range n).map fun (i:Nat)=>V.int (i:Int)) acc
 |0,[],_,_=>.nil
 |n+1,acc,hl,h=>by
  have e:acc=acc.take n++[acc[n]'(by lia)]:=by
   have h1:acc.take (n+1)=acc:=take_of_length_le (by lia);have h2:acc.take (n+1)=acc.take n++[acc[n]'(by lia)]:=by rw[take_add_one,getElem?_eq_getElem (by lia)];rfl
   rw[h1] at h2;exact h2
  rw[range_succ,map_append,e];refine bZ.append (uC (by rw[length_take];lia) fun j v hj=>?_) (.cons ?_ .nil)
  ·have hjn:j < n:=by
    have:=(List.getElem?_eq_some_iff.mp hj).1;rw[length_take] at this;lia
   rw[getElem?_take,if_pos hjn] at hj;exact h j v hj
  ·obtain⟨t,ht⟩:=h n _ (getElem?_eq_getElem (by lia));rw[ht];exact⟨t,rfl⟩
section
variable {X:Cx} {a:Expr} {p p2 pos pos2:Pos} {ta:TA}
theorem zF (hc:X.calm=true)(hgl:Gl X "list")(hml:X.mg "list"=none)(hg:Gl X "range")(hm:X.mg "range"=none)(ha:PA X [a] ta)(hs:starEach [a] X.env=[(false,eval a X.env)]:=by rfl)(he:starEach [.Call (.Name "range" p2) [a] [] pos2] X.env=(false,eval (.Call (.Name "range" p2) [a] [] pos2) X.env) :: starEach [] X.env:=by rfl)(hpl:(backTo pos (starEach [] X.env)).any (·.1)=false:=by rfl) :
  PE X (.Call (.Name "list" p) [.Call (.Name "range" p2) [a] [] pos2] [] pos) (Tb ta):=by
 intro pins s σ H Q I h;refine wpAny_Call_Name_kw (kJ I hgl hml PyProof.Rows.boot_list ?_);refine PyProof.Rows.callWith_type1 ?_ he hpl;rw[he];show wpAny _ _ (spliced ((false,eval (.Call (.Name "range" p2) [a] [] pos2) X.env) :: backTo pos (starEach [] X.env))) _ _ s;refine Calls.spliced_cons ?_;refine wpAny_Call_Name_kw (kJ I hg hm boot_range (PyProof.Rows.callWith_type1 (thn (ha pos2 pins s σ H _ I h) fun us s1 ⟨vs,H1,I1,r1,q1⟩=>?_) hs rfl));obtain⟨n,e,hn,q⟩:=q1;subst e
 cases r1 with
 |cons r rr=>
  cases rr
  obtain⟨t,rfl⟩:=r;refine call_range_1 ?_;refine Calls.spliced_nil ?_;have I2:∀(ob:Obj) (tk:Nat),Inv X pins σ H1 { s1 with heap:=s1.heap.push ob,toks:=tk }:=fun ob tk=>I1.kept (t':=tk) (fun b ob e=>Heap.get?_push_of_some _ e);have hn24:(n:Nat)<=2 ^ 24:=by lia
  refine call_list_range (n:=n) (I1.ok.hd hc) (IsRange.new ..) (small_one (by lia) (by lia) (by lia) (by lia)) (by rw[rangeSize_one];split<;>lia) hn24 (fun h' tk acc' c' kp e items=>?_);have rl:bZ ((List.range n).map fun (i:Nat)=>V.int (i:Int)) acc'.toList:=uC (by rw[Array.length_toList];exact items.1) (fun j v hj=>by
   obtain⟨t,ht⟩:=items.2 j v (by rw[<- Array.getElem?_toList];exact hj);exact⟨t,by rw[ht];congr 1;lia⟩)
  have hz:((List.range n).map fun (i:Nat)=>V.int (i:Int)).length<=sizeLine:=by rw[length_map,length_range,sizeLine_eq];lia
  exact⟨.ref _,_,(I2 _ _).laid (t':=tk) kp (Nat.le_refl _) (show eI X.prog X.w _ h' _ (.lst ((List.range n).map fun (i:Nat)=>V.int (i:Int))) from ⟨hz,acc'.toList,c',rl,e⟩),rfl,q _ ((I2 _ _).hok.fresh (Nat.le_refl _))⟩
end
def jn (ms:List Int)(s g:Nat):List Int:=ms.map fun x=>if x=ms.getD g 0 then ms.getD s 0 else x
def yX (m:Nat):List Int:=(List.range m).map fun (i:Nat)=>(i:Int)
def iO (ms:List Int)(d:RD):List Int:=if d.1=.pu then ms else jn ms d.2.1.toNat d.2.2.1.toNat
def mks (m:Nat)(ds:List RD):List Int:=ds.foldl iO (yX m)
def mk (m:Nat)(ds:List RD)(p:Nat):Int:=(mks m ds).getD p 0
theorem lP (m:Nat)(ds:List RD)(d:RD):mks m (ds++[d])=iO (mks m ds) d:=by unfold mks;rw[foldl_append];rfl
theorem He (ms:List Int)(d:RD):(iO ms d).length=ms.length:=by
 unfold iO;split
 ·rfl
 ·unfold jn;rw[length_map]
theorem wF:∀(ds:List RD) (ms:List Int),(ds.foldl iO ms).length=ms.length
 | [],_=>rfl
 |d :: ds,ms=>by show (ds.foldl iO (iO ms d)).length=_;rw[wF ds,He]
theorem iM (m:Nat)(ds:List RD):(mks m ds).length=m:=by unfold mks yX;rw[wF,length_map,length_range]
theorem Ms {ms:List Int}{f:Int->Int}{p:Nat}(h:p < ms.length):(ms.map f).getD p 0=f (ms.getD p 0):=by
 rw[getD_eq_getElem?_getD,getElem?_map,getD_eq_getElem?_getD,getElem?_eq_getElem h];rfl
theorem Mc {m p:Nat}(h:p < m):mk m [] p=(p:Int):=by
 show (yX m).getD p 0=_;unfold yX;rw[getD_eq_getElem?_getD,getElem?_map,getElem?_range h];rfl
theorem rS {m:Nat}{ds:List RD}{d:RD}(hk:d.1=.pu)(p:Nat):mk m (ds++[d]) p=mk m ds p:=by
 unfold mk;rw[lP];unfold iO;rw[if_pos hk]
theorem jB {m:Nat}{ds:List RD}{d:RD}(hk:d.1≠.pu){p:Nat}(hp:p < m):mk m (ds++[d]) p=if mk m ds p=mk m ds d.2.2.1.toNat then mk m ds d.2.1.toNat else mk m ds p:=by
 unfold mk;rw[lP];unfold iO;rw[if_neg hk];unfold jn;rw[Ms (by rw[iM];exact hp)]
inductive Cn (ds:List RD):Nat->Nat->Prop where
 |refl (p:Nat):Cn ds p p
 |row {d:RD} (h:d∈ds) (hk:d.1≠.pu):Cn ds d.2.1.toNat d.2.2.1.toNat
 |symm {p q:Nat} (h:Cn ds p q):Cn ds q p
 |trans {p q r:Nat} (h:Cn ds p q) (g:Cn ds q r):Cn ds p r
theorem Cn.mono {ds es:List RD}(h:∀d∈ds,d∈es){p q:Nat}(c:Cn ds p q):Cn es p q:=by
 induction c with
 |refl p=>exact .refl p
 |row hd hk=>exact .row (h _ hd) hk
 |symm _ ih=>exact .symm ih
 |trans _ _ a b=>exact .trans a b
theorem Bg {m:Nat}:∀(n:Nat) (ds:List RD),ds.length=n->(∀d∈ds,cK (m:Int) d.2.1 d.2.2.1)->∀p q,p < m->q < m->mk m ds p=mk m ds q->Cn ds p q
 |0,ds,hl,_,p,q,hp,hq,e=>by
  have:ds=[]:=length_eq_zero_iff.mp hl;subst this;rw[Mc hp,Mc hq] at e;have:p=q:=by lia
  subst this;exact .refl p
 |n+1,ds,hl,pt,p,q,hp,hq,e=>by
  obtain⟨es,d,rfl⟩:∃es d,ds=es++[d]:=⟨ds.dropLast,ds.getLast (by intro z;rw[z] at hl;cases hl),(dropLast_concat_getLast _).symm⟩
  have le:es.length=n:=by rw[List.length_append] at hl;simpa using hl
  have ih:=Bg n es le (fun x hx=>pt x (mem_append_left _ hx));have up:∀{a b:Nat},Cn es a b->Cn (es++[d]) a b:=fun c=>c.mono fun x hx=>mem_append_left _ hx
  by_cases hk:d.1=.pu
  ·rw[rS hk,rS hk] at e;exact up (ih p q hp hq e)
  ·obtain⟨i0,i1,j0,j1⟩:=pt d (by simp);have hs:d.2.1.toNat < m:=by lia
   have hg:d.2.2.1.toNat < m:=by lia
   have rw':Cn (es++[d]) d.2.1.toNat d.2.2.1.toNat:=.row (by simp) hk;rw[jB hk hp,jB hk hq] at e
   by_cases a:mk m es p=mk m es d.2.2.1.toNat
   ·have cp:=up (ih _ _ hp hg a);rw[if_pos a] at e
    by_cases b:mk m es q=mk m es d.2.2.1.toNat
    ·exact cp.trans (up (ih _ _ hq hg b)).symm
    ·rw[if_neg b] at e;exact cp.trans (rw'.symm.trans (up (ih _ _ hs hq e)))
   ·rw[if_neg a] at e
    by_cases b:mk m es q=mk m es d.2.2.1.toNat
    ·rw[if_pos b] at e;exact(up (ih _ _ hp hs e)).trans (rw'.trans (up (ih _ _ hq hg b)).symm)
    ·rw[if_neg b] at e;exact up (ih _ _ hp hq e)
theorem rR {m:Nat}:∀(n:Nat) (ds:List RD),ds.length=n->(∀d∈ds,cK (m:Int) d.2.1 d.2.2.1)->∀d∈ds,d.1≠.pu->mk m ds d.2.1.toNat=mk m ds d.2.2.1.toNat
 |0,ds,hl,_,d,hd,_=>by
  have:ds=[]:=length_eq_zero_iff.mp hl;rw[this] at hd;cases hd
 |n+1,ds,hl,pt,x,hx,hkx=>by
  obtain⟨es,d,rfl⟩:∃es d,ds=es++[d]:=⟨ds.dropLast,ds.getLast (by intro z;rw[z] at hl;cases hl),(dropLast_concat_getLast _).symm⟩
  have le:es.length=n:=by rw[List.length_append] at hl;simpa using hl
  obtain⟨i0,i1,j0,j1⟩:=pt x hx;have hs:x.2.1.toNat < m:=by lia
  have hg:x.2.2.1.toNat < m:=by lia
  by_cases hk:d.1=.pu
  ·rw[rS hk,rS hk];rcases mem_append.mp hx with z | z
   ·exact rR n es le (fun y hy=>pt y (mem_append_left _ hy)) x z hkx
   ·have:x=d:=by simpa using z
    rw[this] at hkx;exact absurd hk hkx
  ·rw[jB hk hs,jB hk hg];rcases mem_append.mp hx with z | z
   ·have ih:=rR n es le (fun y hy=>pt y (mem_append_left _ hy)) x z hkx;rw[ih]
   ·have:x=d:=by simpa using z
    subst this;rw[if_pos rfl]
    by_cases c:mk m es x.2.1.toNat=mk m es x.2.2.1.toNat
    ·rw[if_pos c]
    ·rw[if_neg c]
theorem Cn.ind {ds:List RD}{R:Nat->Nat->Prop}(r:∀p,R p p)(s:∀p q,R p q->R q p)(t:∀p q x,R p q->R q x->R p x)(h:∀d∈ds,d.1≠.pu->R d.2.1.toNat d.2.2.1.toNat){p q:Nat}(c:Cn ds p q):R p q:=by
 induction c with
 |refl p=>exact r p
 |row hd hk=>exact h _ hd hk
 |symm _ ih=>exact s _ _ ih
 |trans _ _ a b=>exact t _ _ _ a b
theorem Pj {m:Nat}{ds:List RD}(pt:∀d∈ds,cK (m:Int) d.2.1 d.2.2.1){p q:Nat}(hp:p < m)(hq:q < m):mk m ds p=mk m ds q↔Cn ds p q:=
 ⟨Bg _ ds rfl pt p q hp hq,fun c=>Cn.ind (R:=fun a b=>mk m ds a=mk m ds b) (fun _=>rfl) (fun _ _ e=>e.symm) (fun _ _ _ a b=>a.trans b) (fun d hd hk=>rR _ ds rfl pt d hd hk) c⟩
theorem Fa:∀{m:Nat} {S:List Nat},S.Nodup->(∀p∈S,p < m)->S.length<=m
 |0,[],_,_=>Nat.le_refl _
 |0,p :: S,_,h=>absurd (h p (mem_cons_self ..)) (Nat.not_lt_zero _)
 |m+1,S,nd,h=>by
  have e:=Fa (m:=m) (S:=S.erase m) (nd.erase m) (fun p hp=>by
   have h1:=h p (mem_of_mem_erase hp);have h2:p≠m:=fun z=>by rw[z] at hp;exact(Nodup.not_mem_erase nd) hp
   lia)
  have:=length_erase_le (a:=m) (l:=S);have h3:S.length<=(S.erase m).length+1:=by
   rw[length_erase];split<;>lia
  lia
theorem Je {m:Nat}{ds:List RD}{f:Nat}{S:List Nat}(pt:∀d∈ds,cK (m:Int) d.2.1 d.2.2.1)(hf:f < m)(h1:f∈S)(h2:∀p∈S,p < m/\mk m ds p=mk m ds f)(h3:∀d∈ds,d.1≠.pu->(d.2.1.toNat∈S↔d.2.2.1.toNat∈S)){p:Nat}(hp:p < m):p∈S↔mk m ds p=mk m ds f:=by
 refine⟨fun h=>(h2 p h).2,fun h=>?_⟩;exact(Cn.ind (R:=fun a b=>a∈S↔b∈S) (fun _=>Iff.rfl) (fun _ _ e=>e.symm) (fun _ _ _ a b=>a.trans b) h3 ((Pj pt hf hp).mp h.symm)).mp h1
abbrev Stp:=Nat × Int
abbrev Br:=Nat × Nat × Nat
def stF (es:List Br)(p:Nat):List (Stp × Nat):=es.filterMap fun e=>if e.2.1=p then some ((e.1,1),e.2.2) else if e.2.2=p then some ((e.1,-1),e.2.1) else none
abbrev WS:=List (Nat × List Stp)
def cB (w:WS):List Nat:=w.map (·.1)
def qQ:WS->Nat->Option (List Stp)
 | [],_=>none
 |e :: w,p=>if e.1=p then some e.2 else qQ w p
theorem gY {p:Nat}{st:List Stp}:∀{w:WS},qQ w p=some st->(p,st)∈w
 | [],h=>by cases h
 |e :: w,h=>by
  unfold qQ at h
  by_cases c:e.1=p
  ·rw[if_pos c] at h
   cases h
   obtain⟨a,b⟩:=e;have c:a=p:=c;subst c;exact mem_cons_self ..
  ·rw[if_neg c] at h;exact mem_cons_of_mem _ (gY h)
theorem pP {p:Nat}:∀{w:WS},p∈cB w->∃st,qQ w p=some st
 | [],h=>by cases h
 |e :: w,h=>by
  unfold qQ
  by_cases c:e.1=p
  ·rw[if_pos c];exact⟨_,rfl⟩
  ·rw[if_neg c];rcases mem_cons.mp h with z | z
   ·exact absurd z.symm c
   ·exact pP z
theorem qG {p:Nat}:∀{w:WS},p∉cB w->qQ w p=none
 | [],_=>rfl
 |e :: w,h=>by
  unfold qQ;rw[if_neg (fun z=>h (by rw[<- z];exact mem_cons_self ..))];exact qG fun z=>h (mem_cons_of_mem _ z)
theorem Lu {w:WS}{p:Nat}:(qQ w p).isSome=true↔p∈cB w:=by
 by_cases c:p∈cB w
 ·obtain⟨st,e⟩:=pP c;rw[e];exact⟨fun _=>c,fun _=>rfl⟩
 ·rw[qG c];exact⟨fun z=>(by cases z),fun z=>absurd z c⟩
def inF (p:Nat)(s:WS × List Nat)(t:Stp × Nat):WS × List Nat:=if t.2∈cB s.1 then s else (s.1++[(t.2,(qQ s.1 p).getD []++[t.1])],s.2++[t.2])
def kM (es:List Br)(s:WS × List Nat):WS × List Nat:=if s.2=[] then s else (stF es (s.2.getLastD 0)).foldl (inF (s.2.getLastD 0)) (s.1,s.2.dropLast)
def cD (es:List Br)(b:Nat):Nat->WS × List Nat
 |0=>([(b,[])],[b])
 |n+1=>kM es (cD es b n)
def qW (es:List Br)(b e:Nat):Option (List Stp):=qQ (cD es b 60).1 e
def oU (es:List Br)(s:Stp)(p q:Nat):Prop:=∃u v,(s.1,u,v)∈es/\((s.2=1/\p=u/\q=v)\/(s.2=-1/\p=v/\q=u))
inductive Pt (es:List Br) (b:Nat):List Stp->Nat->List Nat->Prop where
 |nil:Pt es b [] b [b]
 |snoc {st:List Stp} {p q:Nat} {pts:List Nat} {s:Stp} (h:Pt es b st p pts) (g:oU es s p q) (n:q∉pts):Pt es b (st++[s]) q (pts++[q])
theorem lG {es:List Br}{p:Nat}{t:Stp × Nat}(h:t∈stF es p):oU es t.1 p t.2:=by
 unfold stF at h;obtain⟨e,he,ht⟩:=mem_filterMap.mp h
 by_cases c1:e.2.1=p
 ·rw[if_pos c1] at ht
  cases ht
  exact⟨e.2.1,e.2.2,he,.inl ⟨rfl,c1.symm,rfl⟩⟩
 ·rw[if_neg c1] at ht
  by_cases c2:e.2.2=p
  ·rw[if_pos c2] at ht
   cases ht
   exact⟨e.2.1,e.2.2,he,.inr ⟨rfl,c2.symm,rfl⟩⟩
  ·rw[if_neg c2] at ht;cases ht
theorem Ks {es:List Br}{p q:Nat}{s:Stp}(h:oU es s p q):q=p\/∃t∈stF es p,t.2=q:=by
 obtain⟨u,v,he,h⟩:=h
 by_cases c:q=p
 ·exact .inl c
 refine .inr ?_;rcases h with ⟨_,rfl,rfl⟩ | ⟨_,rfl,rfl⟩
 ·refine⟨((s.1,1),q),mem_filterMap.mpr ⟨_,he,?_⟩,rfl⟩;rw[if_pos rfl]
 ·refine⟨((s.1,-1),q),mem_filterMap.mpr ⟨_,he,?_⟩,rfl⟩;rw[if_neg c,if_pos rfl]
structure WI (es:List Br) (b:Nat) (s:WS × List Nat):Prop where
 nd:(cB s.1).Nodup
 kb:b∈cB s.1
 pt:∀x st,(x,st)∈s.1->∃pts,Pt es b st x pts/\∀y∈pts,y∈cB s.1
 q:∀x∈s.2,x∈cB s.1
 cl:∀x∈cB s.1,x∉s.2->∀t y,oU es t x y->y∈cB s.1
theorem Lx (es:List Br)(b:Nat):WI es b ([(b,[])],[b]):=by
 refine⟨by simp[cB],by simp[cB],fun x st h=>?_,fun x h=>?_,fun x h n=>?_⟩
 ·have:(x,st)=(b,[]):=by simpa using h
  cases this
  exact⟨[b],.nil,fun y hy=>by simpa[cB] using hy⟩
 ·simpa[cB] using h
 ·have:x=b:=by simpa[cB] using h
  exact absurd (by simp[this]) n
theorem xO (w:WS)(x:Nat)(st:List Stp):cB (w++[(x,st)])=cB w++[x]:=by unfold cB;rw[map_append];rfl
structure WJ (es:List Br) (b p:Nat) (T:List (Stp × Nat)) (s:WS × List Nat):Prop where
 nd:(cB s.1).Nodup
 kb:b∈cB s.1
 kp:p∈cB s.1
 pt:∀x st,(x,st)∈s.1->∃pts,Pt es b st x pts/\∀y∈pts,y∈cB s.1
 q:∀x∈s.2,x∈cB s.1
 cl:∀x∈cB s.1,x∉s.2->x≠p->∀t y,oU es t x y->y∈cB s.1
 t:∀t∈T,t.2∈cB s.1
theorem Gh {es:List Br}{b p:Nat}{T:List (Stp × Nat)}{s:WS × List Nat}{t:Stp × Nat}(h:WJ es b p T s)(g:oU es t.1 p t.2):WJ es b p (T++[t]) (inF p s t):=by
 unfold inF
 by_cases c:t.2∈cB s.1
 ·rw[if_pos c];refine { h with t:=fun u hu=>?_ };rcases mem_append.mp hu with z | z
  ·exact h.t u z
  ·have:u=t:=by simpa using z
   rw[this];exact c
 ·rw[if_neg c];obtain⟨sp,ep⟩:=pP h.kp;rw[ep];have up:∀{x:Nat},x∈cB s.1->x∈cB (s.1++[(t.2,sp++[t.1])]):=fun hx=>by rw[xO];exact mem_append_left _ hx
  have me:t.2∈cB (s.1++[(t.2,sp++[t.1])]):=by rw[xO];simp
  refine⟨?_,up h.kb,up h.kp,fun x st hx=>?_,fun x hx=>?_,fun x hx nx np=>?_,fun u hu=>?_⟩
  ·show (cB (s.1++[(t.2,sp++[t.1])])).Nodup;rw[xO,nodup_append];refine⟨h.nd,by simp,fun x hx y hy z=>?_⟩;have:y=t.2:=by simpa using hy
   exact c (by rw[<- this,<- z];exact hx)
  ·rcases mem_append.mp hx with z | z
   ·obtain⟨pts,h1,h2⟩:=h.pt x st z;exact⟨pts,h1,fun y hy=>up (h2 y hy)⟩
   ·have:(x,st)=(t.2,sp++[t.1]):=by simpa using z
    cases this
    obtain⟨pts,h1,h2⟩:=h.pt p sp (gY ep);refine⟨pts++[t.2],.snoc h1 g (fun z=>c (h2 _ z)),fun y hy=>?_⟩;rcases mem_append.mp hy with z | z
    ·exact up (h2 y z)
    ·have:y=t.2:=by simpa using z
     rw[this];exact me
  ·rcases mem_append.mp hx with z | z
   ·exact up (h.q x z)
   ·have:x=t.2:=by simpa using z
    rw[this];exact me
  ·have hx':x∈cB s.1:=by
    have hx2:x∈cB (s.1++[(t.2,sp++[t.1])]):=hx;rw[xO] at hx2;rcases mem_append.mp hx2 with z | z
    ·exact z
    ·exact absurd (mem_append_right _ z) nx
   intro t' y hg;exact up (h.cl x hx' (fun z=>nx (mem_append_left _ z)) np t' y hg)
  ·rcases mem_append.mp hu with z | z
   ·exact up (h.t u z)
   ·have:u=t:=by simpa using z
    rw[this];exact me
theorem yE {es:List Br}{b p:Nat}:∀(U T:List (Stp × Nat)) {s:WS × List Nat},WJ es b p T s->(∀t∈U,oU es t.1 p t.2)->WJ es b p (T++U) (U.foldl (inF p) s)
 | [],T,s,h,_=>by rw[append_nil];exact h
 |u :: U,T,s,h,g=>by
  have:=yE U (T++[u]) (Gh h (g u (by simp))) fun t ht=>g t (mem_cons_of_mem _ ht);rw[List.append_assoc] at this;exact this
theorem Es {q:List Nat}(h:q≠[]):q.getLastD 0∈q/\q=q.dropLast++[q.getLastD 0]:=by
 have e:q.getLastD 0=q.getLast h:=by rw[getLastD_eq_getLast?,getLast?_eq_some_getLast h];rfl
 rw[e];exact⟨getLast_mem h,(dropLast_concat_getLast h).symm⟩
theorem uH {es:List Br}{b:Nat}{s:WS × List Nat}(h:WI es b s)(hq:s.2≠[]):WJ es b (s.2.getLastD 0) [] (s.1,s.2.dropLast):=by
 obtain⟨m,e⟩:=Es hq;refine⟨h.nd,h.kb,h.q _ m,h.pt,fun x hx=>h.q x (dropLast_subset _ hx),fun x hx nx np=>h.cl x hx fun z=>?_,fun t ht=>by cases ht⟩;rw[e] at z;rcases mem_append.mp z with z | z
 ·exact nx z
 ·exact np (by simpa using z)
theorem Wp {es:List Br}{b p:Nat}{s:WS × List Nat}(h:WJ es b p (stF es p) s):WI es b s:=by
 refine⟨h.nd,h.kb,h.pt,h.q,fun x hx nx t y hg=>?_⟩
 by_cases c:x=p
 ·subst c;rcases Ks hg with z | ⟨u,hu,e⟩
  ·rw[z];exact hx
  ·rw[<- e];exact h.t u hu
 ·exact h.cl x hx nx c t y hg
theorem Re {es:List Br}{b:Nat}{s:WS × List Nat}(h:WI es b s):WI es b (kM es s):=by
 unfold kM
 by_cases c:s.2=[]
 ·rw[if_pos c];exact h
 ·rw[if_neg c];have:=yE (stF es (s.2.getLastD 0)) [] (uH h c) fun t ht=>lG ht;rw[nil_append] at this;exact Wp this
theorem jX (es:List Br)(b:Nat):∀n,WI es b (cD es b n)
 |0=>Lx es b
 |n+1=>Re (jX es b n)
def muF (s:WS × List Nat):Nat:=2*(20 - s.1.length)+s.2.length
structure Ptm (m:Nat) (es:List Br):Prop where
 p:∀e∈es,e.2.1 < m/\e.2.2 < m
theorem Zw {m:Nat}{es:List Br}{b:Nat}(h:Ptm m es)(hb:b < m){st:List Stp}{x:Nat}{pts:List Nat}(p:Pt es b st x pts):x < m:=by
 cases p with
 |nil=>exact hb
 |snoc _ g _=>
  obtain⟨u,v,he,g⟩:=g;have:=h.p _ he;rcases g with ⟨_,_,rfl⟩ | ⟨_,_,rfl⟩
  ·exact this.2
  ·exact this.1
theorem xS {m:Nat}{es:List Br}{b:Nat}(h:Ptm m es)(hb:b < m){w:WS}(pt:∀x st,(x,st)∈w->∃pts,Pt es b st x pts/\∀y∈pts,y∈cB w):∀x∈cB w,x < m:=fun x hx=>by
 obtain⟨st,e⟩:=pP hx;obtain⟨pts,p,_⟩:=pt x st (gY e);exact Zw h hb p
theorem Oq {m:Nat}{es:List Br}{b:Nat}(h:Ptm m es)(hb:b < m){w:WS}(nd:(cB w).Nodup)(pt:∀x st,(x,st)∈w->∃pts,Pt es b st x pts/\∀y∈pts,y∈cB w):w.length<=m:=by
 have:=Fa nd (xS h hb pt);unfold cB at this
 rwa [length_map] at this
theorem Zg {es:List Br}{b p m:Nat}{T:List (Stp × Nat)}{s:WS × List Nat}{t:Stp × Nat}(hm:Ptm m es)(hb:b < m)(h20:m<=20)(h:WJ es b p T s)(g:oU es t.1 p t.2):muF (inF p s t)<=muF s:=by
 have h':=Gh h g;have le:=Oq hm hb h'.nd h'.pt;unfold inF at le ⊢
 by_cases c:t.2∈cB s.1
 ·rw[if_pos c];exact Nat.le_refl _
 ·rw[if_neg c] at le ⊢;unfold muF;simp only[List.length_append,length_cons,length_nil] at le ⊢;lia
theorem xR {es:List Br}{b p m:Nat}(hm:Ptm m es)(hb:b < m)(h20:m<=20):∀(U T:List (Stp × Nat)) {s:WS × List Nat},WJ es b p T s->(∀t∈U,oU es t.1 p t.2)->muF (U.foldl (inF p) s)<=muF s
 | [],_,_,_,_=>Nat.le_refl _
 |u :: U,T,s,h,g=>Nat.le_trans (xR hm hb h20 U (T++[u]) (Gh h (g u (by simp))) fun t ht=>g t (mem_cons_of_mem _ ht)) (Zg hm hb h20 h (g u (by simp)))
theorem Ak {s:WS × List Nat}(h:s.2≠[]):muF (s.1,s.2.dropLast)+1=muF s:=by
 have:0 < s.2.length:=length_pos_iff.mpr h;show 2*(20 - s.1.length)+s.2.dropLast.length+1=2*(20 - s.1.length)+s.2.length;rw[length_dropLast];lia
theorem Ge {es:List Br}{b m:Nat}{s:WS × List Nat}(hm:Ptm m es)(hb:b < m)(h20:m<=20)(h:WI es b s)(hq:s.2≠[]):muF (kM es s)+1<=muF s:=by
 unfold kM;rw[if_neg hq];have:=xR hm hb h20 (stF es (s.2.getLastD 0)) [] (uH h hq) fun t ht=>lG ht;have e:=Ak hq;lia
theorem vX {es:List Br}{b:Nat}{i:Nat}(h:(cD es b i).2=[]):∀n,cD es b (i+n)=cD es b i
 |0=>rfl
 |n+1=>by
  show kM es (cD es b (i+n))=_;rw[vX h n];unfold kM;rw[if_pos h]
theorem Rn {es:List Br}{b i:Nat}(h:(cD es b i).2=[])(hi:i<=60):(cD es b 60).1=(cD es b i).1:=by
 have:=vX h (60 - i);rw[show i+(60 - i)=60 by lia] at this;rw[this]
theorem pZ {es:List Br}{b m:Nat}(hm:Ptm m es)(hb:b < m)(h20:m<=20):∀n,(cD es b n).2=[]\/n+muF (cD es b n)<=39
 |0=>.inr (by show 0+(2*(20 - 1)+1)<=39;lia)
 |n+1=>by
  by_cases c:(cD es b n).2=[]
  ·refine .inl ?_;show (kM es (cD es b n)).2=[]
   unfold kM;rw[if_pos c];exact c
  ·rcases pZ hm hb h20 n with z | z
   ·exact absurd z c
   ·have:=Ge hm hb h20 (jX es b n) c;refine .inr ?_;show n+1+muF (kM es (cD es b n))<=39;lia
theorem Nb {es:List Br}{b m:Nat}(hm:Ptm m es)(hb:b < m)(h20:m<=20):(cD es b 60).2=[]:=by
 rcases pZ hm hb h20 60 with z | z
 ·exact z
 ·lia
def cV (es:List Br):List RD:=es.map fun e=>(.pc,(e.2.1:Int),(e.2.2:Int),(0,1))
theorem uL {m:Nat}{es:List Br}(h:Ptm m es):∀d∈cV es,cK (m:Int) d.2.1 d.2.2.1:=fun d hd=>by
 obtain⟨e,he,rfl⟩:=mem_map.mp hd;have:=h.p e he;exact⟨by show (0:Int)<=(e.2.1:Int);lia,by show ((e.2.1:Nat):Int) < m;lia,by show (0:Int)<=(e.2.2:Int);lia,by show ((e.2.2:Nat):Int) < m;lia⟩
theorem Qs {m:Nat}{es:List Br}(h:Ptm m es){s:Stp}{p q:Nat}(g:oU es s p q):mk m (cV es) q=mk m (cV es) p:=by
 obtain⟨u,v,he,g⟩:=g;have e:=rR _ (cV es) rfl (uL h) (.pc,(u:Int),(v:Int),(0,1)) (mem_map.mpr ⟨_,he,rfl⟩) (by intro z;cases z);rw[Int.toNat_natCast,Int.toNat_natCast] at e;rcases g with ⟨_,rfl,rfl⟩ | ⟨_,rfl,rfl⟩
 ·exact e.symm
 ·exact e
theorem qa7 {m:Nat}{es:List Br}{b:Nat}(h:Ptm m es){st:List Stp}{x:Nat}{pts:List Nat}(p:Pt es b st x pts):mk m (cV es) x=mk m (cV es) b:=by
 induction p with
 |nil=>rfl
 |snoc _ g _ ih=>rw[Qs h g,ih]
theorem Fv {m:Nat}{es:List Br}{b e:Nat}(h:Ptm m es)(h20:m<=20)(hb:b < m)(he:e < m):(qW es b e).isSome=true↔mk m (cV es) e=mk m (cV es) b:=by
 have wi:=jX es b 60;have q0:=Nb h hb h20;unfold qW;rw[Lu];refine Je (uL h) hb wi.kb (fun p hp=>⟨xS h hb wi.pt p hp,?_⟩) (fun d hd _=>?_) he
 ·obtain⟨st,e'⟩:=pP hp;obtain⟨pts,pp,_⟩:=wi.pt p st (gY e');exact qa7 h pp
 ·obtain⟨a,ha,rfl⟩:=mem_map.mp hd;show ((a.2.1:Int).toNat∈_↔(a.2.2:Int).toNat∈_);rw[Int.toNat_natCast,Int.toNat_natCast];exact⟨fun z=>wi.cl _ z (by rw[q0];simp) (a.1,1) _ ⟨a.2.1,a.2.2,ha,.inl ⟨rfl,rfl,rfl⟩⟩,fun z=>wi.cl _ z (by rw[q0];simp) (a.1,-1) _ ⟨a.2.1,a.2.2,ha,.inr ⟨rfl,rfl,rfl⟩⟩⟩
structure qT (es:List Br) (b e:Nat) (st:List Stp) (pts:List Nat):Prop where
 l:pts.length=st.length+1
 hb:pts[0]?=some b
 he:pts[st.length]?=some e
 g:∀i s,st[i]?=some s->∃p q,pts[i]?=some p/\pts[i+1]?=some q/\oU es s p q
 n:(st.map (·.1)).Nodup
theorem Sj {es:List Br}{b x:Nat}{st:List Stp}{pts:List Nat}(p:Pt es b st x pts):∀s∈st,∃y z,y∈pts/\z∈pts/\oU es s y z:=by
 induction p with
 |nil=>intro s h;cases h
 | @snoc st p q pts s h g n ih=>
  intro t ht;rcases mem_append.mp ht with z | z
  ·obtain⟨y,z',h1,h2,h3⟩:=ih t z;exact⟨y,z',mem_append_left _ h1,mem_append_left _ h2,h3⟩
  ·have:t=s:=by simpa using z
   subst this;refine⟨p,q,mem_append_left _ ?_,by simp,g⟩
   cases h with
   |nil=>simp
   |snoc _ _ _=>simp
theorem Io {es:List Br}{b x:Nat}{st:List Stp}{pts:List Nat}(ne:(es.map (·.1)).Nodup)(p:Pt es b st x pts):qT es b x st pts:=by
 induction p with
 |nil=>exact⟨rfl,rfl,rfl,fun i s h=>by simp at h,by simp⟩
 | @snoc st p q pts s h g n ih=>
  have l:=ih.l;refine⟨by rw[List.length_append,List.length_append,l];rfl,?_,?_,fun i t ht=>?_,?_⟩
  ·rw[getElem?_append_left (by lia)];exact ih.hb
  ·rw[List.length_append,getElem?_append_right (by simp;lia)];simp only[length_cons,length_nil];rw[show st.length+(0+1) - pts.length=0 by lia];rfl
  ·by_cases c:i < st.length
   ·rw[getElem?_append_left c] at ht;obtain⟨y,z,h1,h2,h3⟩:=ih.g i t ht;exact⟨y,z,by rw[getElem?_append_left (by lia)];exact h1,by rw[getElem?_append_left (by lia)];exact h2,h3⟩
   ·have hi:i=st.length:=by
     have:=(List.getElem?_eq_some_iff.mp ht).1;simp only[List.length_append,length_cons,length_nil] at this;lia
    subst hi;rw[getElem?_append_right (Nat.le_refl _),Nat.sub_self] at ht;have:s=t:=by simpa using ht
    subst this;refine⟨p,q,by rw[getElem?_append_left (by lia)];exact ih.he,?_,g⟩;rw[getElem?_append_right (by lia),show st.length+1 - pts.length=0 by lia];rfl
  ·rw[map_append,nodup_append];refine⟨ih.n,by simp,fun a ha c hc z=>?_⟩;have hc:c=s.1:=by simpa using hc
   obtain⟨t,ht,et⟩:=mem_map.mp ha;obtain⟨y,w,h1,h2,u',v',he',g'⟩:=Sj h t ht;obtain⟨u,v,he,g⟩:=g;have same:(t.1,u',v')=(s.1,u,v):=by
    have key:∀{l:List Br},(l.map (·.1)).Nodup->∀{a c:Br},a∈l->c∈l->a.1=c.1->a=c:=fun {l}=>by
     induction l with
     |nil=>intro _ a c h;cases h
     |cons x l ih=>
      intro nd a c ha hc e;rw[map_cons,nodup_cons] at nd;rcases mem_cons.mp ha with rfl | z1<;>rcases mem_cons.mp hc with rfl | z2
      ·rfl
      ·exact absurd (mem_map.mpr ⟨c,z2,e.symm⟩) nd.1
      ·exact absurd (mem_map.mpr ⟨a,z1,e⟩) nd.1
      ·exact ih nd.2 z1 z2 e
    exact key ne he' he (by show t.1=s.1;rw[et,z,hc])
   have e1:u'=u:=by injection same with _ e;injection e
   have e2:v'=v:=by injection same with _ e;injection e
   subst e1;subst e2;rcases g with ⟨_,rfl,rfl⟩ | ⟨_,rfl,rfl⟩<;>rcases g' with ⟨_,rfl,rfl⟩ | ⟨_,rfl,rfl⟩
   ·exact n h2
   ·exact n h1
   ·exact n h1
   ·exact n h2
theorem Ir {es:List Br}{b e:Nat}{st:List Stp}(ne:(es.map (·.1)).Nodup)(h:qW es b e=some st):∃pts,qT es b e st pts:=by
 obtain⟨pts,p,_⟩:=(jX es b 60).pt e st (gY h);exact⟨pts,Io ne p⟩
theorem wD {m:Nat}{es:List Br}{b e:Nat}{st:List Stp}(hm:Ptm m es)(hb:b < m)(h:qW es b e=some st):st.length < m:=by
 obtain⟨pts,p,k⟩:=(jX es b 60).pt e st (gY h);have l:pts.length=st.length+1:=by
  clear h
  induction p with
  |nil=>rfl
  |snoc h g n ih=>rw[List.length_append,List.length_append,ih fun y hy=>k y (mem_append_left _ hy)];rfl
 have nd:pts.Nodup:=by
  clear h k l
  induction p with
  |nil=>simp
  |snoc h g n ih=>
   rw[nodup_append];refine⟨ih,by simp,fun x hx y hy z=>n ?_⟩;rw[mem_singleton] at hy;rw[<- hy,<- z];exact hx
 have:=Fa nd fun y hy=>xS hm hb (jX es b 60).pt y (k y hy);lia
abbrev Sk:=Kd × Nat × Nat
def skl (ds:List RD):List Sk:=ds.map fun d=>(d.1,d.2.1.toNat,d.2.2.1.toNat)
abbrev RS:=List Br × List (Nat × List Stp)
def iI (W:Kd->Bool)(s:RS)(k:Nat)(d:Sk):RS:=if W d.1 then (match qW s.1 d.2.2 d.2.1 with
 |none=>(s.1++[(k,d.2.1,d.2.2)],s.2)
 |some st=>(s.1,s.2++[(k,(k,1) :: st)])) else s
def cP (W:Kd->Bool)(sk:List Sk):Nat->RS
 |0=>([],[])
 |n+1=>match sk[n]? with
  |none=>cP W sk n
  |some d=>iI W (cP W sk n) n d
theorem gU {W:Kd->Bool}{sk:List Sk}{n:Nat}{d:Sk}(h:sk[n]?=some d):cP W sk (n+1)=iI W (cP W sk n) n d:=by
 show (match sk[n]? with | none=>cP W sk n | some d=>iI W (cP W sk n) n d)=_;rw[h]
structure RI (W:Kd->Bool) (sk:List Sk) (m n:Nat) (s:RS):Prop where
 pt:Ptm m s.1
 nd:(s.1.map (·.1)).Nodup
 lt:∀e∈s.1,e.1 < n
 at_:∀e∈s.1,∃k,sk[e.1]?=some (k,e.2.1,e.2.2)
 rl:s.2.length<=n
 r:∀c∈s.2,c.1 < n/\∃k u v st pts,sk[c.1]?=some (k,u,v)/\c.2=(c.1,1) :: st/\(∀t∈st,t.1 < c.1/\t.1∈s.1.map (·.1))/\qT s.1 v u st pts/\st.length < m
theorem qT.mono {es es':List Br}{b e:Nat}{st:List Stp}{pts:List Nat}(h:qT es b e st pts)(hs:∀x∈es,x∈es'):qT es' b e st pts:=
 { h with g:=fun i s hi=>let ⟨p,q,h1,h2,u,v,h3,h4⟩:=h.g i s hi;⟨p,q,h1,h2,u,v,hs _ h3,h4⟩ }
theorem Jr {es:List Br}{b e:Nat}{st:List Stp}{pts:List Nat}(h:qT es b e st pts):∀t∈st,t.1∈es.map (·.1):=fun t ht=>by
 obtain⟨i,hi⟩:=getElem?_of_mem ht;obtain⟨p,q,_,_,u,v,h3,_⟩:=h.g i t hi;exact mem_map.mpr ⟨_,h3,rfl⟩
theorem jM {W:Kd->Bool}{sk:List Sk}{m:Nat}(hm:∀d∈sk,d.2.1 < m/\d.2.2 < m):∀n,n<=sk.length->RI W sk m n (cP W sk n)
 |0,_=>⟨⟨fun e h=>(by cases h)⟩,(by show ([]:List Nat).Nodup;simp),fun e h=>(by cases h),fun e h=>(by cases h),Nat.le_refl _,fun c h=>(by cases h)⟩
 |n+1,hn=>by
  have ih:=jM (W:=W) hm n (by lia);have hd:sk[n]?=some sk[n]:=getElem?_eq_getElem (by lia);rw[gU hd];have pm:=hm _ (mem_of_getElem? hd);generalize sk[n]=d at hd pm;generalize cP W sk n=s at ih;unfold iI
  by_cases hw:W d.1=true
  ·rw[if_pos hw]
   cases hy:qW s.1 d.2.2 d.2.1 with
   |none=>
    show RI W sk m (n+1) (s.1++[(n,d.2.1,d.2.2)],s.2);refine⟨⟨fun e he=>?_⟩,?_,fun e he=>?_,fun e he=>?_,by have:=ih.rl;show s.2.length<=n+1;lia,fun c hc=>?_⟩
    ·rcases mem_append.mp he with z | z
     ·exact ih.pt.p e z
     ·have:e=(n,d.2.1,d.2.2):=by simpa using z
      rw[this];exact pm
    ·show ((s.1++[(n,d.2.1,d.2.2)]).map (·.1)).Nodup;rw[map_append,nodup_append];refine⟨ih.nd,by simp,fun x hx y hy z=>?_⟩;have:y=n:=by simpa using hy
     obtain⟨e,he,ee⟩:=mem_map.mp hx;have:=ih.lt e he;lia
    ·rcases mem_append.mp he with z | z
     ·have:=ih.lt e z;lia
     ·have:e=(n,d.2.1,d.2.2):=by simpa using z
      rw[this];exact Nat.lt_succ_self n
    ·rcases mem_append.mp he with z | z
     ·exact ih.at_ e z
     ·have:e=(n,d.2.1,d.2.2):=by simpa using z
      rw[this];exact⟨d.1,hd⟩
    ·obtain⟨h1,k,u,v,st,pts,h2,h3,h4,h5,h6⟩:=ih.r c hc;refine⟨by lia,k,u,v,st,pts,h2,h3,fun t ht=>⟨(h4 t ht).1,?_⟩,h5.mono fun x hx=>mem_append_left _ hx,h6⟩;show t.1∈(s.1++[(n,d.2.1,d.2.2)]).map (·.1);rw[map_append];exact mem_append_left _ (h4 t ht).2
   |some st=>
    show RI W sk m (n+1) (s.1,s.2++[(n,(n,1) :: st)]);refine⟨ih.pt,ih.nd,fun e he=>Nat.lt_succ_of_lt (ih.lt e he),ih.at_,by have:=ih.rl;show (s.2++[(n,(n,1) :: st)]).length<=n+1;rw[List.length_append];simp only[length_cons,length_nil];lia,fun c hc=>?_⟩;rcases mem_append.mp hc with z | z
    ·obtain⟨h1,r⟩:=ih.r c z;exact⟨by lia,r⟩
    ·have:c=(n,(n,1) :: st):=by simpa using z
     subst this;obtain⟨pts,ch⟩:=Ir ih.nd hy;refine⟨Nat.lt_succ_self n,d.1,d.2.1,d.2.2,st,pts,hd,rfl,fun t ht=>?_,ch,wD ih.pt pm.2 hy⟩;have ti:=Jr ch t ht;obtain⟨e,he,ee⟩:=mem_map.mp ti;have:=ih.lt e he;exact⟨by show t.1 < n;lia,ti⟩
  ·rw[if_neg hw];exact⟨ih.pt,ih.nd,fun e he=>Nat.lt_succ_of_lt (ih.lt e he),ih.at_,by have:=ih.rl;lia,fun c hc=>let ⟨h1,r⟩:=ih.r c hc;⟨by lia,r⟩⟩
theorem SqT.updD {K:Frag}{H:Hp}{a l:Addr}{xs:List V}{kvs:List (Key × V)}{o:HO}(h:SqT K H a xs)(hl:H l=some (.dK kvs)):SqT K (L2.upd H l o) a xs:=by
 rcases h with (h | ⟨u,h⟩) | h
 ·exact .inl (.inl (by rw[aU (fM h hl (fun z=>by cases z))];exact h))
 ·exact .inl (.inr ⟨u,by rw[aU (fM h hl (fun z=>by cases z))];exact h⟩)
 ·exact .inr h
inductive Sts (K:Frag) (H:Hp):List V->List Stp->Prop where
 |nil:Sts K H [] []
 |cons {t:Addr} {n:Nat} {w:Int} {xs:List V} {st:List Stp} (h:SqT K H t [.int (n:Int),.int w]) (q:Sts K H xs st):Sts K H (.ref t :: xs) ((n,w) :: st)
section
variable {K:Frag} {H H':Hp}
theorem Sts.same (e:aV H H'):∀{xs:List V} {st:List Stp},Sts K H xs st->Sts K H' xs st
 |_,_,.nil=>.nil
 |_,_,.cons h q=>.cons (e.seqT h) (Sts.same e q)
theorem Sts.length:∀{xs:List V} {st:List Stp},Sts K H xs st->xs.length=st.length
 |_,_,.nil=>rfl
 |_,_,.cons _ q=>by simp[Sts.length q]
theorem Sts.app:∀{xs ys:List V} {st su:List Stp},Sts K H xs st->Sts K H ys su->Sts K H (xs++ys) (st++su)
 |_,_,_,_,.nil,r=>r
 |_,_,_,_,.cons h q,r=>.cons h (Sts.app q r)
theorem Sts.get:∀{xs:List V} {st:List Stp} {i:Nat} {x:V},Sts K H xs st->xs[i]?=some x->∃t s,x=.ref t/\st[i]?=some s/\SqT K H t [.int (s.1:Int),.int s.2]
 |_,_,_,_,.nil,h=>by simp at h
 |_,_,0,_,.cons h _,e=>by simp at e;subst e;exact⟨_,_,rfl,rfl,h⟩
 |_,_,i+1,_,.cons _ q,e=>by simpa using Sts.get q (by simpa using e)
theorem Sts.upd {l:Addr}{ys:List V}{o:HO}(hl:H l=some (.lst ys)):∀{xs:List V} {st:List Stp},Sts K H xs st->Sts K (L2.upd H l o) xs st
 |_,_,.nil=>.nil
 |_,_,.cons h q=>.cons (SqT.upd h hl) (Sts.upd hl q)
theorem Sts.updD {l:Addr}{kvs:List (Key × V)}{o:HO}(hl:H l=some (.dK kvs)):∀{xs:List V} {st:List Stp},Sts K H xs st->Sts K (L2.upd H l o) xs st
 |_,_,.nil=>.nil
 |_,_,.cons h q=>.cons (SqT.updD h hl) (Sts.updD hl q)
end
inductive Sds (K:Frag) (H:Hp):List V->List (Stp × Nat)->Prop where
 |nil:Sds K H [] []
 |cons {t s:Addr} {n x:Nat} {w:Int} {xs:List V} {st:List (Stp × Nat)} (h:SqT K H t [.ref s,.int (x:Int)]) (g:SqT K H s [.int (n:Int),.int w]) (q:Sds K H xs st):Sds K H (.ref t :: xs) (((n,w),x) :: st)
section
variable {K:Frag} {H H':Hp}
theorem Sds.same (e:aV H H'):∀{xs:List V} {st:List (Stp × Nat)},Sds K H xs st->Sds K H' xs st
 |_,_,.nil=>.nil
 |_,_,.cons h g q=>.cons (e.seqT h) (e.seqT g) (Sds.same e q)
theorem Sds.length:∀{xs:List V} {st:List (Stp × Nat)},Sds K H xs st->xs.length=st.length
 |_,_,.nil=>rfl
 |_,_,.cons _ _ q=>by simp[Sds.length q]
theorem Sds.app:∀{xs ys:List V} {st su:List (Stp × Nat)},Sds K H xs st->Sds K H ys su->Sds K H (xs++ys) (st++su)
 |_,_,_,_,.nil,r=>r
 |_,_,_,_,.cons h g q,r=>.cons h g (Sds.app q r)
theorem Sds.get:∀{xs:List V} {st:List (Stp × Nat)} {i:Nat} {x:V},Sds K H xs st->xs[i]?=some x->∃t u s,x=.ref t/\st[i]?=some s/\SqT K H t [.ref u,.int (s.2:Int)]/\SqT K H u [.int (s.1.1:Int),.int s.1.2]
 |_,_,_,_,.nil,h=>by simp at h
 |_,_,0,_,.cons h g _,e=>by simp at e;subst e;exact⟨_,_,_,rfl,rfl,h,g⟩
 |_,_,i+1,_,.cons _ _ q,e=>by simpa using Sds.get q (by simpa using e)
theorem Sds.upd {l:Addr}{ys:List V}{o:HO}(hl:H l=some (.lst ys)):∀{xs:List V} {st:List (Stp × Nat)},Sds K H xs st->Sds K (L2.upd H l o) xs st
 |_,_,.nil=>.nil
 |_,_,.cons h g q=>.cons (SqT.upd h hl) (SqT.upd g hl) (Sds.upd hl q)
theorem Sds.updD {l:Addr}{kvs:List (Key × V)}{o:HO}(hl:H l=some (.dK kvs)):∀{xs:List V} {st:List (Stp × Nat)},Sds K H xs st->Sds K (L2.upd H l o) xs st
 |_,_,.nil=>.nil
 |_,_,.cons h g q=>.cons (SqT.updD h hl) (SqT.updD g hl) (Sds.updD hl q)
end
inductive Wys (K:Frag) (H0:Hp) (W:Addr) (H:Hp):List (Key × V)->WS->Prop where
 |nil:Wys K H0 W H [] []
 |cons {a:Addr} {x:Nat} {xs:List V} {st:List Stp} {kvs:List (Key × V)} {w:WS} (n:H0 a=none) (nw:a≠W) (h:H a=some (.lst xs)) (f:Sts K H xs st) (q:Wys K H0 W H kvs w):Wys K H0 W H ((Sum.inl (x:Int),.ref a) :: kvs) ((x,st) :: w)
section
variable {K:Frag} {H0 H H':Hp} {W:Addr}
theorem Wys.same (e:aV H H'):∀{kvs:List (Key × V)} {w:WS},Wys K H0 W H kvs w->Wys K H0 W H' kvs w
 |_,_,.nil=>.nil
 |_,_,.cons n nw h f q=>.cons n nw (e _ _ h) (f.same e) (Wys.same e q)
theorem Wys.updW {ys:List V}{o:HO}(hl:H W=some (.lst ys)):∀{kvs:List (Key × V)} {w:WS},Wys K H0 W H kvs w->Wys K H0 W (L2.upd H W o) kvs w
 |_,_,.nil=>.nil
 |_,_,.cons n nw h f q=>.cons n nw (by rw[aU nw];exact h) (f.upd hl) (Wys.updW hl q)
theorem Wys.updD {D:Addr}{kv:List (Key × V)}{o:HO}(hl:H D=some (.dK kv)):∀{kvs:List (Key × V)} {w:WS},Wys K H0 W H kvs w->Wys K H0 W (L2.upd H D o) kvs w
 |_,_,.nil=>.nil
 |_,_,.cons n nw h f q=>.cons n nw (by rw[aU (fM h hl (fun z=>by cases z))];exact h) (f.updD hl) (Wys.updD hl q)
theorem Wys.length:∀{kvs:List (Key × V)} {w:WS},Wys K H0 W H kvs w->kvs.length=w.length
 |_,_,.nil=>rfl
 |_,_,.cons _ _ _ _ q=>by simp[Wys.length q]
theorem Wys.snoc {a:Addr}{x:Nat}{xs:List V}{st:List Stp}(n:H0 a=none)(nw:a≠W)(h:H a=some (.lst xs))(f:Sts K H xs st):∀{kvs:List (Key × V)} {w:WS},Wys K H0 W H kvs w->Wys K H0 W H (kvs++[(Sum.inl (x:Int),.ref a)]) (w++[(x,st)])
 |_,_,.nil=>.cons n nw h f .nil
 |_,_,.cons n' nw' h' f' q=>.cons n' nw' h' f' (Wys.snoc n nw h f q)
theorem Wys.none_ {p:Nat}:∀{kvs:List (Key × V)} {w:WS},Wys K H0 W H kvs w->p∉cB w->pO kvs (Sum.inl (p:Int))=none/\(kvs.any fun kv=>decide (kv.1=Sum.inl (p:Int)))=false
 |_,_,.nil,_=>⟨rfl,rfl⟩
 |_,_,.cons (x:=x) (kvs:=kvs) (w:=w) n nw h f q,hp=>by
  have hx:x≠p:=fun z=>hp (by rw[<- z];exact mem_cons_self ..);obtain⟨h1,h2⟩:=Wys.none_ q fun z=>hp (mem_cons_of_mem _ z);refine⟨by rw[lV (fun z=>hx (Int.ofNat.inj (Sum.inl.inj z)))];exact h1,?_⟩;rw[any_cons,h2];have e:decide ((Sum.inl (x:Int):Key)=Sum.inl (p:Int))=false:=decide_eq_false fun z=>hx (Int.ofNat.inj (Sum.inl.inj z));show (decide ((Sum.inl (x:Int):Key)=Sum.inl (p:Int)) || false)=false;rw[e];rfl
theorem Wys.some_ {p:Nat}:∀{kvs:List (Key × V)} {w:WS},Wys K H0 W H kvs w->p∈cB w->∃a xs st,pO kvs (Sum.inl (p:Int))=some (.ref a)/\qQ w p=some st/\H0 a=none/\a≠W/\H a=some (.lst xs)/\Sts K H xs st
 |_,_,.nil,h=>by cases h
 |_,_,.cons (a:=a) (x:=x) (xs:=xs) (st:=st) (kvs:=kvs) (w:=w) n nw h f q,hp=>by
  by_cases c:x=p
  ·subst c;exact⟨a,xs,st,by rw[pI rfl],by unfold qQ;rw[if_pos rfl],n,nw,h,f⟩
  ·have hp':p∈cB w:=by
    rcases mem_cons.mp hp with z | z
    ·exact absurd z.symm c
    ·exact z
   obtain⟨a',xs',st',h1,h2,r⟩:=Wys.some_ q hp';exact⟨a',xs',st',by rw[lV (fun z=>c (Int.ofNat.inj (Sum.inl.inj z)))];exact h1,by unfold qQ;rw[if_neg c];exact h2,r⟩
theorem Wys.isSome {p:Nat}{kvs:List (Key × V)}{w:WS}(h:Wys K H0 W H kvs w):(pO kvs (Sum.inl (p:Int))).isSome=decide (p∈cB w):=by
 by_cases c:p∈cB w
 ·obtain⟨a,xs,st,e,_⟩:=h.some_ c;rw[e,decide_eq_true c];rfl
 ·rw[(h.none_ c).1,decide_eq_false c];rfl
end
structure Rgs (K:Frag) (H0 H:Hp) (us:List V) (X:List (List Stp)):Prop where
 l:us.length=X.length
 r:∀(i:Nat) (x:V) (st:List Stp),us[i]?=some x->X[i]?=some st->∃(a:Addr) (xs:List V),x=.ref a/\H0 a=none/\H a=some (.lst xs)/\Sts K H xs st
theorem Rgs.nil {K:Frag}{H0 H:Hp}:Rgs K H0 H [] []:=⟨rfl,fun i x st h=>by simp at h⟩
theorem Rgs.same {K:Frag}{H0 H H':Hp}{us:List V}{X:List (List Stp)}(e:aV H H')(f:Rgs K H0 H us X):Rgs K H0 H' us X:=⟨f.l,fun i x st h1 h2=>let ⟨a,xs,e1,n,h,s⟩:=f.r i x st h1 h2;⟨a,xs,e1,n,e _ _ h,s.same e⟩⟩
theorem Rgs.snoc {K:Frag}{H0 H:Hp}{us:List V}{X:List (List Stp)}{a:Addr}{xs:List V}{st:List Stp}(f:Rgs K H0 H us X)(n:H0 a=none)(h:H a=some (.lst xs))(s:Sts K H xs st):Rgs K H0 H (us++[.ref a]) (X++[st]):=by
 refine⟨by rw[List.length_append,List.length_append,f.l];rfl,fun i x qs h1 h2=>?_⟩;have l:=f.l
 by_cases c:i < us.length
 ·rw[getElem?_append_left c] at h1;rw[getElem?_append_left (by lia)] at h2;exact f.r i x qs h1 h2
 ·have hi:i=us.length:=by
   have:=(List.getElem?_eq_some_iff.mp h1).1;rw[List.length_append] at this;simp only[length_cons,length_nil] at this;lia
  subst hi;rw[getElem?_append_right (Nat.le_refl _),Nat.sub_self] at h1;rw[getElem?_append_right (by lia),show us.length - X.length=0 by lia] at h2
  cases h1
  cases h2
  exact⟨a,xs,rfl,n,h,s⟩
theorem Rgs.updO {K:Frag}{H0 H:Hp}{us:List V}{X:List (List Stp)}{l:Addr}{ys:List V}{o:HO}(f:Rgs K H0 H us X)(hl:H l=some (.lst ys))(n:∀x∈us,x≠.ref l):Rgs K H0 (upd H l o) us X:=⟨f.l,fun i x st h1 h2=>let ⟨a,xs,e1,n1,h,s⟩:=f.r i x st h1 h2;⟨a,xs,e1,n1,by rw[aU (fun z=>n x (mem_of_getElem? h1) (by rw[e1,z]))];exact h,s.upd hl⟩⟩
def Vb (ds:List RD)(es:List Br):Prop:=∀e∈es,∃d,ds[e.1]?=some d/\d.2.1=(e.2.1:Int)/\d.2.2.1=(e.2.2:Int)
def El (K:Frag)(CK:Kd->Addr):Sp:=fun vs H Q _=>∃(a b:Addr) (xs:List V) (ds:List RD) (es:List Br) (p:Nat),vs=[.ref a,.ref b,.int (p:Int)]/\SqL K H a xs/\gO CK K H xs ds/\SqL K H b (es.map fun e=>V.int (e.1:Int))/\Vb ds es/\es.length<=100/\∀l ys H',aV H H'->H l=none->H' l=some (.lst ys)->Sds K H' ys (stF es p)->Q (.ref l) H'
def Tx (K:Frag)(CK:Kd->Addr):Sp:=fun vs H Q _=>∃(a b:Addr) (xs:List V) (ds:List RD) (es:List Br) (m f t:Nat),vs=[.ref a,.ref b,.int (f:Int),.int (t:Int)]/\SqL K H a xs/\gO CK K H xs ds/\SqL K H b (es.map fun e=>V.int (e.1:Int))/\Vb ds es/\es.length<=100/\Ptm m es/\m<=20/\f < m/\
 (qW es f t=none->∀H',aV H H'->Q .non H')/\∀st,qW es f t=some st->∀l ys H',aV H H'->H l=none->H' l=some (.lst ys)->Sts K H' ys st->Q (.ref l) H'
inductive Wds (K:Frag) (H:Hp):V->(Kd->Bool)->Prop where
 |non:Wds K H .non (fun k=>decide (k≠.pu))
 |seq {a:Addr} {ws:List V} (h:SqL K H a ws) (f:ws.all nA=true):Wds K H (.ref a) (fun k=>inV (.str k.wd) ws)
def rK (CN:Addr)(K:Frag):Sp:=fun vs H Q _=>∃(n l:Addr) (v:V) (m:Nat) (ds:List RD) (W:Kd->Bool),vs=[.ref n,v]/\fC CN K H n l (m:Int) ds/\(∀d∈ds,cK (m:Int) d.2.1 d.2.2.1)/\m<=20/\ds.length<=40/\Wds K H v W/\∀r us H',aV H H'->H r=none->H' r=some (.lst us)->Rgs K H H' us ((cP W (skl ds) ds.length).2.map (·.2))->(∀x∈us,x≠.ref r)->Q (.ref r) H'
end L2
namespace Mq
def KJ (m:Nat)(A1:Mat)(R:List (List Int)):Prop:=∀Φ,Lin Φ->(∀i,i < m->Φ (A1 i)=0)->∀k,k < m->Φ (at2 R k)=0
theorem KJ.swap {m:Nat}{A1:Mat}{R:List (List Int)}(h:KJ m A1 R)(hl:R.length=m){p r:Nat}(hp:p < m)(hr:r < m):KJ m A1 (fE R p r):=fun Φ lin hz k hk=>by
 have e:at2 (fE R p r) k=at2 R (sw p r k):=by
  funext x
  rw[qC (by lia) (by lia)]
 rw[e];exact h Φ lin hz _ (yA hp hr hk)
theorem KJ.clear {m w:Nat}{A0 A1:Mat}{R:List (List Int)}{r col:Nat}{d sg:Int}(h:KJ m A1 R)(s:SI m w A0 R r col d sg)(hr:r < m)(hc:col < w)(he:ent R r col≠0):KJ m A1 (cG R r col d):=fun Φ lin hz k hk=>by
 have cl:=fun (x:Nat)=>rH s hr hc he hk x;have z:=h Φ lin hz
 by_cases e:k=r
 ·have e2:at2 (cG R r col d) k=at2 R k:=by funext x;rw[cl x,if_pos e]
  rw[e2];exact z k hk
 ·have e2:at2 (cG R r col d) k=fun x=>(fun x=>(at2 R r col / (d:Rat))*at2 R k x) x+(-(at2 R k col / (d:Rat)))*at2 R r x:=by
   funext x
   show _=(at2 R r col / (d:Rat))*at2 R k x+_;rw[cl x,if_neg e];grind
  rw[e2,lin,lin.mul,z k hk,z r hr];grind
theorem KJ.whole {m w:Nat}{A0 A1:Mat}{R:List (List Int)}{d sg:Int}(h:KJ m A1 R)(s:SI m w A0 R m m d sg){v:Nat->Rat}(hv:∀i,i < m->(rs m fun k=>A1 i k*v k)=A1 i m){k:Nat}(hk:k < m):at2 R k m / (d:Rat)=v k:=by
 obtain⟨A,c,B,e⟩:=s.bar;have dn:=B.dne;have:=h (fun f=>(rs m fun k=>f k*v k) - f m) (fun x y l=>by
  have:(rs m fun k=>(x k+l*y k)*v k)=(rs m fun k=>x k*v k+l*(y k*v k)):=aP fun k _=>by grind
  show (rs m fun k=>(x k+l*y k)*v k) - (x m+l*y m)=((rs m fun k=>x k*v k) - x m)+l*((rs m fun k=>y k*v k) - y m)
  rw[this,dQ,fF];grind) (fun i hi=>by
  show (rs m fun k=>A1 i k*v k) - A1 i m=0;rw[hv i hi];grind) k hk
 have e1:(rs m fun j=>at2 R k j*v j)=rs m fun j=>if j=k then (d:Rat)*v k else 0:=aP fun j hj=>by
  have i2:=B.i2 k j hk hj;rw[B.full rfl j hj] at i2;rw[i2]
  by_cases z:j=k
  ·rw[if_pos z,if_pos z,z]
  ·rw[if_neg z,if_neg z];grind
 have e2:(rs m fun j=>at2 R k j*v j) - at2 R k m=0:=this;rw[e1,mD m k _ hk] at e2;grind
end Mq
namespace Shp
open PySem L2
theorem Od {m w:Nat}{A0 A1:Mat}:Stp m w A0 (fun R=>Mq.KI m A1 R/\Mq.KJ m A1 R):=
 ⟨fun R r col d sg p s h1 h2 h=>⟨h.1.swap s.len h2 (by lia),h.2.swap s.len h2 (by lia)⟩,fun R r col d sg s h1 h2 h3 h=>⟨h.1.clear s h1 h2 h3,h.2.clear s h1 h2 h3⟩⟩
theorem Xk {X:List (List Q2)}{qs:List Q2}(hX:fK X)(hq:Mq.Pos qs)(hl:qs.length=X.length)(hw:∀row∈X,row.length=X.length){R:List (List Int)}{w:Nat}{d sg:Int}(h:Mq.KJ X.length (Mq.at2 (iG X qs)) R)(s:SI X.length w (Mq.at2 (iG X qs)) R X.length X.length d sg){v:Nat->Rat}(hv:∀i,i < X.length->(Mq.rs X.length fun j=>pX X i j*v j)=Mq.val (qs.getD i Mq.z0)){k:Nat}(hk:k < X.length):Mq.at2 R k X.length / (d:Rat)=v k:=by
 refine h.whole s (fun i hi=>?_) hk;rw[tZ hX hq hl hw hi (by lia),if_neg (by lia),<- hv i hi,<- fF];refine aP fun k hk=>?_;rw[tZ hX hq hl hw hi (by lia),if_pos hk];grind
structure Yf (X:List (List Q2)) (qs ps:List Q2):Prop extends Slv X qs ps where
 uni:∀v:Nat->Rat,(∀i,i < X.length->(Mq.rs X.length fun j=>pX X i j*v j)=Mq.val (qs.getD i Mq.z0))->∀j,j < X.length->Mq.val (ps.getD j Mq.z0)=v j
end Shp
namespace Mq
theorem Wb.rs5 {n K:Nat}{f:Nat->Rat}(hK:K<=32)(h:∀k,k < K->Wb n (f k)):Wb (n+5) (Mq.rs K f):=by
 obtain⟨z,e,b⟩:=Uf K h;refine⟨z,e,?_⟩;have p:2 ^ (n+5)=32*2 ^ n:=by rw[Nat.pow_add];lia
 have q:K*2 ^ n<=32*2 ^ n:=Nat.mul_le_mul_right _ hK;have r:0 < 2 ^ n:=Nat.two_pow_pos n;show z.natAbs < 2 ^ (n+5)
 by_cases k0:K=0
 ·subst k0;lia
 ·lia
theorem yG {n:Nat}:∀(r:Nat) (M:Mat),r<=32->(∀i j,i < r->Wb n (M i j))->Wb ((n+5)*r+1) (det r M)
 |0,_,_,_=>Wb.one
 |r+1,M,hr,h=>by
  rw[fU];have:=Wb.rs5 (n:=n+((n+5)*r+1)) (K:=r+1) (f:=fun j=>sgn (r+j)*M r j*det r fun i k=>M i (skip j k)) hr fun j _=>((h r j (by lia)).sgn _).mul (yG r _ (by lia) fun i k hi=>h i _ (by lia));exact this.mono (by rw[Nat.mul_succ];lia)
section
variable {m:Nat} {A E:Mat} {r col:Nat} {d:Rat} {c:Nat->Nat} {n:Nat}
theorem Bar.wd5 (h:Bar m A E r col d c)(hA:∀i x,i < m->Wb n (A i x))(hm:m<=31):Wb ((n+5)*r+1) d:=by
 have rm:=h.rm;rw[<- h.i5];exact yG r _ (by lia) fun i j hi=>hA i _ (by lia)
theorem Bar.wtop5 (h:Bar m A E r col d c)(hA:∀i x,i < m->Wb n (A i x))(hm:m<=31){k:Nat}(hk:k < r)(x:Nat):Wb ((n+5)*r+7) (E k x):=by
 have rm:=h.rm;have hd:=h.dne
 by_cases hx:∃j,j < r/\x=c j
 ·obtain⟨j,hj,rfl⟩:=hx;rw[h.i2 k j hk hj];split
  ·exact(h.wd5 hA hm).mono (by lia)
  ·exact Wb.zero _
 ·let c2:Nat->Nat:=fun j=>if j=r then x else c j
  let u:Nat->Rat:=fun j=>if j=c k then 1 else 0
  have hΦ:=Ev r A c2;have z:=h.i6 _ hΦ (fun s hs=>Gy r A c2 hs) k hk;have eu:u=fun y=>(fun y=>u y+(-(1 / d))*E k y) y+(1 / d)*E k y:=by
   funext y
   show u y=u y+(-(1 / d))*E k y+(1 / d)*E k y;grind
  have fb:=yL r A c2 (fun y=>u y+(-(1 / d))*E k y) fun j hj=>by
   have ec:c2 j=c j:=by show (if j=r then x else c j)=_;rw[if_neg (by lia)]
   rw[ec];show u (c j)+(-(1 / d))*E k (c j)=0;rw[h.i2 k j hk hj];show (if c j=c k then (1:Rat) else 0)+_=0
   by_cases e:j=k
   ·rw[if_pos e,if_pos (by rw[e])];grind
   ·rw[if_neg e,if_neg (fun q=>e (h.cinj j k hj hk q))];grind
  have dd:(det r fun i j=>A i (c2 j))=d:=by
   rw[<- h.i5];exact cJ fun i j _ hj=>by show A i (if j=r then x else c j)=_;rw[if_neg (by lia)]
  have ux:u x=0:=by show (if x=c k then (1:Rat) else 0)=0;rw[if_neg (fun q=>hx ⟨k,hk,q⟩)]
  have cx:c2 r=x:=by show (if r=r then x else _)=x;rw[if_pos rfl]
  rw[dd,cx] at fb;have val:F r A c2 u=- E k x:=by
   rw[eu,hΦ,z,fb];show (u x+(-(1 / d))*E k x)*d+_=_;rw[ux];grind
  have wh:Wb ((n+5)*r+7) (F r A c2 u):=by
   rw[Ja];have:=Wb.rs5 (n:=1+((n+5)*r+1)) (K:=r+1) (f:=fun j=>Mq.sgn (r+j)*u (c2 j)*det r fun i k=>A i (c2 (Mq.skip j k))) (by lia) fun j _=>by
    refine Wb.mul (Wb.sgn ?_ _) (yG r _ (by lia) fun i k hi=>hA i _ (by lia));show Wb 1 (if c2 j=c k then (1:Rat) else 0);split
    ·exact Wb.one
    ·exact Wb.zero _
   exact this.mono (by lia)
  rw[val] at wh;have:=wh.neg
  rwa [show - - E k x=E k x by grind] at this
theorem Bar.wall5 (h:Bar m A E r col d c)(hA:∀i x,i < m->Wb n (A i x))(hm:m<=31){i:Nat}(hi:i < m)(x:Nat):Wb ((n+5)*(m+1)+8) (E i x):=by
 have rm:=h.rm;have mono:=Nat.mul_le_mul_left (n+5) rm;have e1:(n+5)*(m+1)=(n+5)*m+(n+5):=Nat.mul_succ ..
 by_cases h1:i < r
 ·exact(h.wtop5 hA hm h1 x).mono (by lia)
 ·have q:=h.i4 i x hi;rw[if_neg h1] at q;have e:E i x=d*A i x - rs r fun k=>A i (c k)*E k x:=by grind
  rw[e];have b1:Wb (n+((n+5)*r+7)+5) (d*A i x):=((h.wd5 hA hm).mul (hA i x hi)).mono (by lia);have b2:Wb (n+((n+5)*r+7)+5) (rs r fun k=>A i (c k)*E k x):=Wb.rs5 (by lia) fun k hk=>(hA i _ hi).mul (h.wtop5 hA hm hk x);exact(b1.sub b2).mono (by lia)
end
theorem SB.bd5 {n m w:Nat}{A0:Mat}{R:List (List Int)}{r col:Nat}{d sg:Int}(h:SB n m R r col d)(s:SI m w A0 R r col d sg)(hm:m<=31):BdR ((n+5)*(m+1)+8) R/\B ((n+5)*(m+1)+8) d:=by
 obtain⟨A,c,B,q⟩:=h;refine⟨fun i x=>?_,?_⟩
 ·by_cases hi:i < m
  ·obtain⟨z,e,b⟩:=B.wall5 q hm hi x;have:ent R i x=z:=Rat.intCast_inj.mp e;rw[this];exact b
  ·unfold ent;rw[getD_eq_getElem?_getD (l:=R),getElem?_eq_none (by rw[s.len];lia)];exact Nat.two_pow_pos _
 ·obtain⟨z,e,b⟩:=B.wd5 q hm;have:d=z:=Rat.intCast_inj.mp e;have mono:=Nat.mul_le_mul_left (n+5) B.rm;rw[this];exact b.mono (by rw[Nat.mul_succ];lia)
theorem Mu {a b L:Int}(ha:1<=a)(hb:1<=b)(h1:a ∣ L)(h2:b ∣ L):nX a b ∣ L:=by
 have g1:gc a b ∣ a:=Int.gcd_dvd_left ..;have g0:gc a b≠0:=by have:=sU (a:=a) (b:=b) (by lia);lia
 obtain⟨x,hx⟩:=g1;have e:nX a b=x*b:=by
  unfold nX;rw[fR g0 hx]
 have k:(Int.lcm a b:Int) ∣ L:=Int.coe_lcm_dvd h1 h2;have m:(Int.gcd a b:Int)*(Int.lcm a b:Int)=a*b:=by
  have:=Int.gcd_mul_lcm a b;have h:((Int.gcd a b*Int.lcm a b:Nat):Int)=((a*b).natAbs:Nat):=by rw[this,Int.natAbs_mul]
  rw[Int.natCast_mul] at h;rw[h,Int.natAbs_of_nonneg (Int.mul_nonneg (by lia) (by lia))]
 have e2:(Int.lcm a b:Int)=x*b:=by
  have hg:(Int.gcd a b:Int)=gc a b:=rfl;rw[hg] at m;have:gc a b*(Int.lcm a b:Int)=gc a b*(x*b):=by
   rw[m,<- Int.mul_assoc,<- hx]
  exact Int.eq_of_mul_eq_mul_left g0 this
 rw[e,<- e2];exact k
theorem vY {L:Int}:∀{ps:List Q2},Pos ps->(∀p∈ps,p.2 ∣ L)->∀i,i<=ps.length->eK (ps.take i) ∣ L/\1<=eK (ps.take i)
 |ps,hp,h,0,_=>⟨Int.one_dvd _,by rw[take_zero];decide⟩
 |ps,hp,h,i+1,hi=>by
  obtain⟨a,b⟩:=vY hp h i (by lia);have hm:ps[i]?=some ps[i]:=getElem?_eq_getElem (by lia);have mem:=mem_of_getElem? hm;rw[mI hm];refine⟨Mu b (hp _ mem) a (h _ mem),?_⟩;have:=rC (ps:=ps.take (i+1)) (fun p hp'=>hp p (mem_of_mem_take hp'))
  rwa [mI hm] at this
end Mq
namespace Shp
open PySem L2
abbrev bw (n m:Nat):Nat:=(n+5)*(m+1)+8
def Gf (K:Frag):Sp:=fun vs H Q _=>∃(l D:Addr) (zs:List V) (R:List (List Int)) (m w n:Nat) (Pr:List (List Int)->Prop),vs=[.ref l,.int (m:Int)]/\SqL K H l zs/\Imx D H zs R/\R.length=m/\(∀i,i < m->(R.getD i []).length=w)/\m<=w/\w<=100/\BdR n R/\1<=n/\bw n m<=9000/\m<=31/\Pr R/\Stp m w (Mq.at2 R) Pr/\
 ∀d l' zs' R' rank pivot sign H',aV H H'->H d=none->H l'=none->H' d=some (Ot l' rank pivot sign)->H' l'=some (.lst zs')->Imx l' H' zs' R'->SI m w (Mq.at2 R) R' rank m pivot sign->BdR (bw n m) R'->Mq.B (bw n m) pivot->Pr R'->Q (.ref d) H'
end Shp
namespace L2
open PySem PySem.Spec PyProof.Rows
section
variable (u:Nat->Rat)
def fw (d:RD)(h:Nat):Rat:=match d.1 with
 | .pc=>(u d.2.1.toNat - u d.2.2.1.toNat)*(1 / Mq.val d.2.2.2)
 | .pu=>0
 | .ho=>u h
def nt:Nat->List RD->Nat->Rat
 |_,[],_=>0
 |h,d :: ds,p=>fw u d h*dl d.2.1.toNat d.2.2.1.toNat p+nt (h+bV d.1) ds p
def hw:Nat->List RD->Nat->Rat
 |_,[],_=>0
 |h,d :: ds,y=>(if d.1=.ho/\h=y then u d.2.1.toNat - u d.2.2.1.toNat else 0)+hw (h+bV d.1) ds y
def eg:Nat->List RD->Rat
 |_,[]=>0
 |h,d :: ds=>fw u d h*(u d.2.1.toNat - u d.2.2.1.toNat)+eg (h+bV d.1) ds
end
section
variable {u:Nat->Rat} {m N:Nat}
theorem Fd (F:Nat->Rat){n s g:Nat}(hs:s < n)(hg:g < n):Mq.rs n (fun p=>F p*dl s g p)=F s - F g:=by
 have e:∀p,F p*dl s g p=(if s=p then F p else 0) + - (if g=p then F p else 0):=fun p=>by
  unfold dl
  by_cases a:s=p<;>by_cases b:g=p<;>simp only[a,b,if_true,if_false]<;>grind
 rw[aP fun p _=>e p,dQ,mE,yS,yS,if_pos hs,if_pos hg];grind
theorem Xo {n s g:Nat}(u0:u 0=0)(hs:s<=n)(hg:g<=n):Mq.rs n (fun i=>u (i+1)*dl s g (i+1))=u s - u g:=by
 have:=Fd u (n:=n+1) (s:=s) (g:=g) (by lia) (by lia);rw[oR,u0] at this;grind
theorem qa3 (u0:u 0=0){d:RD}{h y:Nat}(pt:cK (m:Int) d.2.1 d.2.2.1)(hm:m<=N+1)(h1:1<=h)(hh:d.1=.ho->h<=N):Mq.rs N (fun i=>u (i+1)*cM d h (i+1) y)=fw u d h*dl d.2.1.toNat d.2.2.1.toNat y+(if d.1=.ho/\h=y then u d.2.1.toNat - u d.2.2.1.toNat else 0):=by
 obtain⟨a,b,c,e⟩:=pt;have base:=Xo (u:=u) (n:=N) (s:=d.2.1.toNat) (g:=d.2.2.1.toNat) u0 (by lia) (by lia);unfold cM fw
 cases hk:d.1 with
 |pc=>
  dsimp only;rw[if_neg (fun z=>by cases z.1)];have:∀i,u (i+1)*(dl d.2.1.toNat d.2.2.1.toNat (i+1)*dl d.2.1.toNat d.2.2.1.toNat y*(1 / Mq.val d.2.2.2))=(dl d.2.1.toNat d.2.2.1.toNat y*(1 / Mq.val d.2.2.2))*(u (i+1)*dl d.2.1.toNat d.2.2.1.toNat (i+1)):=fun i=>by grind
  rw[aP fun i _=>this i,fF,base];grind
 |pu=>
  dsimp only;rw[if_neg (fun z=>by cases z.1)];have:∀i,u (i+1)*(0:Rat)=0:=fun i=>by grind
  rw[aP fun i _=>this i,dC];grind
 |ho=>
  dsimp only;have hN:=hh hk;have one:Mq.rs N (fun i=>u (i+1)*(if h=i+1 then 1 else 0))=u h:=by
   have:∀i,u (i+1)*(if h=i+1 then (1:Rat) else 0)=if h - 1=i then u (i+1) else 0:=fun i=>by
    by_cases z:h=i+1
    ·rw[if_pos z,if_pos (by lia)];grind
    ·rw[if_neg z,if_neg (by lia)];grind
   rw[aP fun i _=>this i,yS,if_pos (by lia),show h - 1+1=h by lia]
  have:∀i,u (i+1)*(dl d.2.1.toNat d.2.2.1.toNat (i+1)*(if h=y then 1 else 0)+(if h=i+1 then 1 else 0)*dl d.2.1.toNat d.2.2.1.toNat y)=(if h=y then 1 else 0)*(u (i+1)*dl d.2.1.toNat d.2.2.1.toNat (i+1))+dl d.2.1.toNat d.2.2.1.toNat y*(u (i+1)*(if h=i+1 then 1 else 0)):=fun i=>by grind
  rw[aP fun i _=>this i,dQ,fF,fF,base,one]
  by_cases z:h=y
  ·rw[if_pos z,if_pos ⟨rfl,z⟩];grind
  ·rw[if_neg z,if_neg (fun q=>z q.2)];grind
theorem Bw (u0:u 0=0)(hm:m<=N+1)(y:Nat):∀(ds:List RD) (h:Nat),(∀d∈ds,cK (m:Int) d.2.1 d.2.2.1)->1<=h->h+bL ds<=N+1->Mq.rs N (fun i=>u (i+1)*eqM h ds (i+1) y)=nt u h ds y+hw u h ds y
 | [],h,_,_,_=>by
  have:∀i,u (i+1)*eqM h [] (i+1) y=0:=fun i=>by show u (i+1)*(0:Rat)=0;grind
  rw[aP fun i _=>this i,dC];show (0:Rat)=0+0;grind
 |d :: ds,h,pt,h1,hN=>by
  rw[dF] at hN;have ih:=Bw u0 hm y ds (h+bV d.1) (fun e he=>pt e (mem_cons_of_mem _ he)) (by lia) (by lia);have c:=qa3 (u:=u) (N:=N) (h:=h) (y:=y) u0 (pt d (by simp)) hm h1 (fun z=>by rw[z] at hN;have:bV .ho=1:=rfl;lia);have:∀i,u (i+1)*eqM h (d :: ds) (i+1) y=u (i+1)*cM d h (i+1) y+u (i+1)*eqM (h+bV d.1) ds (i+1) y:=fun i=>by
   show u (i+1)*(cM d h (i+1) y+eqM (h+bV d.1) ds (i+1) y)=_;grind
  rw[aP fun i _=>this i,dQ,ih,c];show _=(fw u d h*dl d.2.1.toNat d.2.2.1.toNat y+nt u (h+bV d.1) ds y)+((if d.1=.ho/\h=y then u d.2.1.toNat - u d.2.2.1.toNat else 0)+hw u (h+bV d.1) ds y)
  grind
theorem Gm {y:Nat}:∀(ds:List RD) (h:Nat),y < h->hw u h ds y=0
 | [],_,_=>rfl
 |d :: ds,h,hy=>by
  show (if d.1=.ho/\h=y then u d.2.1.toNat - u d.2.2.1.toNat else 0)+hw u (h+bV d.1) ds y=0;rw[if_neg (fun z=>by lia),Gm ds (h+bV d.1) (by lia)];grind
theorem Dy {y:Nat}:∀(ds:List RD) (h:Nat),(∀d∈ds,cK (m:Int) d.2.1 d.2.2.1)->m<=y->nt u h ds y=0
 | [],_,_,_=>rfl
 |d :: ds,h,pt,hy=>by
  obtain⟨a,b,c,e⟩:=pt d (by simp);show fw u d h*dl d.2.1.toNat d.2.2.1.toNat y+nt u (h+bV d.1) ds y=0;rw[Dy ds (h+bV d.1) (fun e he=>pt e (mem_cons_of_mem _ he)) hy];unfold dl;rw[if_neg (by lia),if_neg (by lia)];grind
theorem Cm:∀(ds:List RD) (h:Nat),(∀y,h<=y->y < h+bL ds->hw u h ds y=0)->∀d∈ds,d.1=.ho->u d.2.1.toNat=u d.2.2.1.toNat
 | [],_,_,_,hd,_=>by cases hd
 |e :: ds,h,all,d,hd,hk=>by
  by_cases he:e.1=.ho
  ·have c1:bV e.1=1:=by rw[he];rfl
   have first:=all h (Nat.le_refl _) (by rw[dF];lia)
   have f1:(if e.1=.ho/\h=h then u e.2.1.toNat - u e.2.2.1.toNat else 0)+hw u (h+bV e.1) ds h=0:=first
   rw[if_pos ⟨he,rfl⟩,Gm ds (h+bV e.1) (by lia)] at f1;rcases mem_cons.mp hd with rfl | hd
   ·grind
   ·refine Cm ds (h+bV e.1) (fun y hy hl=>?_) d hd hk;have:=all y (by lia) (by rw[dF];lia);have f2:(if e.1=.ho/\h=y then u e.2.1.toNat - u e.2.2.1.toNat else 0)+hw u (h+bV e.1) ds y=0:=this;rw[if_neg (fun z=>by lia)] at f2;grind
  ·have c0:bV e.1=0:=if_neg he;rcases mem_cons.mp hd with rfl | hd
   ·exact absurd hk he
   ·refine Cm ds (h+bV e.1) (fun y hy hl=>?_) d hd hk;have:=all y (by lia) (by rw[dF];lia);have f2:(if e.1=.ho/\h=y then u e.2.1.toNat - u e.2.2.1.toNat else 0)+hw u (h+bV e.1) ds y=0:=this;rw[if_neg (fun z=>he z.1)] at f2;grind
theorem Ur:∀(ds:List RD) (h:Nat),(∀d∈ds,cK (m:Int) d.2.1 d.2.2.1)->Mq.rs m (fun p=>u p*nt u h ds p)=eg u h ds
 | [],h,_=>by
  have:∀p,u p*nt u h [] p=0:=fun p=>by show u p*(0:Rat)=0;grind
  rw[aP fun p _=>this p,dC];rfl
 |d :: ds,h,pt=>by
  have ih:=Ur ds (h+bV d.1) (fun e he=>pt e (mem_cons_of_mem _ he));obtain⟨a,b,c,e⟩:=pt d (by simp);have base:=Fd u (n:=m) (s:=d.2.1.toNat) (g:=d.2.2.1.toNat) (by lia) (by lia);have:∀p,u p*nt u h (d :: ds) p=fw u d h*(u p*dl d.2.1.toNat d.2.2.1.toNat p)+u p*nt u (h+bV d.1) ds p:=fun p=>by
   show u p*(fw u d h*dl d.2.1.toNat d.2.2.1.toNat p+nt u (h+bV d.1) ds p)=_;grind
  rw[aP fun p _=>this p,dQ,fF,base,ih];rfl
theorem qa2 (x:Rat):0<=x*x:=by
 rcases Rat.le_total (a:=0) (b:=x) with h | h
 ·exact Rat.mul_nonneg h h
 ·have:0<=(-x)*(-x):=Rat.mul_nonneg (by grind) (by grind);grind
theorem On {a:Rat}(h:0 < a):0 < 1 / a:=by
 rw[Rat.div_def,Rat.one_mul];exact Rat.inv_pos.mpr h
theorem Us:∀(ds:List RD) (h:Nat),(∀d∈ds,d.1=.pc->0 < Mq.val d.2.2.2)->(∀d∈ds,d.1=.ho->u d.2.1.toNat=u d.2.2.1.toNat)->0<=eg u h ds/\(eg u h ds=0->∀d∈ds,d.1=.pc->u d.2.1.toNat=u d.2.2.1.toNat)
 | [],_,_,_=>⟨Rat.le_refl,fun _ d hd=>by cases hd⟩
 |e :: ds,h,pos,ho=>by
  obtain⟨i1,i2⟩:=Us ds (h+bV e.1) (fun d hd=>pos d (mem_cons_of_mem _ hd)) (fun d hd=>ho d (mem_cons_of_mem _ hd));have eq:eg u h (e :: ds)=fw u e h*(u e.2.1.toNat - u e.2.2.1.toNat)+eg u (h+bV e.1) ds:=rfl;rw[eq];generalize eg u (h+bV e.1) ds=r at i1 i2;have t:0<=fw u e h*(u e.2.1.toNat - u e.2.2.1.toNat)/\(e.1=.pc->fw u e h*(u e.2.1.toNat - u e.2.2.1.toNat)=0->u e.2.1.toNat=u e.2.2.1.toNat):=by
   unfold fw
   cases hk:e.1 with
   |pu=>exact⟨by grind,fun z=>by cases z⟩
   |ho=>exact⟨by rw[ho e (by simp) hk];grind,fun z=>by cases z⟩
   |pc=>
    dsimp only;have p:=On (pos e (by simp) hk);generalize 1 / Mq.val e.2.2.2=q at p;generalize u e.2.1.toNat=a;generalize u e.2.2.1.toNat=b;have e2:(a - b)*q*(a - b)=q*((a - b)*(a - b)):=by grind
    rw[e2];refine⟨Rat.mul_nonneg (Rat.le_of_lt p) (qa2 _),fun _ z=>?_⟩;have q0:q≠0:=fun z=>by rw[z] at p;exact absurd p (by decide)
    have:(a - b)*(a - b)=0:=by grind
    have:a - b=0:=by grind
    grind
  obtain⟨t1,t2⟩:=t;generalize fw u e h*(u e.2.1.toNat - u e.2.2.1.toNat)=x at t1 t2;refine⟨by grind,fun z d hd hk=>?_⟩;have x0:x=0:=by grind
  have r0:r=0:=by grind
  rcases mem_cons.mp hd with rfl | hd
  ·exact t2 hk x0
  ·exact i2 r0 d hd hk
theorem yJ (d:RD)(p:Nat):∀(ds:List RD) (h:Nat),nt u h (ds++[d]) p=nt u h ds p+fw u d (h+bL ds)*dl d.2.1.toNat d.2.2.1.toNat p
 | [],h=>by show fw u d h*_+0=0+fw u d (h+0)*_;rw[Nat.add_zero];grind
 |e :: ds,h=>by
  show fw u e h*_+nt u (h+bV e.1) (ds++[d]) p=fw u e h*_+nt u (h+bV e.1) ds p+_;rw[yJ d p ds,dF,Nat.add_assoc];grind
theorem Cb (F:Nat->Rat):∀(ds:List RD) (h:Nat),(∀d∈ds,cK (m:Int) d.2.1 d.2.2.1)->(∀d∈ds,d.1=.pc->u d.2.1.toNat=u d.2.2.1.toNat)->(∀d∈ds,d.1=.ho->F d.2.1.toNat=F d.2.2.1.toNat)->Mq.rs m (fun p=>F p*nt u h ds p)=0
 | [],h,_,_,_=>by
  have:∀p,F p*nt u h [] p=0:=fun p=>by show F p*(0:Rat)=0;grind
  rw[aP fun p _=>this p,dC]
 |d :: ds,h,pt,hu,hF=>by
  have ih:=Cb F ds (h+bV d.1) (fun e he=>pt e (mem_cons_of_mem _ he)) (fun e he=>hu e (mem_cons_of_mem _ he)) (fun e he=>hF e (mem_cons_of_mem _ he));obtain⟨a,b,c,e⟩:=pt d (by simp);have base:=Fd F (n:=m) (s:=d.2.1.toNat) (g:=d.2.2.1.toNat) (by lia) (by lia);have:∀p,F p*nt u h (d :: ds) p=fw u d h*(F p*dl d.2.1.toNat d.2.2.1.toNat p)+F p*nt u (h+bV d.1) ds p:=fun p=>by
   show F p*(fw u d h*dl d.2.1.toNat d.2.2.1.toNat p+nt u (h+bV d.1) ds p)=_;grind
  rw[aP fun p _=>this p,dQ,fF,base,ih]
  cases hk:d.1 with
  |pu=>
   have:fw u d h=0:=by unfold fw;rw[hk]
   rw[this];grind
  |pc=>
   have:fw u d h=0:=by unfold fw;rw[hk];dsimp only;rw[hu d (by simp) hk];grind
   rw[this];grind
  |ho=>rw[hF d (by simp) hk];grind
def Frs (ds:List RD):Prop:=∀(A B:List RD) (d:RD),ds=A++d :: B->d.1=.ho->¬Cn (iP .ho A) d.2.1.toNat d.2.2.1.toNat
theorem Gk:∀(n:Nat) (ds:List RD) (h:Nat),ds.length=n->(∀d∈ds,cK (m:Int) d.2.1 d.2.2.1)->Frs ds->(∀d∈ds,d.1=.pc->u d.2.1.toNat=u d.2.2.1.toNat)->(∀p,p < m->nt u h ds p=0)->∀y,h<=y->y < h+bL ds->u y=0
 |0,ds,h,hl,_,_,_,_,y,h1,h2=>by
  have:ds=[]:=length_eq_zero_iff.mp hl;subst this;have:bL ([]:List RD)=0:=rfl;lia
 |n+1,ds,h,hl,pt,fr,hu,ze,y,h1,h2=>by
  obtain⟨es,d,rfl⟩:∃es d,ds=es++[d]:=⟨ds.dropLast,ds.getLast (by intro z;rw[z] at hl;cases hl),(dropLast_concat_getLast _).symm⟩
  have le:es.length=n:=by rw[List.length_append] at hl;simpa using hl
  have pe:∀x∈es,cK (m:Int) x.2.1 x.2.2.1:=fun x hx=>pt x (mem_append_left _ hx);have ue:∀x∈es,x.1=.pc->u x.2.1.toNat=u x.2.2.1.toNat:=fun x hx=>hu x (mem_append_left _ hx);have fe:Frs es:=fun A B x e hx=>fr A (B++[d]) x (by rw[e];simp) hx;obtain⟨i0,i1,j0,j1⟩:=pt d (by simp);have f0:fw u d (h+bL es)=0:=by
   cases hk:d.1 with
   |pu=>unfold fw;rw[hk]
   |pc=>unfold fw;rw[hk];dsimp only;rw[hu d (by simp) hk];grind
   |ho=>
    open Classical in
    have nc:=fr es [] d rfl hk
    let F:Nat->Rat:=fun p=>if Cn (iP .ho es) d.2.1.toNat p then 1 else 0
    have s1:=Cb (u:=u) (m:=m) F es h pe ue (fun x hx hk'=>by
     show (if Cn (iP .ho es) d.2.1.toNat x.2.1.toNat then (1:Rat) else 0)=if Cn (iP .ho es) d.2.1.toNat x.2.2.1.toNat then 1 else 0
     have r:Cn (iP .ho es) x.2.1.toNat x.2.2.1.toNat:=.row (mem_filter.mpr ⟨hx,decide_eq_true hk'⟩) (by rw[hk'];exact fun z=>by cases z)
     by_cases c:Cn (iP .ho es) d.2.1.toNat x.2.1.toNat
     ·rw[if_pos c,if_pos (c.trans r)]
     ·rw[if_neg c,if_neg (fun z=>c (z.trans r.symm))])
    have s2:Mq.rs m (fun p=>F p*nt u h (es++[d]) p)=0:=by
     have:∀p,p < m->F p*nt u h (es++[d]) p=0:=fun p hp=>by rw[ze p hp];grind
     rw[aP this,dC]
    have e3:∀p,F p*nt u h (es++[d]) p=F p*nt u h es p+fw u d (h+bL es)*(F p*dl d.2.1.toNat d.2.2.1.toNat p):=fun p=>by rw[yJ];grind
    rw[aP fun p _=>e3 p,dQ,s1,fF,Fd F (by lia) (by lia)] at s2;have Fs:F d.2.1.toNat=1:=if_pos (.refl _);have Fg:F d.2.2.1.toNat=0:=if_neg nc;rw[Fs,Fg] at s2;grind
  have ze':∀p,p < m->nt u h es p=0:=fun p hp=>by
   have:=ze p hp;rw[yJ,f0] at this;grind
  rw[hG] at h2
  by_cases c:y < h+bL es
  ·exact Gk n es h le pe fe ue ze' y h1 c
  ·have hk:d.1=.ho:=Classical.byContradiction fun z=>by
    have:bV d.1=0:=if_neg z;lia
   have c1:bV d.1=1:=by rw[hk];rfl
   have:y=h+bL es:=by lia
   rw[this];unfold fw at f0;rw[hk] at f0;exact f0
theorem Gi {ds:List RD}(hm1:1<=m)(pt:∀d∈ds,cK (m:Int) d.2.1 d.2.2.1)(pos:∀d∈ds,d.1=.pc->0 < Mq.val d.2.2.2)(cn:∀p,p < m->Cn ds 0 p)(fr:Frs ds)(u0:u 0=0)(ze:∀y,1<=y->y<=m - 1+bL ds->Mq.rs (m - 1+bL ds) (fun i=>u (i+1)*eqM m ds (i+1) y)=0):∀y,y<=m - 1+bL ds->u y=0:=by
 have ze2:∀y,1<=y->y<=m - 1+bL ds->nt u m ds y+hw u m ds y=0:=fun y a b=>by
  have:=ze y a b;rw[Bw (m:=m) u0 (by lia) y ds m pt hm1 (by lia)] at this;exact this
 have hf:=Cm (u:=u) ds m (fun y a b=>by
  have:=ze2 y (by lia) (by lia);rw[Dy ds m pt a] at this;grind)
 have np:∀p,1<=p->p < m->nt u m ds p=0:=fun p a b=>by
  have:=ze2 p a (by lia);rw[Gm ds m b] at this;grind
 have e0:eg u m ds=0:=by
  rw[<- Ur (u:=u) (m:=m) ds m pt];have:∀p,p < m->u p*nt u m ds p=0:=fun p hp=>by
   by_cases c:p=0
   ·rw[c,u0];grind
   ·rw[np p (by lia) hp];grind
  rw[aP this,dC]
 have pf:=(Us (u:=u) ds m pos hf).2 e0;have cz:∀p,p < m->u p=0:=fun p hp=>by
  have:=Cn.ind (R:=fun a b=>u a=u b) (fun _=>rfl) (fun _ _ e=>e.symm) (fun _ _ _ a b=>a.trans b) (fun d hd hk=>by
   cases h:d.1 with
   |pc=>exact pf d hd h
   |pu=>exact absurd h hk
   |ho=>exact hf d hd h) (cn p hp)
  rw[<- this,u0]
 have all:∀p,p < m->nt u m ds p=0:=fun p hp=>by
  by_cases c:p=0
  ·have s:=Cb (u:=u) (m:=m) (fun _=>1) ds m pt pf (fun _ _ _=>rfl);obtain⟨k,rfl⟩:∃k,m=k+1:=⟨m - 1,by lia⟩
   rw[oR] at s;have:∀i,i < k->(1:Rat)*nt u (k+1) ds (i+1)=0:=fun i hi=>by rw[np (i+1) (by lia) (by lia)];grind
   rw[aP this,dC] at s;rw[c];grind
  ·exact np p (by lia) hp
 have hz:=Gk (u:=u) (m:=m) _ ds m rfl pt fr pf all;intro y hy
 by_cases c:y < m
 ·exact cz y c
 ·exact hz y (by lia) (by lia)
end
open Shp
section
variable {m N:Nat} {ds:List RD}
theorem Qc (d:RD)(h x y:Nat):cM d h x y=cM d h y x:=by
 unfold cM
 cases d.1<;>dsimp only<;>grind
theorem rT:∀(ds:List RD) (h x y:Nat),eqM h ds x y=eqM h ds y x
 | [],_,_,_=>rfl
 |d :: ds,h,x,y=>by
  show cM d h x y+eqM (h+bV d.1) ds x y=cM d h y x+eqM (h+bV d.1) ds y x;rw[Qc,rT ds]
structure Nof (m:Nat) (ds:List RD):Prop where
 m1:1<=m
 pt:∀d∈ds,cK (m:Int) d.2.1 d.2.2.1
 pos:∀d∈ds,d.1=.pc->0 < Mq.val d.2.2.2
 cn:∀p,p < m->Cn ds 0 p
 fr:Frs ds
theorem Nof.uni (o:Nof m ds){v w:Nat->Rat}{r:Nat->Rat}(hv:∀i,i < m - 1+bL ds->(Mq.rs (m - 1+bL ds) fun j=>eqM m ds (i+1) (j+1)*v j)=r i)(hw:∀i,i < m - 1+bL ds->(Mq.rs (m - 1+bL ds) fun j=>eqM m ds (i+1) (j+1)*w j)=r i):∀j,j < m - 1+bL ds->v j=w j:=by
 have:=Gi (u:=fun x=>if x=0 then 0 else v (x - 1) - w (x - 1)) o.m1 o.pt o.pos o.cn o.fr (if_pos rfl) (fun y y1 yn=>by
  have e:∀i,i < m - 1+bL ds->(if i+1=0 then (0:Rat) else v (i+1 - 1) - w (i+1 - 1))*eqM m ds (i+1) y=eqM m ds (y - 1+1) (i+1)*v i + - (eqM m ds (y - 1+1) (i+1)*w i):=fun i _=>by
   rw[if_neg (by lia),Nat.add_sub_cancel,rT ds m (i+1) y,show y - 1+1=y by lia];grind
  rw[aP e,dQ,mE,hv (y - 1) (by lia),hw (y - 1) (by lia)];grind)
 intro j hj;have:=this (j+1) (by lia);rw[if_neg (by lia),Nat.add_sub_cancel] at this;grind
theorem Vo {X:List (List Q2)}{Y:List Q2}(e:Aj m ds N X Y):X.length=m - 1+bL ds:=e.x.h
theorem Ju {X:List (List Q2)}{Y:List Q2}(e:Aj m ds N X Y)(i j:Nat):pX X i j=eqM m ds (i+1) (j+1):=e.vx i j
end
end L2
namespace Shp
open PySem L2
theorem Fo {m w:Nat}{R0:List (List Int)}(hl:R0.length=m)(hw:∀i,i < m->(R0.getD i []).length=w)(hmw:m<=w){Pr:List (List Int)->Prop}(h0:Pr R0)(st:Stp m w (Mq.at2 R0) Pr):∀col,col<=m->∃R r d sg,SI m w (Mq.at2 R0) R r col d sg/\Pr R
 |0,_=>⟨R0,0,1,1,.start hl hw,h0⟩
 |col+1,hc=>by
  obtain⟨R,r,d,sg,S,p⟩:=Fo hl hw hmw h0 st col (by lia)
  by_cases hz:∀i,r<=i->i < m->ent R i col=0
  ·exact⟨R,r,d,sg,S.skip hz,p⟩
  ·obtain⟨i,hi⟩:=Classical.not_forall.mp hz;obtain⟨h1,hi⟩:=Classical.not_imp.mp hi;obtain⟨h2,ne⟩:=Classical.not_imp.mp hi
   by_cases e:i=r
   ·subst e;exact⟨_,_,_,_,S.clear h2 (by lia) ne,st.cl R i col d sg S h2 (by lia) ne p⟩
   ·have hlt:r < i:=by lia
    have S2:=S.swap hlt h2;have p2:=st.sw R r col d sg i S hlt h2 p;have ne2:ent (fE R i r) r col≠0:=by
     have:=xJ (R:=R) (p:=i) (r:=r) (by rw[S.len];lia) (by rw[S.len];lia) r;unfold ent at ne ⊢;rw[this,show Mq.sw i r r=i by unfold Mq.sw;simp];exact ne
    exact⟨_,_,_,_,S2.clear (by lia) (by lia) ne2,st.cl _ r col d (-sg) S2 (by lia) (by lia) ne2 p2⟩
theorem Qp {X:List (List Q2)}(xP:fK X)(hw:∀row∈X,row.length=X.length)(m1:1<=X.length)(hz:wgt X=0):∃v:Nat->Rat,(∃j,j < X.length/\v j≠0)/\∀x,x < X.length->(Mq.rs X.length fun j=>v j*pX X j x)=0:=by
 obtain⟨R,r,d,sg,S,L⟩:=Fo (m:=X.length) (w:=X.length+X.length) (R0:=jS X) (Ov X) (fun i hi=>by rw[tV hi,Aw,hw _ (mem_of_getElem? (uU hi))]) (by lia) (Qu xP hw) Vy X.length (Nat.le_refl _);have wr:=Kl xP (Ti fun i j hi hj=>vV xP hw hi hj) S;have hr:r < X.length:=by
  rcases wr with z | z
  ·exact z.1
  ·exact absurd hz z.2
 obtain⟨⟨k0,hk0,nk0⟩,hsum⟩:=L.lame S hr;refine⟨fun k=>Mq.at2 R (X.length - 1) (X.length+k),⟨k0,hk0,fun z=>?_⟩,hsum⟩;exact nk0 (Rat.intCast_inj.mp (by unfold Mq.at2 at z;simpa using z))
end Shp
namespace L2
open Shp
theorem Nof.wgt_ne {m N:Nat}{ds:List RD}(o:Nof m ds){X:List (List Q2)}{Y:List Q2}(e:Aj m ds N X Y)(xP:fK X)(hw:∀row∈X,row.length=X.length)(m1:1<=X.length):wgt X≠0:=fun hz=>by
 obtain⟨v,⟨j,hj,vj⟩,hs⟩:=Qp xP hw m1 hz;have n:=Vo e;have z:=Gi (u:=fun x=>if x=0 then 0 else v (x - 1)) o.m1 o.pt o.pos o.cn o.fr (if_pos rfl) (fun y y1 yn=>by
  have s:=hs (y - 1) (by lia);rw[n] at s;rw[<- s];refine aP fun i _=>?_;rw[if_neg (by lia),Nat.add_sub_cancel,Ju e,show y - 1+1=y by lia])
 have:=z (j+1) (by lia);rw[if_neg (by lia),Nat.add_sub_cancel] at this;exact vj this
end L2
namespace Mq
theorem Kb {p:Q2}(l:Low p){a L:Int}(hL:1<=L)(h:val p=(a:Rat) / (L:Rat)):p.2 ∣ L/\p.1.natAbs<=a.natAbs:=by
 have h2:((p.2:Int):Rat)≠0:=by have:=l.pos;exact_mod_cast (show p.2≠0 by lia)
 have hl:((L:Int):Rat)≠0:=by exact_mod_cast (show L≠0 by lia)
 have e:p.1*L=a*p.2:=by
  unfold val at h;have:((p.1:Int):Rat)*(L:Rat)=(a:Rat)*((p.2:Int):Rat):=by grind
  exact_mod_cast this
 have d:p.2 ∣ L:=by
  have c:Int.gcd p.2 p.1=1:=by
   have:=l.one;unfold gc at this;rw[Int.gcd_comm];exact_mod_cast this
  have c':Nat.Coprime p.2.natAbs p.1.natAbs:=c;have dv:p.2.natAbs ∣ p.1.natAbs*L.natAbs:=by
   rw[<- Int.natAbs_mul,e,Int.natAbs_mul];exact Nat.dvd_mul_left ..
  exact Int.natAbs_dvd_natAbs.mp (c'.dvd_of_dvd_mul_left dv)
 obtain⟨t,ht⟩:=d;have t1:t≠0:=fun z=>by rw[z,Int.mul_zero] at ht;lia
 have e2:p.1*t=a:=by
  have:p.2*(p.1*t)=p.2*a:=by
   rw[Int.mul_comm p.2 a,<- e,ht,<- Int.mul_assoc,<- Int.mul_assoc,Int.mul_comm p.2 p.1]
  exact Int.eq_of_mul_eq_mul_left (by have:=l.pos;lia) this
 refine⟨⟨t,ht⟩,?_⟩;rw[<- e2,Int.natAbs_mul];exact Nat.le_mul_of_pos_right _ (by lia)
def Fr (L:Int)(M:Nat)(x:Rat):Prop:=∃a:Int,x=(a:Rat) / (L:Rat)/\a.natAbs<=M*L.natAbs
section
variable {L K:Int} {M N:Nat} {x y:Rat}
theorem qU (h:1<=L):((L:Int):Rat)≠0:=by exact_mod_cast (show L≠0 by lia)
theorem Fr.mono (h:Fr L M x)(l:M<=N):Fr L N x:=by
 obtain⟨a,e,b⟩:=h;exact⟨a,e,Nat.le_trans b (Nat.mul_le_mul_right _ l)⟩
theorem Fr.zero:Fr L 0 0:=⟨0,by rw[show ((0:Int):Rat)=0 by rfl,Rat.div_def];grind,by simp⟩
theorem Fr.one (h:1<=L):Fr L 1 1:=⟨L,by have:=qU h;grind,by lia⟩
theorem Fr.add (h:Fr L M x)(g:Fr L N y):Fr L (M+N) (x+y):=by
 obtain⟨a,ea,ba⟩:=h;obtain⟨b,eb,bb⟩:=g;refine⟨a+b,?_,?_⟩
 ·rw[ea,eb,Rat.intCast_add,Rat.div_def,Rat.div_def,Rat.div_def];grind
 ·rw[Nat.add_mul];have:=Int.natAbs_add_le a b;lia
theorem Fr.neg (h:Fr L M x):Fr L M (-x):=by
 obtain⟨a,ea,ba⟩:=h;refine⟨-a,?_,by rw[Int.natAbs_neg];exact ba⟩;rw[ea,Rat.intCast_neg,Rat.div_def,Rat.div_def];grind
theorem Fr.mul (hL:1<=L)(hK:1<=K)(h:Fr L M x)(g:Fr K N y):Fr (L*K) (M*N) (x*y):=by
 obtain⟨a,ea,ba⟩:=h;obtain⟨b,eb,bb⟩:=g;refine⟨a*b,?_,?_⟩
 ·have:=qU hL;have:=qU hK;rw[ea,eb,Rat.intCast_mul,Rat.intCast_mul];grind
 ·rw[Int.natAbs_mul,Int.natAbs_mul];have:=Nat.mul_le_mul ba bb;rw[show M*N*(L.natAbs*K.natAbs)=M*L.natAbs*(N*K.natAbs) by rw[Nat.mul_assoc,Nat.mul_assoc,Nat.mul_left_comm N]];exact this
theorem Fr.lift (hL:1<=L)(hK:1<=K)(h:Fr L M x):Fr (L*K) M x:=by
 have:=Fr.mul hL hK h (Fr.one hK)
 rwa [Nat.mul_one,Rat.mul_one] at this
theorem Fr.of (hL:1<=L){t b:Int}(hb:1<=b)(d:b ∣ L)(ht:t.natAbs<=M):Fr L M ((t:Rat) / (b:Rat)):=by
 obtain⟨k,rfl⟩:=d;have k1:1<=k:=by
  rcases Int.lt_or_le k 1 with z | z
  ·have:=Int.mul_nonpos_of_nonneg_of_nonpos (show 0<=b by lia) (show k<=0 by lia);lia
  ·exact z
 refine⟨t*k,?_,?_⟩
 ·have:=qU hb;have:=qU k1;rw[Rat.intCast_mul,Rat.intCast_mul];grind
 ·rw[Int.natAbs_mul,Int.natAbs_mul];refine Nat.mul_le_mul ht (Nat.le_mul_of_pos_left _ (by lia))
theorem Fr.get (h:Fr L M x){m n b:Nat}(hM:M < 2 ^ m)(hL:B n L)(hb:m+n<=b):∃a:Int,B b a/\x=(a:Rat) / (L:Rat):=by
 obtain⟨a,ea,ba⟩:=h;refine⟨a,?_,ea⟩;refine B.mono (n:=m+n) ?_ hb;show a.natAbs < 2 ^ (m+n);rw[Nat.pow_add];have hL:L.natAbs < 2 ^ n:=hL;exact Nat.lt_of_le_of_lt ba (Nat.mul_lt_mul'' hM hL)
end
theorem Ds {L:Int}{p:Q2}{u:Nat}(hL:1<=L)(l:Low p)(d:p.2 ∣ L)(b:Bd u p):Fr L (2 ^ u) (val p):=Fr.of hL l.pos d (Nat.le_of_lt b.a)
def prB:List Int->Int
 | []=>1
 |a :: r=>a*prB r
theorem Ey:∀{l:List Int},(∀a∈l,1<=a)->1<=prB l
 | [],_=>Int.le_refl _
 |a :: r,h=>by
  have h1:=h a (by simp);have h2:=Ey (l:=r) fun b hb=>h b (mem_cons_of_mem _ hb);have:=Int.mul_pos (show 0 < a by lia) (show 0 < prB r by lia);show 1<=a*prB r;lia
theorem Gd:∀{l:List Int} {a:Int},a∈l->a ∣ prB l
 |b :: r,a,h=>by
  rcases mem_cons.mp h with z | z
  ·rw[z];exact Int.dvd_mul_right ..
  ·exact Int.dvd_trans (Gd z) (Int.dvd_mul_left ..)
theorem Ty {u:Nat}:∀{l:List Int},(∀a∈l,B u a)->B (u*l.length+1) (prB l)
 | [],_=>show (1:Nat) < 2 ^ (u*0+1) by rw[Nat.mul_zero];decide
 |a :: r,h=>by
  have h1:=h a (by simp);have h2:=Ty (l:=r) fun b hb=>h b (mem_cons_of_mem _ hb);exact(h1.mul h2).mono (by rw[length_cons,Nat.mul_succ];lia)
end Mq
namespace L2
theorem Lm (s g x:Nat):dl s g x=1\/dl s g x=0\/dl s g x=-1:=by
 unfold dl
 by_cases a:s=x<;>by_cases b:g=x<;>simp only[a,b,if_true,if_false]
 ·exact .inr (.inl (by grind))
 ·exact .inl (by grind)
 ·exact .inr (.inr (by grind))
 ·exact .inr (.inl (by grind))
theorem Ad {L:Int}{M:Nat}{y:Rat}(h:Mq.Fr L M y)(s g x:Nat):Mq.Fr L M (dl s g x*y):=by
 rcases Lm s g x with e | e | e
 ·rw[e,Rat.one_mul];exact h
 ·rw[e,Rat.zero_mul];exact Mq.Fr.zero.mono (Nat.zero_le _)
 ·rw[e,show (-1:Rat)*y=-y by grind];exact h.neg
open PySem PySem.Spec PyProof.Rows Shp
abbrev Ent:=Option Nat × RD × Q2
section
variable {m u j:Nat} {hs:List Q2} {par:Nat->Nat} {E:List Ent}
theorem oV {α:Type}{E:List α}{i:Nat}{e x:α}(h:x∈E.take i++e :: E.drop i):x=e\/x∈E:=by
 rcases mem_append.mp h with z | z
 ·exact .inr (mem_of_mem_take z)
 ·rcases mem_cons.mp z with z | z
  ·exact .inl z
  ·exact .inr (mem_of_mem_drop z)
end
theorem Fx {W:Kd->Bool}{sk:List Sk}:∀n,∀e∈(cP W sk n).1,∃k,W k=true/\sk[e.1]?=some (k,e.2.1,e.2.2)/\e.1 < n
 |0,e,h=>by cases h
 |n+1,e,h=>by
  have ih:=Fx (W:=W) (sk:=sk) n
  cases hd:sk[n]? with
  |none=>
   have:cP W sk (n+1)=cP W sk n:=by
    show (match sk[n]? with | none=>cP W sk n | some d=>iI W (cP W sk n) n d)=_;rw[hd]
   rw[this] at h;obtain⟨k,a,b,c⟩:=ih e h;exact⟨k,a,b,by lia⟩
  |some d=>
   rw[gU hd] at h;unfold iI at h;split at h
   ·rename_i w
    split at h
    ·rcases mem_append.mp h with z | z
     ·obtain⟨k,a,b,c⟩:=ih e z;exact⟨k,a,b,by lia⟩
     ·have:e=(n,d.2.1,d.2.2):=by simpa using z
      subst this;exact⟨d.1,w,hd,by show n < n+1;lia⟩
    ·obtain⟨k,a,b,c⟩:=ih e h;exact⟨k,a,b,by lia⟩
   ·obtain⟨k,a,b,c⟩:=ih e h;exact⟨k,a,b,by lia⟩
theorem vB {m:Nat}{ds:List RD}{W:Kd->Bool}(hW:∀k,W k=true↔k=.ho)(pt:∀d∈ds,cK (m:Int) d.2.1 d.2.2.1)(h20:m<=20)(fr:Frs ds):∀n,n<=ds.length->(cP W (skl ds) n).2=[]
 |0,_=>rfl
 |n+1,hn=>by
  have ih:=vB hW pt h20 fr n (by lia);have hd:ds[n]?=some ds[n]:=getElem?_eq_getElem (by lia);generalize ds[n]=d at hd;have sl:(skl ds).length=ds.length:=by unfold skl;rw[length_map]
  have hs:(skl ds)[n]?=some (d.1,d.2.1.toNat,d.2.2.1.toNat):=by unfold skl;rw[getElem?_map,hd];rfl
  rw[gU hs];unfold iI;split
  ·rename_i w
   have hk:d.1=.ho:=(hW _).mp w;obtain⟨a,b,c,f⟩:=pt d (mem_of_getElem? hd);have ri:=jM (W:=W) (sk:=skl ds) (m:=m) (fun x hx=>by
    obtain⟨y,hy,rfl⟩:=mem_map.mp hx;obtain⟨a,b,c,f⟩:=pt y hy;exact⟨by show y.2.1.toNat < m;lia,by show y.2.2.1.toNat < m;lia⟩) n (by lia)
   have wi:=Fv (b:=d.2.2.1.toNat) (e:=d.2.1.toNat) ri.pt h20 (by lia) (by lia)
   cases e:qW (cP W (skl ds) n).1 d.2.2.1.toNat d.2.1.toNat with
   |none=>dsimp only;first | (rw[e];exact ih) | exact ih
   |some st=>
    exfalso
    rw[e] at wi;have eq:=wi.mp rfl;have cn:=(Pj (uL ri.pt) (by lia) (by lia)).mp eq;have ed:ds=ds.take n++d :: ds.drop (n+1):=by
     have hn':n < ds.length:=by lia
     have:ds[n]=d:=by rw[getElem?_eq_getElem hn'] at hd;exact Option.some.inj hd
     rw[<- this,getElem_cons_drop,take_append_drop]
    refine fr _ _ d ed hk ?_;refine Cn.ind (R:=fun p q=>Cn (iP .ho (ds.take n)) p q) (fun p=>.refl p) (fun _ _=>.symm) (fun _ _ _=>.trans) (fun x hx _=>?_) cn;obtain⟨y,hy,rfl⟩:=mem_map.mp hx;obtain⟨k,wk,sk,yn⟩:=Fx n y hy;unfold skl at sk;rw[getElem?_map] at sk;obtain⟨z,hz,ez⟩:=Option.map_eq_some_iff.mp sk;have e1:z.1=k:=congrArg (·.1) ez;have e2:z.2.1.toNat=y.2.1:=congrArg (·.2.1) ez;have e3:z.2.2.1.toNat=y.2.2:=congrArg (·.2.2) ez;have hz':z∈iP .ho (ds.take n):=mem_filter.mpr ⟨mem_of_getElem? (show (ds.take n)[y.1]?=some z by rw[getElem?_take_of_lt yn];exact hz),decide_eq_true (by rw[e1];exact(hW _).mp wk)⟩;have:Cn (iP .ho (ds.take n)) z.2.1.toNat z.2.2.1.toNat:=.row hz' (by rw[e1,(hW _).mp wk];exact fun z=>by cases z);rw[e2,e3] at this;show Cn _ ((y.2.1:Nat):Int).toNat ((y.2.2:Nat):Int).toNat;rw[Int.toNat_natCast,Int.toNat_natCast];exact this
  ·exact ih
end L2
namespace Mq
theorem Su {p:Q2}{a L l k:Int}(h:1<=p.2)(e:l=k*p.2)(l1:1<=l)(d:l ∣ L)(hL:1<=L)(v:val p=(a:Rat) / (L:Rat)):(zV l p).natAbs<=a.natAbs:=by
 obtain⟨s,rfl⟩:=d;have s1:s≠0:=fun z=>by rw[z,Int.mul_zero] at hL;lia
 have hv:=La (L:=l) (k:=k) h e;have h2:=qU l1;have h3:((s:Int):Rat)≠0:=by exact_mod_cast s1
 have e2:zV l p*s=a:=by
  have:((zV l p:Int):Rat)*(s:Rat)=(a:Rat):=by
   rw[hv,v,Rat.intCast_mul];grind
  exact_mod_cast this
 rw[<- e2,Int.natAbs_mul];exact Nat.le_mul_of_pos_right _ (by lia)
end Mq
namespace Shp
open PySem L2
theorem Qn {X:List (List Q2)}{qs:List Q2}{L:Int}{b:Nat}(hX:fK X)(hq:Mq.Pos qs)(hl:qs.length=X.length)(hb:∀row∈X,∀p∈row,p.2 ∣ L/\∃a:Int,Mq.B b a/\Mq.val p=(a:Rat) / (L:Rat))(hqb:∀p∈qs,p.2 ∣ L/\∃a:Int,Mq.B b a/\Mq.val p=(a:Rat) / (L:Rat))(hL:1<=L):BdR b (iG X qs):=fun i x=>by
 unfold ent
 by_cases hi:i < X.length
 ·rw[uM hl hi];have pos:=rQ hX hq hl hi;have al:∀p∈X.getD i []++[qs.getD i Mq.z0],p.2 ∣ L/\∃a:Int,Mq.B b a/\Mq.val p=(a:Rat) / (L:Rat):=fun p hp=>by
   rcases mem_append.mp hp with z | z
   ·exact hb _ (mem_of_getElem? (uU hi)) p z
   ·have e:p=qs.getD i Mq.z0:=by simpa using z
    rw[e];exact hqb _ (mem_of_getElem? (Mq.Lo (show i < qs.length by lia)))
  generalize X.getD i []++[qs.getD i Mq.z0]=row at pos al;obtain⟨dv,l1⟩:=Mq.vY pos (fun p hp=>(al p hp).1) row.length (Nat.le_refl _);rw[take_length] at dv l1;unfold iw;rw[getD_eq_getElem?_getD,getElem?_map]
  cases e:row[x]? with
  |none=>exact Nat.two_pow_pos _
  |some p=>
   have mem:=mem_of_getElem? e;obtain⟨_,a,ab,ea⟩:=al p mem;obtain⟨k,ek⟩:=Be pos p mem;exact ab.le (Mq.Su (pos p mem) ek l1 dv hL ea)
 ·rw[getD_eq_getElem?_getD (l:=iG X qs),getElem?_eq_none (by rw[Ax hl];lia)];exact Nat.two_pow_pos _
structure Ovr (n:Nat) (ps:List Q2):Prop where
 e:∃D:Int,1<=D/\Mq.B n D/\∀p∈ps,∃t:Int,Mq.B n t/\Mq.val p=(t:Rat) / (D:Rat)
theorem Rz {n:Nat}{d:Int}(d0:d≠0)(bd:Mq.B n d){ps:List Q2}(h:∀p∈ps,∃t:Int,Mq.B n t/\p=red t d):Ovr n ps:=by
 refine⟨(d.natAbs:Int),by lia,by show ((d.natAbs:Int)).natAbs < _;rw[Int.natAbs_natCast];exact bd,fun p hp=>?_⟩;obtain⟨t,bt,rfl⟩:=h p hp;rw[jZ d0];rcases Int.lt_or_le d 0 with z | z
 ·refine⟨-t,bt.neg,?_⟩;rw[show ((d.natAbs:Nat):Int)=-d by lia,Rat.intCast_neg,Rat.intCast_neg];have:((d:Int):Rat)≠0:=by exact_mod_cast d0
  grind
 ·exact⟨t,bt,by rw[show ((d.natAbs:Nat):Int)=d by lia]⟩
def wW (K:Frag):Sp:=fun vs H Q _=>∃(g b D:Addr) (H0:Hp) (us bs:List V) (X:List (List Q2)) (qs:List Q2) (k n:Nat),vs=[.ref g,.ref b]/\SqL K H g us/\Fmd K H0 D H us X/\SqL K H b bs/\Fqs K H bs qs/\qs.length=X.length/\iW qs/\(∀p∈qs,Bd k p)/\fK X/\(∀row∈X,(∀p∈row,Bd k p)/\row.length=X.length)/\X.length<=26/\10+k+k*(X.length+1)<=8000/\BdR n (iG X qs)/\1<=n/\bw n X.length<=8900/\wgt X≠0/\
 ∀l zs ps H',aV H H'->H l=none->H' l=some (.lst zs)->Fqs K H' zs ps->Yf X qs ps->Ovr (bw n X.length) ps->Q (.ref l) H'
end Shp
namespace L2
open PySem PySem.Spec PyProof.Rows Shp
abbrev wd (m:Nat)(ds:List RD):Nat:=m - 1+bL ds
structure Sv (m:Nat) (ds:List RD) (r:Nat->Rat) (v:Nat->Rat):Prop where
 z:v 0=0
 e:∀i,i < wd m ds->(Mq.rs (wd m ds) fun j=>eqM m ds (i+1) (j+1)*v (j+1))=r (i+1)
def un (k x:Nat):Rat:=if x=k then 1 else 0
section
variable {m:Nat} {ds:List RD} {r v:Nat->Rat}
theorem Sv.uni (o:Nof m ds){u:Nat->Rat}(h:Sv m ds r v)(g:Sv m ds r u):∀j,j<=wd m ds->v j=u j:=fun j hj=>by
 by_cases c:j=0
 ·rw[c,h.z,g.z]
 ·have:=o.uni (v:=fun j=>v (j+1)) (w:=fun j=>u (j+1)) (r:=fun i=>r (i+1)) h.e g.e (j - 1) (by unfold wd at hj;lia)
  rwa [show j - 1+1=j by lia] at this
theorem Yx {n k:Nat}(hk:k < n)(F:Nat->Rat):Mq.rs n (fun p=>F p*un k p)=F k:=by
 have:∀p,p < n->F p*un k p=if k=p then F p else 0:=fun p _=>by
  unfold un
  by_cases c:p=k
  ·rw[if_pos c,if_pos c.symm];grind
  ·rw[if_neg c,if_neg (fun z=>c z.symm)];grind
 rw[aP this,yS,if_pos hk]
end
theorem dB.seqI {K:Frag}{t a C dx:Addr}{fs:List (Str × V)}{H H':Hp}{xs:List V}(ht:H t=some (.ins C dx fs))(e:dB t H H')(h:SqL K H a xs):SqL K H' a xs:=by
 rcases h with (h | ⟨u,h⟩) | h
 ·exact .inl (.inl (e _ _ h (fM h ht (fun z=>by cases z))))
 ·exact .inl (.inr ⟨u,e _ _ h (fM h ht (fun z=>by cases z))⟩)
 ·exact .inr h
theorem dB.seqTI {K:Frag}{t a C dx:Addr}{fs:List (Str × V)}{H H':Hp}{xs:List V}(ht:H t=some (.ins C dx fs))(e:dB t H H')(h:SqT K H a xs):SqT K H' a xs:=by
 rcases h with (h | ⟨u,h⟩) | h
 ·exact .inl (.inl (e _ _ h (fM h ht (fun z=>by cases z))))
 ·exact .inl (.inr ⟨u,e _ _ h (fM h ht (fun z=>by cases z))⟩)
 ·exact .inr h
theorem dB.fqsI {K:Frag}{t C dx:Addr}{fs:List (Str × V)}{H H':Hp}(ht:H t=some (.ins C dx fs))(e:dB t H H'):∀{xs:List V} {ps:List Q2},Fqs K H xs ps->Fqs K H' xs ps
 |_,_,.nil=>.nil
 |_,_,.cons f q=>.cons (dB.seqTI ht e f) (dB.fqsI ht e q)
def kY (p l a:Addr):List (Str × V):=eX "flows" (.ref a) (eX "levels" (.ref l) (eX "lines" (.ref p) []))
theorem Qm (p l a:Addr):(kY p l a).lookup ("flows":Str)=some (.ref a):=by
 unfold kY;rw[bM,if_pos rfl]
theorem Km (p l a:Addr){x:Str}(h1:¬x = "lines")(h2:¬x = "levels")(h3:¬x = "flows"):(kY p l a).lookup x=none:=by
 unfold kY;rw[bM,if_neg h3,bM,if_neg h2,bM,if_neg h1];rfl
structure AB (K:Frag) (mg:Str->Option Value) (CA:Addr):Prop where
 cl:Cls K CA
 nI:gG K CA "lines"
 nE:gG K CA "levels"
 nO:gG K CA "flows"
 mA:mg "Answer"=some (.ref CA)
structure Ui (CA:Addr) (K:Frag) (H:Hp) (a:Addr) (lv fl:List Q2):Prop where
 e:∃(dx li le fo:Addr) (xs ys:List V),H a=some (.ins CA dx (kY li le fo))/\SqL K H le xs/\Fqs K H xs lv/\SqL K H fo ys/\Fqs K H ys fl
def wG (CA:Addr)(K:Frag):Sp:=fun vs H Q _=>∃(a:Addr) (lv fl:List Q2),vs=[.ref a]/\Ui CA K H a lv fl/\∀l xs H',aV H H'->H l=none->H' l=some (.lst xs)->Fqs K H' xs fl->Q (.ref l) H'
def Cq (lv hs:List Q2)(t:Nat)(d:RD):Q2:=Iu d.1 (flF lv d) (if d.1=.ho then hs.getD t Mq.z0 else (0,1)) d.2.2.2
def pK (lv hs:List Q2):Nat->List RD->List Q2
 |_,[]=>[]
 |t,d :: r=>Cq lv hs t d :: pK lv hs (t+bV d.1) r
theorem vA (lv hs:List Q2)(d:RD):∀(ds:List RD) (t:Nat),pK lv hs t (ds++[d])=pK lv hs t ds++[Cq lv hs (t+bL ds) d]
 | [],t=>rfl
 |e :: r,t=>by
  show _ :: pK lv hs (t+bV e.1) (r++[d])=_ :: (pK lv hs (t+bV e.1) r++_);rw[vA lv hs d r,dF,Nat.add_assoc]
theorem uF (lv hs:List Q2):∀(ds:List RD) (t:Nat),(pK lv hs t ds).length=ds.length
 | [],_=>rfl
 |d :: r,t=>by show (pK lv hs _ r).length+1=r.length+1;rw[uF lv hs r]
def lvS (m:Nat)(sol:List Q2):List Q2:=(0,1) :: sol.take (m - 1)
theorem lB {p:Q2}(l:Low p){a L:Int}{b:Nat}(hL:1<=L)(LB:Mq.B b L)(ab:Mq.B b a)(h:Mq.val p=(a:Rat) / (L:Rat)):Bd b p/\p.2 ∣ L:=by
 obtain⟨d,t⟩:=Mq.Kb l hL h;refine⟨⟨ab.le t,LB.le ?_⟩,d⟩;have:=Int.le_of_dvd (by lia) d;have:=l.pos;lia
structure EqB (m b:Nat) (L:Int) (ds:List RD):Prop where
 o:Nof m ds
 w26:wd m ds<=26
 b1:1<=b
 hb:10+b+b*(wd m ds+1)<=8000
 hbw:bw b (wd m ds)<=4000
 L1:1<=L
 LB:Mq.B b L
 eM:∀i j,∃a:Int,Mq.B b a/\eqM m ds (i+1) (j+1)=(a:Rat) / (L:Rat)
def uP (sol:List Q2)(x:Nat):Rat:=if x=0 then 0 else Mq.val (sol.getD (x - 1) Mq.z0)
section
variable {m b N:Nat} {L:Int} {ds:List RD} {X:List (List Q2)} {Y qs ps:List Q2}
theorem EqB.cell (h:EqB m b L ds)(e:Aj m ds N X Y):∀row∈X,(∀p∈row,Bd b p/\p.2 ∣ L/\∃a:Int,Mq.B b a/\Mq.val p=(a:Rat) / (L:Rat))/\row.length=X.length:=fun row hr=>by
 refine⟨fun p hp=>?_,by rw[e.x.w row hr,e.x.h]⟩;obtain⟨i,hi⟩:=getElem?_of_mem hr;obtain⟨j,hj⟩:=getElem?_of_mem hp;have ep:p=jH X i j:=by
  unfold jH;rw[getD_eq_getElem?_getD (l:=X),hi];show p=row.getD j (0,1);rw[getD_eq_getElem?_getD,hj];rfl
 obtain⟨a,ab,ea⟩:=h.eM i j;have ev:Mq.val p=(a:Rat) / (L:Rat):=by rw[ep,e.vx,ea]
 obtain⟨x,y⟩:=lB (e.x.l row hr p hp).1 h.L1 h.LB ab ev;exact⟨x,y,a,ab,ev⟩
theorem EqB.pos (e:Aj m ds N X Y):fK X:=fun row hr p hp=>(e.x.l row hr p hp).1.pos
theorem EqB.wgt (h:EqB m b L ds)(e:Aj m ds N X Y):wgt X≠0:=by
 by_cases c:1<=X.length
 ·exact h.o.wgt_ne e (EqB.pos e) (fun row hr=>(h.cell e row hr).2) c
 ·have:X=[]:=eq_nil_of_length_eq_zero (by lia);subst this;show (1:Rat)≠0;decide
theorem EqB.sol (e:Aj m ds N X Y)(s:Yf X qs ps){r:Nat->Rat}(vq:∀i,i < wd m ds->Mq.val (qs.getD i Mq.z0)=r (i+1)):Sv m ds r (uP ps):=by
 have lX:X.length=wd m ds:=e.x.h;refine⟨if_pos rfl,fun i hi=>?_⟩;rw[<- vq i hi,<- s.sum i (by lia),lX];refine aP fun j _=>?_;unfold uP;rw[if_neg (by lia),Nat.add_sub_cancel,Ju e]
end
theorem Ovr.minus {n:Nat}{ps:List Q2}(h:Ovr n ps)(low:iW ps){p q:Q2}(hp:p∈ps)(hq:q∈ps):Bd (n+1) (Mq.minus p q)/\Bd n p/\Bd n q:=by
 obtain⟨D,D1,bD,al⟩:=h.e;obtain⟨t,bt,et⟩:=al p hp;obtain⟨s,bs,es⟩:=al q hq;have lp:=low p hp;have lq:=low q hq;refine⟨?_,(lB lp D1 bD bt et).1,(lB lq D1 bD bs es).1⟩;refine(lB (dX lp.pos lq.pos) D1 (bD.mono (by lia)) (bt.sub bs) ?_).1;rw[eV lp.pos lq.pos,et,es,Rat.intCast_sub,Rat.div_def,Rat.div_def,Rat.div_def];grind
abbrev Hn:=Option (Nat × Nat) × RD
def rot (m t k:Nat):Nat:=(k+t) % m
abbrev tgs (E:List Hn):List (Nat × Nat):=E.filterMap (·.1)
section
variable {m t J:Nat} {E:List Hn}
theorem mG (tm:t < m){j k:Nat}(hj:j < m)(hk:k < m)(h:rot m t j=rot m t k):j=k:=by
 unfold rot at h;have a:(j+t) % m=if j+t < m then j+t else j+t - m:=by
  split
  ·exact Nat.mod_eq_of_lt (by assumption)
  ·rw[Nat.mod_eq_sub_mod (by lia),Nat.mod_eq_of_lt (by lia)]
 have b:(k+t) % m=if k+t < m then k+t else k+t - m:=by
  split
  ·exact Nat.mod_eq_of_lt (by assumption)
  ·rw[Nat.mod_eq_sub_mod (by lia),Nat.mod_eq_of_lt (by lia)]
 rw[a,b] at h;split at h<;>split at h<;>lia
theorem xL (tm:t < m){p:Nat}(hp:p < m):∃k,k < m/\rot m t k=p:=by
 by_cases c:t<=p
 ·exact⟨p - t,by lia,by unfold rot;rw[show p - t+t=p by lia,Nat.mod_eq_of_lt hp]⟩
 ·exact⟨p+m - t,by lia,by unfold rot;rw[show p+m - t+t=p+m by lia,Nat.add_mod_right,Nat.mod_eq_of_lt hp]⟩
inductive qY (T:List (Nat × Nat)) (k:Nat):Nat->Prop where
 |self:qY T k k
 |up {p q:Nat} (h:(p,q)∈T) (u:qY T k q):qY T k p
theorem qY.ge {T:List (Nat × Nat)}{k p:Nat}(d:∀p q,(p,q)∈T->q < p)(h:qY T k p):k<=p:=by
 induction h with
 |self=>exact Nat.le_refl _
 |up h _ ih=>have:=d _ _ h;lia
theorem Tm {T:List (Nat × Nat)}(nd:(T.map (·.1)).Nodup){p q q':Nat}(h:(p,q)∈T)(h':(p,q')∈T):q=q':=by
 induction T with
 |nil=>cases h
 |cons x T ih=>
  rw[map_cons,nodup_cons] at nd;rcases mem_cons.mp h with z | z<;>rcases mem_cons.mp h' with z' | z'
  ·rw[<- z] at z';exact(Prod.ext_iff.mp z').2.symm
  ·exact absurd (mem_map.mpr ⟨_,z',by rw[<- z]⟩) nd.1
  ·exact absurd (mem_map.mpr ⟨_,z,by rw[<- z']⟩) nd.1
  ·exact ih nd.2 z z'
theorem qY.iff {T:List (Nat × Nat)}{k p q:Nat}(nd:(T.map (·.1)).Nodup)(h:(p,q)∈T)(ne:p≠k):qY T k p↔qY T k q:=by
 refine⟨fun u=>?_,fun u=>.up h u⟩
 cases u with
 |self=>exact absurd rfl ne
 |up h' u=>rw[Tm nd h h'];exact u
theorem Kt:∀{E:List Hn},((tgs E).map (·.1)).Nodup->∀{i i':Nat} {e e':Hn} {k j j':Nat},E[i]?=some e->E[i']?=some e'->e.1=some (k,j)->e'.1=some (k,j')->i=i'
 | [],_,i,_,_,_,_,_,_,h,_,_,_=>by simp at h
 |x :: E,nd,i,i',e,e',k,j,j',h,h',t,t'=>by
  have mem:∀{a:Nat} {y:Hn} {b:Nat},E[a]?=some y->y.1=some (k,b)->k∈(tgs E).map (·.1):=fun hy ty=>mem_map.mpr ⟨_,mem_filterMap.mpr ⟨_,mem_of_getElem? hy,ty⟩,rfl⟩;have nd':((tgs E).map (·.1)).Nodup:=by
   unfold tgs at nd;rw[filterMap_cons] at nd;split at nd
   ·exact nd
   ·rw[map_cons] at nd;exact(nodup_cons.mp nd).2
  have no:∀{b:Nat},x.1=some (k,b)->k∉(tgs E).map (·.1):=fun tx=>by
   unfold tgs at nd;rw[filterMap_cons_some tx,map_cons] at nd;exact(nodup_cons.mp nd).1
  match i,i',h,h' with
  |0,0,_,_=>rfl
  |0,a+1,h,h'=>
   have:x=e:=by simpa using h
   subst this;exact absurd (mem (by simpa using h') t') (no t)
  |a+1,0,h,h'=>
   have:x=e':=by simpa using h'
   subst this;exact absurd (mem (by simpa using h) t) (no t')
  |a+1,a' + 1,h,h'=>
   have:=Kt nd' (i:=a) (i':=a') (by simpa using h) (by simpa using h') t t';lia
abbrev rwH (E:List Hn):List RD:=E.map (·.2)
end
abbrev Pr2:=RD × Q2
def ouR (p:Nat):List Pr2->Rat
 | []=>0
 |e :: r=>dl e.1.2.1.toNat e.1.2.2.1.toNat p*Mq.val e.2+ouR p r
theorem rM (p:Nat):∀A B:List Pr2,ouR p (A++B)=ouR p A+ouR p B
 | [],B=>by show ouR p B=0+ouR p B;grind
 |e :: A,B=>by
  show _+ouR p (A++B)=_+ouR p A+ouR p B;rw[rM p A B];grind
section
variable {u:Nat->Rat} {m:Nat}
def Nm (u:Nat->Rat)(e:Pr2)(h:Nat):Prop:=match e.1.1 with
 | .pc=>Mq.val e.2=(u e.1.2.1.toNat - u e.1.2.2.1.toNat)*(1 / Mq.val e.1.2.2.2)
 | .pu=>Mq.val e.2=Mq.val e.1.2.2.2
 | .ho=>Mq.val e.2=u h/\Mq.val e.1.2.2.2=u e.1.2.1.toNat - u e.1.2.2.1.toNat
def Fws (u:Nat->Rat):Nat->List Pr2->Prop
 |_,[]=>True
 |h,e :: r=>Nm u e h/\Fws u (h+bV e.1.1) r
theorem Uo {x:Nat}(hx:x < m):∀(D:List Pr2) (h:Nat),Fws u h D->m<=h->nt u h (D.map (·.1)) x - eqR h (D.map (·.1)) x=ouR x D
 | [],_,_,_=>by show (0:Rat) - 0=0;grind
 |e :: D,h,F,hm=>by
  have ih:=Uo hx D (h+bV e.1.1) F.2 (by lia);have o:=F.1;show (fw u e.1 h*dl e.1.2.1.toNat e.1.2.2.1.toNat x+nt u (h+bV e.1.1) (D.map (·.1)) x) - (cR e.1 h x+eqR (h+bV e.1.1) (D.map (·.1)) x)=dl e.1.2.1.toNat e.1.2.2.1.toNat x*Mq.val e.2+ouR x D;have t:fw u e.1 h*dl e.1.2.1.toNat e.1.2.2.1.toNat x - cR e.1 h x=dl e.1.2.1.toNat e.1.2.2.1.toNat x*Mq.val e.2:=by
   unfold fw cR;unfold Nm at o
   cases hk:e.1.1 with
   |pc=>rw[hk] at o;dsimp only at o ⊢;rw[o];grind
   |pu=>rw[hk] at o;dsimp only at o ⊢;rw[o];grind
   |ho=>rw[hk] at o;dsimp only at o ⊢;rw[if_neg (by lia),o.1];grind
  grind
theorem Ts {y:Nat}(hy:m<=y):∀(D:List Pr2) (h:Nat),Fws u h D->(∀e∈D,cK (m:Int) e.1.2.1 e.1.2.2.1)->hw u h (D.map (·.1)) y=eqR h (D.map (·.1)) y
 | [],_,_,_=>rfl
 |e :: D,h,F,pt=>by
  have ih:=Ts hy D (h+bV e.1.1) F.2 fun x hx=>pt x (mem_cons_of_mem _ hx);have o:=F.1;obtain⟨a,b,c,f⟩:=pt e (by simp);show (if e.1.1=.ho/\h=y then u e.1.2.1.toNat - u e.1.2.2.1.toNat else 0)+hw u (h+bV e.1.1) (D.map (·.1)) y=cR e.1 h y+eqR (h+bV e.1.1) (D.map (·.1)) y;rw[ih];congr 1;unfold cR;unfold Nm at o
  cases hk:e.1.1 with
  |pc=>rw[if_neg (fun z=>by cases z.1)]
  |pu=>
   rw[if_neg (fun z=>by cases z.1)];dsimp only;unfold dl;rw[if_neg (by lia),if_neg (by lia)];grind
  |ho=>
   rw[hk] at o;dsimp only at o ⊢
   by_cases z:h=y
   ·rw[if_pos ⟨rfl,z⟩,if_pos z,o.2]
   ·rw[if_neg (fun q=>z q.2),if_neg z]
end
def hdF:List Pr2->List Q2
 | []=>[]
 |e :: r=>if e.1.1=.ho then e.2 :: hdF r else hdF r
theorem Et:∀D:List Pr2,(hdF D).length=bL (D.map (·.1))
 | []=>rfl
 |e :: D=>by
  rw[map_cons,dF,<- Et D];show (if e.1.1=.ho then e.2 :: hdF D else hdF D).length=bV e.1.1+_;unfold bV;split<;>(try simp only[length_cons])<;>lia
theorem yC:∀{D:List Pr2} {p:Q2},p∈hdF D->∃e∈D,e.1.1=.ho/\p=e.2
 |e :: D,p,h=>by
  unfold hdF at h;split at h
  ·rename_i c
   rcases mem_cons.mp h with z | z
   ·exact⟨e,by simp,c,z⟩
   ·obtain⟨x,hx,y⟩:=yC z;exact⟨x,mem_cons_of_mem _ hx,y⟩
  ·obtain⟨x,hx,y⟩:=yC h;exact⟨x,mem_cons_of_mem _ hx,y⟩
structure FwB (u:Nat->Rat) (e:Pr2):Prop where
 pc:e.1.1=.pc->Mq.val e.2=(u e.1.2.1.toNat - u e.1.2.2.1.toNat)*(1 / Mq.val e.1.2.2.2)
 pu:e.1.1=.pu->Mq.val e.2=Mq.val e.1.2.2.2
 ho:e.1.1=.ho->Mq.val e.1.2.2.2=u e.1.2.1.toNat - u e.1.2.2.1.toNat
theorem Cy {u:Nat->Rat}:∀(D:List Pr2) (h:Nat),(∀e∈D,FwB u e)->(∀t,t < (hdF D).length->u (h+t)=Mq.val ((hdF D).getD t Mq.z0))->Fws u h D
 | [],_,_,_=>trivial
 |e :: D,h,b,hu=>by
  have o:=b e (by simp);have r:∀x∈D,FwB u x:=fun x hx=>b x (mem_cons_of_mem _ hx);unfold hdF at hu
  by_cases c:e.1.1=.ho
  ·rw[if_pos c] at hu;refine⟨?_,Cy D _ r fun t ht=>?_⟩
   ·unfold Nm;rw[c];exact⟨by have:=hu 0 (by simp);rw[Nat.add_zero] at this;rw[this];rfl,o.ho c⟩
   ·have:=hu (t+1) (by simp only[length_cons];lia);rw[show bV e.1.1=1 from if_pos c,show h+1+t=h+(t+1) by lia,this];rfl
  ·rw[if_neg c] at hu;refine⟨?_,Cy D _ r fun t ht=>?_⟩
   ·unfold Nm
    cases hk:e.1.1 with
    |pc=>exact o.pc hk
    |pu=>exact o.pu hk
    |ho=>exact absurd hk c
   ·rw[show bV e.1.1=0 from if_neg c,Nat.add_zero];exact hu t ht
theorem Ea {lv hs:List Q2}:∀(D:List Pr2) (t:Nat),(∀e∈D,(e.1.1=.pc->e.2=mX (flF lv e.1) e.1.2.2.2)/\(e.1.1=.pu->e.2=e.1.2.2.2))->(∀j,j < (hdF D).length->hs.getD (t+j) Mq.z0=(hdF D).getD j Mq.z0)->pK lv hs t (D.map (·.1))=D.map (·.2)
 | [],_,_,_=>rfl
 |e :: D,t,b,hu=>by
  have o:=b e (by simp);have r:=fun x hx=>b x (mem_cons_of_mem _ hx);unfold hdF at hu;show Cq lv hs t e.1 :: pK lv hs (t+bV e.1.1) (D.map (·.1))=e.2 :: D.map (·.2)
  by_cases c:e.1.1=.ho
  ·rw[if_pos c] at hu;rw[Ea D (t+bV e.1.1) r fun j hj=>by
    have:=hu (j+1) (by simp only[length_cons];lia);rw[show bV e.1.1=1 from if_pos c,show t+1+j=t+(j+1) by lia,this];rfl]
   congr 1;unfold Cq;rw[c,if_pos rfl];have:=hu 0 (by simp);rw[Nat.add_zero] at this;exact this
  ·rw[if_neg c] at hu;rw[Ea D (t+bV e.1.1) r fun j hj=>by rw[show bV e.1.1=0 from if_neg c,Nat.add_zero];exact hu j hj];congr 1;unfold Cq
   cases hk:e.1.1 with
   |pc=>exact(o.1 hk).symm
   |pu=>exact(o.2 hk).symm
   |ho=>exact absurd hk c
section
variable {m u:Nat} {hs:List Q2} {par:Nat->Nat} {E:List Ent}
theorem Kk {L:Int}{M x y:Nat}:∀{ds:List RD} (k:Nat),(∀d∈ds,∀k,Mq.Fr L M (cM d k x y))->Mq.Fr L (ds.length*M) (eqM k ds x y)
 | [],_,_=>Mq.Fr.zero.mono (Nat.zero_le _)
 |d :: ds,k,q=>by
  rw[length_cons,Nat.succ_mul,Nat.add_comm];exact(q d (by simp) k).add (Kk _ fun x hx=>q x (mem_cons_of_mem _ hx))
theorem Mp {L:Int}{M x:Nat}:∀{ds:List RD} (k:Nat),(∀d∈ds,∀k,Mq.Fr L M (cR d k x))->Mq.Fr L (ds.length*M) (eqR k ds x)
 | [],_,_=>Mq.Fr.zero.mono (Nat.zero_le _)
 |d :: ds,k,q=>by
  rw[length_cons,Nat.succ_mul,Nat.add_comm];exact(q d (by simp) k).add (Mp _ fun x hx=>q x (mem_cons_of_mem _ hx))
theorem Db {L:Int}{M:Nat}{y:Rat}{c:Prop}[Decidable c](g:Mq.Fr L M y):Mq.Fr L M (if c then y else 0):=by
 split
 ·exact g
 ·exact Mq.Fr.zero.mono (Nat.zero_le _)
end
abbrev sk3 (d:RD):Kd × Int × Int:=(d.1,d.2.1,d.2.2.1)
theorem Cn.sk {ds es:List RD}(h:ds.map sk3=es.map sk3){p q:Nat}(c:Cn ds p q):Cn es p q:=by
 refine Cn.ind (R:=fun p q=>Cn es p q) (fun p=>.refl p) (fun _ _=>.symm) (fun _ _ _=>.trans) (fun x hx hk=>?_) c;have:sk3 x∈es.map sk3:=by rw[<- h];exact mem_map.mpr ⟨x,hx,rfl⟩
 obtain⟨y,hy,e⟩:=mem_map.mp this;have e1:y.1=x.1:=congrArg (·.1) e;have e2:y.2.1=x.2.1:=congrArg (·.2.1) e;have e3:y.2.2.1=x.2.2.1:=congrArg (·.2.2) e;have:=Cn.row hy (by rw[e1];exact hk);rw[e2,e3] at this;exact this
theorem Xf (k:Kd){ds es:List RD}(h:ds.map sk3=es.map sk3):(iP k ds).map sk3=(iP k es).map sk3:=by
 have:∀l:List RD,(iP k l).map sk3=(l.map sk3).filter fun x=>decide (x.1=k):=fun l=>by
  unfold iP;rw[filter_map];rfl
 rw[this,this,h]
theorem Frs.sk {ds es:List RD}(h:ds.map sk3=es.map sk3)(f:Frs ds):Frs es:=by
 intro A B d e hd cn;have hl:ds.length=es.length:=by have:=congrArg List.length h;rwa [length_map,length_map] at this
 have hn:A.length < ds.length:=by rw[hl,e,List.length_append,length_cons];lia
 have eA:(ds.take A.length).map sk3=A.map sk3:=by rw[map_take,h,<- map_take,e,take_left]
 have ed:sk3 ds[A.length]=sk3 d:=by
  have a1:(ds.map sk3)[A.length]?=some (sk3 ds[A.length]):=by rw[getElem?_map,getElem?_eq_getElem hn];rfl
  have a2:(es.map sk3)[A.length]?=some (sk3 d):=by rw[getElem?_map,e,getElem?_append_right (Nat.le_refl _),Nat.sub_self];rfl
  rw[h,a2] at a1;exact(Option.some.inj a1).symm
 have e1:(ds[A.length]).1=d.1:=congrArg (·.1) ed;have e2:(ds[A.length]).2.1=d.2.1:=congrArg (·.2.1) ed;have e3:(ds[A.length]).2.2.1=d.2.2.1:=congrArg (·.2.2) ed;refine f (ds.take A.length) (ds.drop (A.length+1)) ds[A.length] (by rw[getElem_cons_drop,take_append_drop]) (by rw[e1];exact hd) ?_;rw[e2,e3];exact Cn.sk (Xf .ho eA.symm) cn
theorem Nof.sk {m:Nat}{ds es:List RD}(h:ds.map sk3=es.map sk3)(o:Nof m ds)(pos:∀d∈es,d.1=.pc->0 < Mq.val d.2.2.2):Nof m es:=by
 refine⟨o.m1,fun d hd=>?_,pos,fun p hp=>Cn.sk h (o.cn p hp),Frs.sk h o.fr⟩;have:sk3 d∈ds.map sk3:=by rw[h];exact mem_map.mpr ⟨d,hd,rfl⟩
 obtain⟨y,hy,e⟩:=mem_map.mp this;have e2:y.2.1=d.2.1:=congrArg (·.2.1) e;have e3:y.2.2.1=d.2.2.1:=congrArg (·.2.2) e;have:=o.pt y hy
 rwa [e2,e3] at this
structure StB (K:Frag) (H:Hp) (b:Addr) (ys:List V) (ss:List Q2) (n:Nat):Prop where
 s:SqL K H b ys
 f:Fqs K H ys ss
 l:ss.length=n
 b:∀s∈ss,Low s/\Bd 3900 s
theorem StB.same {K:Frag}{H H':Hp}{b:Addr}{ys:List V}{ss:List Q2}{n:Nat}(e:aV H H')(h:StB K H b ys ss n):StB K H' b ys ss n:=⟨e.seq h.s,h.f.same e,h.l,h.b⟩
def Fh (K:Frag)(CK:Kd->Addr):Sp:=fun vs H Q _=>∃(x a:Addr) (d:RD) (z:V) (xs:List V) (hp:List Q2) (n:Nat),vs=[.ref x,.ref a]/\Rw CK H x d.1 (.int d.2.1) (.int d.2.2.1) z/\StB K H a xs hp n/\cK (n:Int) d.2.1 d.2.2.1/\lK H Q (flF hp d)
theorem Wk {n:Nat}{ps:List Q2}(h:Ovr n ps)(low:iW ps)(hn:n<=3900):∀p∈ps,Low p/\Bd 3900 p:=fun p hp=>⟨low p hp,(Ovr.minus h low hp hp).2.1.mono hn⟩
theorem qf2 {n:Nat}:Bd (n+1) (0,1):=⟨Nat.two_pow_pos _,Nat.one_lt_two_pow (by lia)⟩
abbrev En:=Nat × Q2 × List Stp
structure qd9 (CA:Addr) (K:Frag) (H0 H:Hp) (a:Addr) (lv fl:List Q2):Prop where
 e:∃(dx li le fo:Addr) (xs ys:List V),H a=some (.ins CA dx (kY li le fo))/\H le=some (.lst xs)/\Fqs K H xs lv/\H fo=some (.lst ys)/\Fqs K H ys fl/\∀l o,H0 l=some o->l≠a->le≠l/\fo≠l
abbrev Bq (p:Q2):Prop:=Mq.B 30 p.1/\p.2.natAbs<=16
structure Ro (m t:Nat) (e:Hn):Prop where
 pt:cK (m:Int) e.2.2.1 e.2.2.2.1
 sl:Low e.2.2.2.2
 bd:Bd 30 e.2.2.2.2
 pc:e.2.1=.pc->0 < e.2.2.2.2.1/\Bq e.2.2.2.2
 ho:e.2.1=.ho->e.1≠none
 tg:∀k j,e.1=some (k,j)->e.2.1≠.pu/\1<=k/\k < m/\j < k/\((e.2.2.1=(rot m t k:Int)/\e.2.2.2.1=(rot m t j:Int))\/(e.2.2.1=(rot m t j:Int)/\e.2.2.2.1=(rot m t k:Int)))
structure Hnk (m t J:Nat) (E:List Hn):Prop where
 m1:1<=m
 tm:t < m
 en:∀e∈E,Ro m t e
 nd:((tgs E).map (·.1)).Nodup
 al:∀k,1<=k->k < J->∃j,(k,j)∈tgs E
 lt:∀p∈tgs E,p.1 < J
 ln:(tgs E).length+1=J
section
variable {m t J:Nat} {E:List Hn}
theorem Hnk.ins (h:Hnk m t J E){e:Hn}(he:Ro m t e)(e0:e.1=none)(i:Nat):Hnk m t J (E.take i++e :: E.drop i):=by
 have et:tgs (E.take i++e :: E.drop i)=tgs E:=by
  unfold tgs;rw[filterMap_append,filterMap_cons_none e0,<- filterMap_append,take_append_drop]
 refine⟨h.m1,h.tm,fun x hx=>?_,by rw[et];exact h.nd,fun k a b=>by rw[et];exact h.al k a b,fun p hp=>h.lt p (by rw[et] at hp;exact hp),by rw[et];exact h.ln⟩;rcases oV hx with z | z
 ·rw[z];exact he
 ·exact h.en x z
theorem Hnk.tree (h:Hnk m t J E){e:Hn}{j:Nat}(he:Ro m t e)(e0:e.1=some (J,j))(i:Nat):Hnk m t (J+1) (E.take i++e :: E.drop i):=by
 have et:(tgs (E.take i++e :: E.drop i)).Perm ((J,j) :: tgs E):=by
  unfold tgs;rw[filterMap_append,filterMap_cons_some e0];refine perm_middle.trans ?_;rw[<- filterMap_append,take_append_drop]
 refine⟨h.m1,h.tm,fun x hx=>?_,?_,fun k a b=>?_,fun p hp=>?_,?_⟩
 ·rcases oV hx with z | z
  ·rw[z];exact he
  ·exact h.en x z
 ·rw[(et.map (·.1)).nodup_iff,map_cons,nodup_cons];refine⟨fun z=>?_,h.nd⟩;obtain⟨p,hp,ep⟩:=mem_map.mp z;have:=h.lt p hp;lia
 ·by_cases c:k=J
  ·exact⟨j,et.mem_iff.mpr (by rw[c];simp)⟩
  ·obtain⟨j',hj'⟩:=h.al k a (by lia);exact⟨j',et.mem_iff.mpr (mem_cons_of_mem _ hj')⟩
 ·rcases mem_cons.mp (et.mem_iff.mp hp) with z | z
  ·rw[z];show J < J+1;lia
  ·have:=h.lt p z;lia
 ·rw[et.length_eq,length_cons,h.ln]
theorem Hnk.pt (h:Hnk m t J E):∀d∈rwH E,cK (m:Int) d.2.1 d.2.2.1:=fun d hd=>by
 obtain⟨e,he,rfl⟩:=mem_map.mp hd;exact(h.en e he).pt
theorem Hnk.cn0 (h:Hnk m t m E):∀n k,k<=n->k < m->Cn (rwH E) (rot m t 0) (rot m t k)
 |n,0,_,_=>.refl _
 |0,k+1,hk,_=>by lia
 |n+1,k+1,hk,hm=>by
  obtain⟨j,hj⟩:=h.al (k+1) (by lia) hm;obtain⟨e,he,te⟩:=mem_filterMap.mp hj;obtain⟨hp,_,_,jk,ends⟩:=(h.en e he).tg _ _ te;have ih:=Hnk.cn0 h n j (by lia) (by lia);have r:Cn (rwH E) e.2.2.1.toNat e.2.2.2.1.toNat:=.row (mem_map.mpr ⟨e,he,rfl⟩) hp;rcases ends with ⟨a,b⟩ | ⟨a,b⟩
  ·rw[a,b,Int.toNat_natCast,Int.toNat_natCast] at r;exact ih.trans r.symm
  ·rw[a,b,Int.toNat_natCast,Int.toNat_natCast] at r;exact ih.trans r
theorem Hnk.cn (h:Hnk m t m E)(p:Nat)(hp:p < m):Cn (rwH E) 0 p:=by
 obtain⟨k,hk,rfl⟩:=xL h.tm hp;obtain⟨k0,hk0,e0⟩:=xL h.tm (show 0 < m by have:=h.m1;lia);have a:=h.cn0 k k (Nat.le_refl _) hk;have b:=h.cn0 k0 k0 (Nat.le_refl _) hk0;rw[e0] at b;exact b.symm.trans a
theorem Hnk.frs (h:Hnk m t J E):Frs (rwH E):=by
 intro A B d e hd cn;have at_:(rwH E)[A.length]?=some d:=by rw[e,getElem?_append_right (Nat.le_refl _),Nat.sub_self];rfl
 have atx:∀i x,i < A.length->A[i]?=some x->∃y:Hn,E[i]?=some y/\y.2=x:=fun i x hi hx=>by
  have:(rwH E)[i]?=some x:=by rw[e,getElem?_append_left hi];exact hx
  rw[getElem?_map] at this;obtain⟨y,hy,ey⟩:=Option.map_eq_some_iff.mp this;exact⟨y,hy,ey⟩
 rw[getElem?_map] at at_;obtain⟨y,hy,rfl⟩:=Option.map_eq_some_iff.mp at_;have oy:=h.en y (mem_of_getElem? hy);obtain⟨⟨k,j⟩,tk⟩:∃p,y.1=some p:=Option.ne_none_iff_exists'.mp (oy.ho hd);obtain⟨_,k1,km,jk,ends⟩:=oy.tg k j tk;have dec:∀p q,(p,q)∈tgs E->q < p:=fun p q hpq=>by
  obtain⟨z,hz,tz⟩:=mem_filterMap.mp hpq;exact((h.en z hz).tg _ _ tz).2.2.2.1
 have r:=Cn.ind (ds:=iP .ho A) (R:=fun p q=>p=q\/(p < m/\q < m/\∀a b,a < m->b < m->rot m t a=p->rot m t b=q->(qY (tgs E) k a↔qY (tgs E) k b))) (fun p=>.inl rfl) (fun p q f=>by
  rcases f with f | ⟨x,y,f⟩
  ·exact .inl f.symm
  ·exact .inr ⟨y,x,fun a b ha hb e1 e2=>(f b a hb ha e2 e1).symm⟩) (fun p q x f g=>by
  rcases f with f | ⟨f1,f2,f⟩
  ·rw[f];exact g
  ·rcases g with g | ⟨g1,g2,g⟩
   ·rw[<- g];exact .inr ⟨f1,f2,f⟩
   ·refine .inr ⟨f1,g2,fun a b ha hb e1 e2=>?_⟩;obtain⟨c,hc,ec⟩:=xL h.tm f2;exact(f a c ha hc e1 ec).trans (g c b hc hb ec e2)) (fun x hx hk=>by
  obtain⟨xA,xk⟩:=mem_filter.mp hx;obtain⟨i,hi⟩:=getElem?_of_mem xA;have il:=(List.getElem?_eq_some_iff.mp hi).1;obtain⟨z,hz,rfl⟩:=atx i x il hi;have oz:=h.en z (mem_of_getElem? hz);obtain⟨⟨k',j'⟩,tk'⟩:∃p,z.1=some p:=Option.ne_none_iff_exists'.mp (oz.ho (of_decide_eq_true xk));obtain⟨_,a1,am,jk',ends'⟩:=oz.tg k' j' tk';have ne:k'≠k:=fun c=>by
   rw[c] at tk';have:=Kt h.nd hz hy tk' tk;lia
  have mem:(k',j')∈tgs E:=mem_filterMap.mpr ⟨z,mem_of_getElem? hz,tk'⟩;have iff:=qY.iff h.nd mem ne;obtain⟨q0,q1,q2,q3⟩:=oz.pt;refine .inr ⟨by lia,by lia,fun a b ha hb e1 e2=>?_⟩;rcases ends' with ⟨x,y⟩ | ⟨x,y⟩
  ·rw[x,Int.toNat_natCast] at e1;rw[y,Int.toNat_natCast] at e2;rw[mG h.tm ha am e1,mG h.tm hb (by lia) e2];exact iff
  ·rw[x,Int.toNat_natCast] at e1;rw[y,Int.toNat_natCast] at e2;rw[mG h.tm ha (by lia) e1,mG h.tm hb am e2];exact iff.symm) cn
 have no:¬qY (tgs E) k j:=fun c=>by
  have:=c.ge dec;lia
 rcases ends with ⟨a,b⟩ | ⟨a,b⟩
 ·rw[a,b,Int.toNat_natCast,Int.toNat_natCast] at r;rcases r with r | ⟨_,_,r⟩
  ·have:=mG h.tm km (by lia) r;lia
  ·exact no ((r k j km (by lia) rfl rfl).mp .self)
 ·rw[a,b,Int.toNat_natCast,Int.toNat_natCast] at r;rcases r with r | ⟨_,_,r⟩
  ·have:=mG h.tm (by lia) km r;lia
  ·exact no ((r j k (by lia) km rfl rfl).mpr .self)
theorem Hnk.hold_le (h:Hnk m t J E):bL (rwH E)+1<=J:=by
 have:∀{E:List Hn},(∀e∈E,e.2.1=.ho->e.1≠none)->bL (rwH E)<=(tgs E).length:=fun {E}=>by
  induction E with
  |nil=>intro _;exact Nat.le_refl _
  |cons e E ih=>
   intro h;have ih:=ih fun x hx=>h x (mem_cons_of_mem _ hx);show bL (e.2 :: rwH E)<=_;rw[dF];unfold tgs at ih ⊢;rw[filterMap_cons]
   by_cases c:e.2.1=.ho
   ·obtain⟨k,tk⟩:∃k,e.1=some k:=Option.ne_none_iff_exists'.mp (h e (by simp) c);rw[tk];have:bV e.2.1=1:=if_pos c;simp only[length_cons];lia
   ·have:bV e.2.1=0:=if_neg c;split<;>(try simp only[length_cons])<;>lia
 have a:=this fun e he hk=>(h.en e he).ho hk;have:=h.ln;lia
theorem Hnk.nof (h:Hnk m t m E):Nof m (rwH E):=by
 refine⟨h.m1,h.pt,fun d hd hk=>?_,h.cn,h.frs⟩;obtain⟨e,he,rfl⟩:=mem_map.mp hd;have p0:=((h.en e he).pc hk).1;have:=(h.en e he).sl.pos;unfold Mq.val;rw[Rat.div_def];exact Rat.mul_pos (by exact_mod_cast p0) (Rat.inv_pos.mpr (by exact_mod_cast (show 0 < e.2.2.2.2.2 by lia)))
end
structure iA (p:Q2):Prop where
 l:Low p
 b:Bd 41 p
 d:p.2 ∣ 27720
structure uW (p:Q2):Prop where
 l:Low p
 p0:0 < p.1
 t:Mq.B 30 p.1
 d:p.2.natAbs<=6
theorem iA.fr {p:Q2}(h:iA p):Mq.Fr 27720 (2 ^ 41) (Mq.val p):=Mq.Ds (by decide) h.l h.d h.b
theorem uW.bd {p:Q2}(h:uW p):Bd 30 p:=⟨h.t,Nat.lt_of_le_of_lt h.d (by decide)⟩
theorem uW.pos {p:Q2}(h:uW p):0 < Mq.val p:=by
 have:=h.l.pos;unfold Mq.val;rw[Rat.div_def];exact Rat.mul_pos (by exact_mod_cast h.p0) (Rat.inv_pos.mpr (by exact_mod_cast (show 0 < p.2 by lia)))
theorem uW.inv {p:Q2}{L:Int}(h:uW p)(L1:1<=L)(d:p.1 ∣ L):Mq.Fr L 6 (1 / Mq.val p):=by
 have p1:=h.l.pos;have p0:=h.p0;have:1 / Mq.val p=((p.2:Int):Rat) / ((p.1:Int):Rat):=by
  have:=Mq.qU p1;have:=Mq.qU (show 1<=p.1 by lia);unfold Mq.val;grind
 rw[this];exact Mq.Fr.of L1 (by lia) d h.d
structure HtK (m:Nat) (hs:List Q2):Prop where
 m1:1<=m
 l:hs.length=m
 h0:hs.getD 0 (0,1)=(0,1)
 ok:∀p∈hs,Low p/\Mq.Fr 27720 (2 ^ 42) (Mq.val p)
theorem Du:Mq.B 15 27720:=by show (27720:Nat) < 2 ^ 15;decide
theorem Ch {p:Q2}{M b:Nat}(l:Low p)(h:Mq.Fr 27720 M (Mq.val p))(hM:M < 2 ^ b):Bd (b+15) p/\p.2 ∣ 27720:=by
 obtain⟨a,ab,ea⟩:=Mq.Fr.get h hM Du (b:=b+15) (Nat.le_refl _);exact lB l (by decide) (Du.mono (by lia)) ab ea
section
variable {m:Nat} {hs:List Q2} {d:RD}
theorem HtK.at (h:HtK m hs){i:Nat}(hi:i < m):Low (hs.getD i (0,1))/\Mq.Fr 27720 (2 ^ 42) (Mq.val (hs.getD i (0,1))):=by
 have hl:=h.l;exact h.ok _ (mem_of_getElem? (jN (ps:=hs) (j:=i) (by lia)))
theorem HtK.fall (h:HtK m hs)(pt:cK (m:Int) d.2.1 d.2.2.1):Low (flF hs d)/\Mq.Fr 27720 (2 ^ 43) (Mq.val (flF hs d))/\Mq.val (flF hs d)=Mq.val (hs.getD d.2.1.toNat (0,1)) - Mq.val (hs.getD d.2.2.1.toNat (0,1)):=by
 obtain⟨i0,i1,j0,j1⟩:=pt;obtain⟨l1,f1⟩:=h.at (i:=d.2.1.toNat) (by lia);obtain⟨l2,f2⟩:=h.at (i:=d.2.2.1.toNat) (by lia);have v:Mq.val (flF hs d)=Mq.val (hs.getD d.2.1.toNat (0,1)) - Mq.val (hs.getD d.2.2.1.toNat (0,1)):=eV l1.pos l2.pos;refine⟨dX l1.pos l2.pos,?_,v⟩;rw[v,show ∀a b:Rat,a - b=a + -b from fun a b=>by grind];exact(f1.add f2.neg).mono (by decide)
theorem HtK.fbd (h:HtK m hs)(pt:cK (m:Int) d.2.1 d.2.2.1):Bd 60 (flF hs d):=(Ch (h.fall pt).1 (h.fall pt).2.1 (b:=44) (by decide)).1.mono (by decide)
end
abbrev Ez:=Option (Nat × Nat) × RD × Q2
abbrev prZ (E:List Ez):List Pr2:=E.map (·.2)
abbrev rwZ (E:List Ez):List RD:=E.map (·.2.1)
def skE (e:Ez):Hn:=(e.1,(e.2.1.1,e.2.1.2.1,e.2.1.2.2.1,(1,1)))
structure iZ (m:Nat) (hs:List Q2) (e:Ez):Prop where
 pt:cK (m:Int) e.2.1.2.1 e.2.1.2.2.1
 pc:e.2.1.1=.pc->uW e.2.1.2.2.2/\e.2.2=mX (flF hs e.2.1) e.2.1.2.2.2
 pu:e.2.1.1=.pu->e.2.2=e.2.1.2.2.2/\iA e.2.2
 ho:e.2.1.1=.ho->e.2.1.2.2.2=flF hs e.2.1/\iA e.2.2
structure Drz (m t J:Nat) (hs:List Q2) (E:List Ez):Prop where
 hn:Hnk m t J (E.map skE)
 en:∀e∈E,iZ m hs e
theorem uR {α β:Type}(f:α->β)(l:List α)(i:Nat)(e:α):(l.take i++e :: l.drop i).map f=(l.map f).take i++f e :: (l.map f).drop i:=by
 rw[map_append,map_cons,map_take,map_drop]
theorem Xv {α:Type}(l:List α)(i:Nat)(e:α):(l.take i++e :: l.drop i).length=l.length+1:=by
 rw[List.length_append,length_cons,length_take,length_drop];lia
section
variable {m t J:Nat} {hs:List Q2} {E:List Ez} {e:Ez}
theorem Li {k:Kd}{i j:Int}{g:Option (Nat × Nat)}(pt:cK (m:Int) i j)(ho:k=.ho->g≠none)(tg:∀a b,g=some (a,b)->k≠.pu/\1<=a/\a < m/\b < a/\((i=(rot m t a:Int)/\j=(rot m t b:Int))\/(i=(rot m t b:Int)/\j=(rot m t a:Int)))):Ro m t (g,(k,i,j,(1,1))):=
 ⟨pt,⟨show (1:Int)<=1 by decide,show gc 1 1=1 by decide⟩,⟨show (1:Nat) < 2 ^ 30 by decide,show (1:Nat) < 2 ^ 30 by decide⟩,fun _=>⟨show (0:Int) < 1 by decide,show (1:Nat) < 2 ^ 30 by decide,show (1:Nat)<=16 by decide⟩,ho,tg⟩
theorem Drz.ins (h:Drz m t J hs E)(he:iZ m hs e)(e0:e.1=none)(nh:e.2.1.1≠.ho)(i:Nat):Drz m t J hs (E.take i++e :: E.drop i):=by
 refine⟨?_,fun x hx=>?_⟩
 ·rw[uR];exact h.hn.ins (Li he.pt (fun z=>absurd z nh) (fun a b z=>by have:=e0.symm.trans z;cases this)) e0 i
 ·rcases oV hx with z | z
  ·rw[z];exact he
  ·exact h.en x z
theorem Drz.tree {j:Nat}(h:Drz m t J hs E)(he:iZ m hs e)(e0:e.1=some (J,j))(np:e.2.1.1≠.pu)(J1:1<=J)(Jm:J < m)(jJ:j < J)(ends:(e.2.1.2.1=(rot m t J:Int)/\e.2.1.2.2.1=(rot m t j:Int))\/(e.2.1.2.1=(rot m t j:Int)/\e.2.1.2.2.1=(rot m t J:Int)))(i:Nat):Drz m t (J+1) hs (E.take i++e :: E.drop i):=by
 refine⟨?_,fun x hx=>?_⟩
 ·rw[uR];refine h.hn.tree (Li he.pt (fun _ z=>by have:=e0.symm.trans z;cases this) (fun a b z=>?_)) e0 i;have:=e0.symm.trans z
  cases this
  exact⟨np,J1,Jm,jJ,ends⟩
 ·rcases oV hx with z | z
  ·rw[z];exact he
  ·exact h.en x z
def yZ (E:List Ez):List Int:=(E.filter fun e=>decide (e.2.1.1=.pc)).map (·.2.1.2.2.2.1)
def LZ (E:List Ez):Int:=27720*Mq.prB (yZ E)
theorem Gs (he:e∈E)(hk:e.2.1.1=.pc):e.2.1.2.2.2.1 ∣ Mq.prB (yZ E):=Mq.Gd (mem_map.mpr ⟨e,mem_filter.mpr ⟨he,decide_eq_true hk⟩,rfl⟩)
theorem Np (h:∀e∈E,iZ m hs e):∀a∈yZ E,1<=a/\Mq.B 30 a:=fun a ha=>by
 obtain⟨e,he,rfl⟩:=mem_map.mp ha;obtain⟨h1,h2⟩:=mem_filter.mp he;have:=((h e h1).pc (of_decide_eq_true h2)).1;have:=this.p0;exact⟨by show 1<=e.2.1.2.2.2.1;lia,((h e h1).pc (of_decide_eq_true h2)).1.t⟩
theorem pr1 (h:∀e∈E,iZ m hs e):1<=Mq.prB (yZ E):=Mq.Ey fun a ha=>(Np h a ha).1
theorem LZ1 (h:∀e∈E,iZ m hs e):1<=LZ E:=by
 have:=pr1 h;unfold LZ;lia
theorem LZB (h:∀e∈E,iZ m hs e):Mq.B (30*(yZ E).length+16) (LZ E):=
 (Du.mul (Mq.Ty fun a ha=>(Np h a ha).2)).mono (by lia)
theorem iZ.low (h:iZ m hs e)(hk:HtK m hs):Low e.2.2:=by
 cases k:e.2.1.1 with
 |pc=>
  obtain⟨z,s⟩:=h.pc k;have:=z.p0;rw[s];exact sX (hk.fall h.pt).1.pos (by lia)
 |pu=>exact(h.pu k).2.l
 |ho=>exact(h.ho k).2.l
theorem iZ.bd (h:iZ m hs e)(hk:HtK m hs):Bd 100 e.2.2:=by
 cases k:e.2.1.1 with
 |pc=>
  obtain⟨z,s⟩:=h.pc k;have:=z.p0;rw[s];exact(Gj (hk.fbd h.pt) z.bd (hk.fall h.pt).1.pos (by lia)).mono (by decide)
 |pu=>exact(h.pu k).2.b.mono (by decide)
 |ho=>exact(h.ho k).2.b.mono (by decide)
theorem iZ.sv (h:iZ m hs e)(hk:HtK m hs)(k:e.2.1.1=.pc):Mq.val e.2.2=Mq.val (flF hs e.2.1)*(1 / Mq.val e.2.1.2.2.2):=by
 obtain⟨z,s⟩:=h.pc k;have:=z.p0;rw[s,rW (hk.fall h.pt).1.pos z.l.pos (by lia),Rat.div_def,Rat.div_def,Rat.one_mul]
theorem iZ.fr (h:∀e∈E,iZ m hs e)(hk:HtK m hs)(he:e∈E):Mq.Fr (LZ E) (2 ^ 46) (Mq.val e.2.2):=by
 have o:=h e he;have p1:=pr1 h
 cases k:e.2.1.1 with
 |pc=>
  rw[o.sv hk k];exact((hk.fall o.pt).2.1.mul (by decide) p1 ((o.pc k).1.inv p1 (Gs he k))).mono (by decide)
 |pu=>exact((o.pu k).2.fr.lift (by decide) p1).mono (by decide)
 |ho=>exact((o.ho k).2.fr.lift (by decide) p1).mono (by decide)
theorem xQ {x M:Nat}{L:Int}:∀{D:List Pr2},(∀e∈D,Mq.Fr L M (Mq.val e.2))->Mq.Fr L (D.length*M) (ouR x D)
 | [],_=>Mq.Fr.zero.mono (Nat.zero_le _)
 |e :: D,h=>by
  have a:=xQ (x:=x) (D:=D) fun y hy=>h y (mem_cons_of_mem _ hy);show Mq.Fr L _ (dl e.1.2.1.toNat e.1.2.2.1.toNat x*Mq.val e.2+ouR x D);exact((Ad (h e (by simp)) _ _ _).add a).mono (by rw[length_cons,Nat.succ_mul];lia)
theorem Drz.ou (h:∀e∈E,iZ m hs e)(hk:HtK m hs)(len:E.length<=16)(x:Nat):Mq.Fr (LZ E) (2 ^ 50) (ouR x (prZ E)):=by
 refine(xQ (M:=2 ^ 46) (D:=prZ E) fun e he=>?_).mono ?_
 ·obtain⟨y,hy,rfl⟩:=mem_map.mp he;exact iZ.fr h hk hy
 ·rw[length_map]
  calc E.length*2 ^ 46<=16*2 ^ 46:=Nat.mul_le_mul_right _ len
   _<=2 ^ 50:=by decide
end
structure pL (m:Nat) (L:Int) (hs:List Q2) (e:Ez):Prop where
 pt:cK (m:Int) e.2.1.2.1 e.2.1.2.2.1
 pc:e.2.1.1=.pc->uW e.2.1.2.2.2/\27720*e.2.1.2.2.2.1 ∣ L/\e.2.2=mX (flF hs e.2.1) e.2.1.2.2.2
 pu:e.2.1.1=.pu->e.2.2=e.2.1.2.2.2/\Low e.2.2/\Mq.Fr L (2 ^ 50) (Mq.val e.2.2)
 ho:e.2.1.1=.ho->e.2.1.2.2.2=flF hs e.2.1/\iA e.2.2
def mP (n:Nat)(d:RD):Bool:=!(decide (d.2.2.2.1.natAbs < 2 ^ n) && decide (d.2.2.2.2.natAbs < 2 ^ n))
theorem yY {n:Nat}{d:RD}(h:Bd n d.2.2.2):mP n d=false:=by
 unfold mP;rw[decide_eq_true (show d.2.2.2.1.natAbs < 2 ^ n from h.a),decide_eq_true (show d.2.2.2.2.natAbs < 2 ^ n from h.b)];rfl
theorem Po {n:Nat}{d:RD}(h:mP n d=false):Bd n d.2.2.2:=by
 unfold mP at h;have:(decide (d.2.2.2.1.natAbs < 2 ^ n) && decide (d.2.2.2.2.natAbs < 2 ^ n))=true:=by
  cases c:(decide (d.2.2.2.1.natAbs < 2 ^ n) && decide (d.2.2.2.2.natAbs < 2 ^ n)) with
  |true=>rfl
  |false=>rw[c] at h;cases h
 rw[Bool.and_eq_true] at this;exact⟨show d.2.2.2.1.natAbs < 2 ^ n from of_decide_eq_true this.1,show d.2.2.2.2.natAbs < 2 ^ n from of_decide_eq_true this.2⟩
structure Bal (m t:Nat) (L:Int) (hs:List Q2) (h:Nat) (E:List Ez) (j:Nat):Prop where
 hn:Hnk m t m (E.map skE)
 en:∀e∈E,pL m L hs e
 big:(rwZ E).countP (mP 60)<=j
 nh:bL (rwZ E)=h
section
variable {m t j h:Nat} {L:Int} {hs:List Q2} {E:List Ez} {e:Ez}
theorem iZ.toB (o:∀e∈E,iZ m hs e)(he:e∈E):pL m (LZ E) hs e:=by
 have oe:=o e he;have p1:=pr1 o;refine⟨oe.pt,fun hk=>⟨(oe.pc hk).1,Int.mul_dvd_mul_left _ (Gs he hk),(oe.pc hk).2⟩,fun hk=>⟨(oe.pu hk).1,(oe.pu hk).2.l,((oe.pu hk).2.fr.lift (by decide) p1).mono (by decide)⟩,fun hk=>oe.ho hk⟩
theorem Drz.bal (d:Drz m t m hs E)(hk:HtK m hs):Bal m t (LZ E) hs (bL (rwZ E)) E 0:=by
 refine⟨d.hn,fun e he=>iZ.toB d.en he,?_,rfl⟩;rw[countP_eq_zero.mpr fun r hr=>?_]
 ·exact Nat.le_refl _
 obtain⟨e,he,rfl⟩:=mem_map.mp hr;have o:=d.en e he;have:Bd 60 e.2.1.2.2.2:=by
  cases k:e.2.1.1 with
  |pc=>exact(o.pc k).1.bd.mono (by decide)
  |pu=>rw[<- (o.pu k).1];exact(o.pu k).2.b.mono (by decide)
  |ho=>rw[(o.ho k).1];exact hk.fbd o.pt
 rw[yY this];decide
theorem Hh {α:Type}(p:α->Bool)(l:List α)(i:Nat)(x:α):(l.take i++x :: l.drop i).countP p<=l.countP p+1:=by
 have e:l.countP p=(l.take i).countP p+(l.drop i).countP p:=by rw[<- countP_append,take_append_drop]
 rw[countP_append,countP_cons,e];split<;>lia
theorem Eu (a b:List RD):bL (a++b)=bL a+bL b:=by
 unfold bL iP;rw[filter_append,List.length_append]
theorem Rm (l:List RD)(i:Nat){d:RD}(hd:d.1≠.ho):bL (l.take i++d :: l.drop i)=bL l:=by
 have e:bL l=bL (l.take i)+bL (l.drop i):=by rw[<- Eu,take_append_drop]
 rw[Eu,dF,e];unfold bV;rw[if_neg hd];lia
theorem Bal.ins (b:Bal m t L hs h E j)(he:pL m L hs e)(e0:e.1=none)(hk:e.2.1.1=.pu)(i:Nat):Bal m t L hs h (E.take i++e :: E.drop i) (j+1):=by
 refine⟨?_,fun x hx=>?_,?_,?_⟩
 ·rw[uR];exact b.hn.ins (Li he.pt (fun z=>by rw[hk] at z;cases z) (fun a b z=>by have:=e0.symm.trans z;cases this)) e0 i
 ·rcases oV hx with z | z
  ·rw[z];exact he
  ·exact b.en x z
 ·show (map (fun e:Ez=>e.2.1) (E.take i++e :: E.drop i)).countP (mP 60)<=j+1;rw[uR];exact Nat.le_trans (Hh (mP 60) (rwZ E) i e.2.1) (Nat.succ_le_succ b.big)
 ·show bL (map (fun e:Ez=>e.2.1) (E.take i++e :: E.drop i))=h;rw[uR,Rm _ _ (by rw[hk];exact fun z=>by cases z)];exact b.nh
theorem Bal.up {j':Nat}(b:Bal m t L hs h E j)(hj:j<=j'):Bal m t L hs h E j':=⟨b.hn,b.en,Nat.le_trans b.big hj,b.nh⟩
theorem Bal.nof (b:Bal m t L hs h E j):Nof m (rwZ E):=by
 refine Nof.sk (ds:=rwH (E.map skE)) ?_ b.hn.nof fun d hd hk=>?_
 ·rw[map_map,map_map,map_map];rfl
 ·obtain⟨e,he,rfl⟩:=mem_map.mp hd;exact((b.en e he).pc hk).1.pos
def iE (hs:List Q2)(E:List Ez):List Q2:=hs.drop 1++hdF (prZ E)
theorem Jt (hk:HtK m hs){p:Nat}(hp:p < m):uP (iE hs E) p=Mq.val (hs.getD p (0,1)):=by
 unfold uP iE
 by_cases c:p=0
 ·rw[if_pos c,c,hk.h0,kW]
 ·rw[if_neg c,getD_eq_getElem?_getD,getElem?_append_left (by rw[length_drop,hk.l];lia),getElem?_drop,show 1+(p - 1)=p by lia,<- getD_eq_getElem?_getD]
theorem Xd (hk:HtK m hs)(t:Nat):uP (iE hs E) (m+t)=Mq.val ((hdF (prZ E)).getD t Mq.z0):=by
 have:=hk.m1;unfold uP iE;rw[if_neg (by lia),getD_eq_getElem?_getD,getElem?_append_right (by rw[length_drop,hk.l];lia),length_drop,hk.l,show m+t - 1 - (m - 1)=t by lia,<- getD_eq_getElem?_getD]
theorem pL.fall (o:pL m L hs e)(hk:HtK m hs):Mq.val (flF hs e.2.1)=uP (iE hs E) e.2.1.2.1.toNat - uP (iE hs E) e.2.1.2.2.1.toNat:=by
 obtain⟨a,b,c,d⟩:=o.pt;rw[(hk.fall o.pt).2.2,Jt hk (by lia),Jt hk (by lia)]
theorem pL.sv (o:pL m L hs e)(hk:HtK m hs)(k:e.2.1.1=.pc):Mq.val e.2.2=Mq.val (flF hs e.2.1)*(1 / Mq.val e.2.1.2.2.2):=by
 obtain⟨z,_,s⟩:=o.pc k;have:=z.p0;rw[s,rW (hk.fall o.pt).1.pos z.l.pos (by lia),Rat.div_def,Rat.div_def,Rat.one_mul]
theorem Bal.fwb (b:Bal m t L hs h E j)(hk:HtK m hs):∀e∈prZ E,FwB (uP (iE hs E)) e:=fun e he=>by
 obtain⟨x,hx,rfl⟩:=mem_map.mp he;have o:=b.en x hx;refine⟨fun k=>?_,fun k=>by rw[(o.pu k).1],fun k=>by rw[(o.ho k).1];exact o.fall hk⟩;rw[o.sv hk k,o.fall hk (E:=E)]
theorem Bal.fws (b:Bal m t L hs h E j)(hk:HtK m hs):Fws (uP (iE hs E)) m (prZ E):=Cy _ _ (b.fwb hk) fun t _=>Xd hk t
theorem Fj (E:List Ez):(prZ E).map (·.1)=rwZ E:=by rw[map_map];rfl
theorem Bal.sv (b:Bal m t L hs h E j)(hk:HtK m hs)(bal:∀x,1<=x->x < m->ouR x (prZ E)=0):Sv m (rwZ E) (eqR m (rwZ E)) (uP (iE hs E)):=by
 have m1:=hk.m1;have o:=b.nof;refine⟨if_pos rfl,fun i hi=>?_⟩;have F:=b.fws hk;rw[<- Fj] at hi o ⊢;have e:∀j,j < wd m ((prZ E).map (·.1))->eqM m ((prZ E).map (·.1)) (i+1) (j+1)*uP (iE hs E) (j+1)=uP (iE hs E) (j+1)*eqM m ((prZ E).map (·.1)) (j+1) (i+1):=fun j _=>by
  rw[rT,Rat.mul_comm]
 rw[aP e,Bw (m:=m) (u:=uP (iE hs E)) (if_pos rfl) (by show m<=m - 1+bL ((prZ E).map (·.1))+1;lia) (i+1) _ m o.pt m1 (by show m+bL ((prZ E).map (·.1))<=m - 1+bL ((prZ E).map (·.1))+1;lia)]
 by_cases c:i+1 < m
 ·have a:=Uo (m:=m) (u:=uP (iE hs E)) c (prZ E) m F (Nat.le_refl _);rw[bal _ (by lia) c] at a;rw[Gm _ _ c];grind
 ·rw[Dy (m:=m) _ _ o.pt (by lia),Ts (m:=m) (u:=uP (iE hs E)) (by lia) (prZ E) m F fun e he=>o.pt e.1 (mem_map.mpr ⟨e,he,rfl⟩)];grind
theorem Rg (hk:HtK m hs):(iE hs E).length=wd m (rwZ E):=by
 unfold iE;rw[List.length_append,length_drop,hk.l,Et,Fj]
theorem Bal.low (b:Bal m t L hs h E j)(hk:HtK m hs):iW (iE hs E):=fun p hp=>by
 rcases mem_append.mp hp with z | z
 ·exact(hk.ok p (mem_of_mem_drop z)).1
 ·obtain⟨e,he,k,rfl⟩:=yC z;obtain⟨x,hx,rfl⟩:=mem_map.mp he;exact((b.en x hx).ho k).2.l
theorem Ux (hk:HtK m hs):lvS m (iE hs E)=hs:=by
 have m1:=hk.m1;have lh:=hk.l;unfold lvS iE;rw[take_append_of_le_length (by rw[length_drop];lia),take_of_length_le (by rw[length_drop];lia)]
 cases hh:hs with
 |nil=>rw[hh] at lh;simp at lh;lia
 |cons a r=>
  have:=hk.h0;rw[hh] at this;have:a=(0,1):=this;rw[this];rfl
theorem Uy (hk:HtK m hs):(iE hs E).drop (m - 1)=hdF (prZ E):=by
 have lh:=hk.l;unfold iE;rw[drop_append_of_le_length (by rw[length_drop];lia),drop_of_length_le (by rw[length_drop];lia),nil_append]
theorem Bal.flows (b:Bal m t L hs h E j)(hk:HtK m hs):pK (lvS m (iE hs E)) ((iE hs E).drop (m - 1)) 0 (rwZ E)=E.map (·.2.2):=by
 rw[Ux hk,Uy hk,<- Fj];have:=Ea (lv:=hs) (hs:=hdF (prZ E)) (prZ E) 0 (fun e he=>by
  obtain⟨x,hx,rfl⟩:=mem_map.mp he;exact⟨fun k=>((b.en x hx).pc k).2.2,fun k=>((b.en x hx).pu k).1⟩) (fun j _=>by rw[Nat.zero_add])
 rw[this,map_map];rfl
end
section
variable {m bl:Nat} {L:Int} {ds:List RD}
theorem Ug {i:Nat}{d:RD}(h:ds[i]?=some d):ds.getD i (.pc,0,0,(0,1))=d:=by
 rw[getD_eq_getElem?_getD,h];rfl
end
def vQ (ls:List Q2)(e:Pr2):List Q2:=
 (ls.set e.1.2.1.toNat (Mq.plus (ls.getD e.1.2.1.toNat (0,1)) e.2)).set e.1.2.2.1.toNat (Mq.minus ((ls.set e.1.2.1.toNat (Mq.plus (ls.getD e.1.2.1.toNat (0,1)) e.2)).getD e.1.2.2.1.toNat (0,1)) e.2)
def cX (m:Nat)(D:List Pr2):List Q2:=D.foldl vQ (replicate m (0,1))
theorem kI (m:Nat)(D:List Pr2)(e:Pr2):cX m (D++[e])=vQ (cX m D) e:=by unfold cX;rw[foldl_append];rfl
structure mQ (m n:Nat) (acc:Nat->Rat) (ls:List Q2):Prop where
 l:ls.length=m
 o:∀p,p < m->Low (ls.getD p (0,1))/\Bd n (ls.getD p (0,1))/\Mq.val (ls.getD p (0,1))=acc p
theorem jR {ls:List Q2}{s p:Nat}{v:Q2}(hs:s < ls.length):(ls.set s v).getD p (0,1)=if s=p then v else ls.getD p (0,1):=by
 rw[getD_eq_getElem?_getD,getElem?_set]
 by_cases c:s=p
 ·rw[if_pos c,if_pos hs,if_pos c];rfl
 ·rw[if_neg c,if_neg c,getD_eq_getElem?_getD]
theorem mQ.one {m n k s:Nat}{acc:Nat->Rat}{ls:List Q2}{v:Q2}{x:Rat}(h:mQ m n acc ls)(hs:s < m)(lv:Low v)(bv:Bd (n+k) v)(vv:Mq.val v=acc s+x):mQ m (n+k) (fun p=>acc p+(if s=p then x else 0)) (ls.set s v):=by
 refine⟨by rw[length_set];exact h.l,fun p hp=>?_⟩;rw[jR (by rw[h.l];exact hs)]
 by_cases c:s=p
 ·subst c;rw[if_pos rfl,if_pos rfl];exact⟨lv,bv,vv⟩
 ·rw[if_neg c,if_neg c];obtain⟨a,b,d⟩:=h.o p hp;exact⟨a,b.mono (by lia),by rw[d];grind⟩
theorem mQ.step {m n:Nat}{acc:Nat->Rat}{ls:List Q2}{e:Pr2}(h:mQ m n acc ls)(pt:cK (m:Int) e.1.2.1 e.1.2.2.1)(lo:Low e.2)(bd:Bd 100 e.2):mQ m (n+101) (fun p=>acc p+(if e.1.2.1.toNat=p then Mq.val e.2 else 0)) (ls.set e.1.2.1.toNat (Mq.plus (ls.getD e.1.2.1.toNat (0,1)) e.2))/\mQ m (n+202) (fun p=>acc p+dl e.1.2.1.toNat e.1.2.2.1.toNat p*Mq.val e.2) (vQ ls e):=by
 obtain⟨i0,i1,j0,j1⟩:=pt;obtain⟨a,b,c⟩:=h.o e.1.2.1.toNat (by lia);have h1:=h.one (k:=101) (s:=e.1.2.1.toNat) (v:=Mq.plus (ls.getD e.1.2.1.toNat (0,1)) e.2) (x:=Mq.val e.2) (by lia) (mB a.pos lo.pos) ((zG b bd a.pos lo.pos).mono (by lia)) (by rw[jT a.pos lo.pos,c]);refine⟨h1,?_⟩;obtain⟨a',b',c'⟩:=h1.o e.1.2.2.1.toNat (by lia);have h2:=h1.one (k:=101) (s:=e.1.2.2.1.toNat) (v:=Mq.minus ((ls.set e.1.2.1.toNat (Mq.plus (ls.getD e.1.2.1.toNat (0,1)) e.2)).getD e.1.2.2.1.toNat (0,1)) e.2) (x:=- Mq.val e.2) (by lia) (dX a'.pos lo.pos) ((sV b' bd a'.pos lo.pos).mono (by lia)) (by rw[eV a'.pos lo.pos,c'];grind);refine⟨h2.l,fun p hp=>?_⟩;obtain⟨x,y,z⟩:=h2.o p hp;refine⟨x,y.mono (by lia),?_⟩;refine Eq.trans z ?_;unfold dl
 by_cases c1:e.1.2.1.toNat=p<;>by_cases c2:e.1.2.2.1.toNat=p<;>simp only[c1,c2,if_true,if_false]<;>grind
theorem mQ.start (m:Nat):mQ m 1 (fun _=>0) (replicate m (0,1)):=by
 refine⟨length_replicate,fun p hp=>?_⟩;rw[getD_eq_getElem?_getD,getElem?_replicate,if_pos hp];exact⟨⟨by decide,by decide⟩,⟨show (0:Nat) < 2 ^ 1 by decide,show (1:Nat) < 2 ^ 1 by decide⟩,kW⟩
theorem Ab (p:Nat)(D:List Pr2)(e:Pr2):ouR p (D++[e])=ouR p D+dl e.1.2.1.toNat e.1.2.2.1.toNat p*Mq.val e.2:=by
 rw[rM];show ouR p D+(dl e.1.2.1.toNat e.1.2.2.1.toNat p*Mq.val e.2+0)=_;grind
theorem mQ.congr {m n n':Nat}{a b:Nat->Rat}{ls:List Q2}(h:mQ m n a ls)(e:∀p,a p=b p)(le:n<=n'):mQ m n' b ls:=⟨h.l,fun p hp=>let ⟨x,y,z⟩:=h.o p hp;⟨x,y.mono le,by rw[z,e]⟩⟩
theorem xH {m:Nat}{D:List Pr2}(h:∀e∈D,cK (m:Int) e.1.2.1 e.1.2.2.1/\Low e.2/\Bd 100 e.2):∀i,i<=D.length->mQ m (1+202*i) (fun p=>ouR p (D.take i)) (cX m (D.take i))
 |0,_=>(mQ.start m).congr (fun _=>rfl) (Nat.le_refl _)
 |i+1,hi=>by
  have ih:=xH h i (by lia);have hd:D[i]?=some D[i]:=getElem?_eq_getElem (by lia);obtain⟨a,b,c⟩:=h D[i] (getElem_mem _);rw[take_add_one,hd];show mQ m _ (fun p=>ouR p (D.take i++[D[i]])) (cX m (D.take i++[D[i]]));rw[kI];exact(ih.step a b c).2.congr (fun p=>(Ab p _ _).symm) (by lia)
theorem Sd (p:Nat)(D:List Pr2)(i:Nat)(e:Pr2):ouR p (D.take i++e :: D.drop i)=ouR p D+dl e.1.2.1.toNat e.1.2.2.1.toNat p*Mq.val e.2:=by
 have a:ouR p D=ouR p (D.take i)+ouR p (D.drop i):=by rw[<- rM,take_append_drop]
 rw[rM,a];show ouR p (D.take i)+(dl e.1.2.1.toNat e.1.2.2.1.toNat p*Mq.val e.2+ouR p (D.drop i))=_;grind
section
variable {m t j h bl:Nat} {L:Int} {hs:List Q2} {E:List Ez} {e:Ez}
theorem pL.slow (o:pL m L hs e)(hk:HtK m hs):Low e.2.2:=by
 cases k:e.2.1.1 with
 |pc=>
  obtain⟨z,_,s⟩:=o.pc k;have:=z.p0;rw[s];exact sX (hk.fall o.pt).1.pos (by lia)
 |pu=>exact(o.pu k).2.1
 |ho=>exact(o.ho k).2.l
end
structure Fw (L:Int) (M:Nat) (p:Q2):Prop where
 l:Low p
 f:Mq.Fr L M (Mq.val p)
section
variable {L:Int} {M N:Nat} {p q:Q2}
theorem Fw.mono (h:Fw L M p)(le:M<=N):Fw L N p:=⟨h.l,h.f.mono le⟩
theorem Fw.zero:Fw L 0 (0,1):=⟨⟨by decide,by decide⟩,by rw[kW];exact Mq.Fr.zero⟩
theorem Fw.plus (h:Fw L M p)(g:Fw L N q):Fw L (M+N) (Mq.plus p q):=⟨mB h.l.pos g.l.pos,by rw[jT h.l.pos g.l.pos];exact h.f.add g.f⟩
theorem Fw.minus (h:Fw L M p)(g:Fw L N q):Fw L (M+N) (Mq.minus p q):=⟨dX h.l.pos g.l.pos,by rw[eV h.l.pos g.l.pos,Rat.sub_eq_add_neg];exact h.f.add g.f.neg⟩
theorem Fw.bd {n m:Nat}(h:Fw L M p)(L1:1<=L)(LB:Mq.B n L)(hM:M < 2 ^ m):Bd (m+n) p:=by
 obtain⟨a,ab,ea⟩:=Mq.Fr.get h.f hM LB (b:=m+n) (Nat.le_refl _);exact(lB h.l L1 (LB.mono (by lia)) ab ea).1
end
theorem oO {m:Nat}{D:List Pr2}(h:∀e∈D,cK (m:Int) e.1.2.1 e.1.2.2.1/\Low e.2):(cX m D).length=m/\∀p,p < m->Low ((cX m D).getD p (0,1))/\Mq.val ((cX m D).getD p (0,1))=ouR p D:=by
 have:∀i,i<=D.length->(cX m (D.take i)).length=m/\∀p,p < m->Low ((cX m (D.take i)).getD p (0,1))/\Mq.val ((cX m (D.take i)).getD p (0,1))=ouR p (D.take i):=by
  intro i
  induction i with
  |zero=>
   intro _;have s:=mQ.start m;exact⟨s.l,fun p hp=>⟨(s.o p hp).1,(s.o p hp).2.2⟩⟩
  |succ i ih=>
   intro hi;obtain⟨a,c⟩:=ih (by lia);have hd:D[i]?=some D[i]:=getElem?_eq_getElem (by lia);obtain⟨⟨i0,i1,j0,j1⟩,lo⟩:=h D[i] (mem_of_getElem? hd);rw[take_add_one,hd];show (cX m (D.take i++[D[i]])).length=m/\∀p,p < m->Low ((cX m (D.take i++[D[i]])).getD p (0,1))/\Mq.val ((cX m (D.take i++[D[i]])).getD p (0,1))=ouR p (D.take i++[D[i]]);rw[kI];generalize cX m (D.take i)=ls at a c;generalize D[i]=e at *
   unfold vQ;refine⟨by rw[length_set,length_set];exact a,fun p hp=>?_⟩;rw[Ab];obtain⟨c1,c2⟩:=c p hp;obtain⟨u1,u2⟩:=c e.1.2.1.toNat (by lia);obtain⟨v1,v2⟩:=c e.1.2.2.1.toNat (by lia);rw[jR (by rw[length_set];lia),jR (by lia),jR (by lia)];unfold dl;have pl:=mB u1.pos lo.pos;have pv:=jT u1.pos lo.pos
   by_cases k:e.1.2.2.1.toNat=p
   ·subst k;rw[if_pos rfl,if_pos rfl]
    by_cases k':e.1.2.1.toNat=e.1.2.2.1.toNat
    ·rw[if_pos k',if_pos k'];exact⟨dX pl.pos lo.pos,by rw[eV pl.pos lo.pos,pv,u2,k'];grind⟩
    ·rw[if_neg k',if_neg k'];exact⟨dX v1.pos lo.pos,by rw[eV v1.pos lo.pos,v2];grind⟩
   ·rw[if_neg k,if_neg k]
    by_cases k':e.1.2.1.toNat=p
    ·subst k';rw[if_pos rfl,if_pos rfl];exact⟨pl,by rw[pv,u2];grind⟩
    ·rw[if_neg k',if_neg k'];exact⟨c1,by rw[c2];grind⟩
 have:=this D.length (Nat.le_refl _)
 rwa [take_length] at this
def qc6 (acc:List Int)(x:Int):List Int:=if x∈acc then acc else acc++[x]
def ddl (ns:List Int):List Int:=ns.foldl qc6 []
theorem uB (ns:List Int)(x:Int):ddl (ns++[x])=if x∈ddl ns then ddl ns else ddl ns++[x]:=by
 unfold ddl;rw[foldl_append];rfl
theorem An {P:List Int->Prop}(h0:P [])(h1:∀l x,P l->P (l++[x]))(l:List Int):P l:=by
 have:∀n (l:List Int),l.length=n->P l:=by
  intro n
  induction n with
  |zero=>intro l h;rw[length_eq_zero_iff.mp h];exact h0
  |succ n ih=>
   intro l h;have hn:l≠[]:=by intro z;rw[z] at h;cases h
   rw[<- dropLast_concat_getLast hn];exact h1 _ _ (ih _ (by rw[length_dropLast,h];rfl))
 exact this _ l rfl
theorem pD (ns:List Int):∀x,x∈ddl ns↔x∈ns:=by
 refine An (P:=fun ns=>∀x,x∈ddl ns↔x∈ns) (fun x=>Iff.rfl) (fun l y ih x=>?_) ns;rw[uB,mem_append];split
 ·rename_i h
  rw[ih];refine⟨.inl,fun z=>z.elim id fun z=>?_⟩;have:x=y:=by simpa using z
  rw[this];exact(ih y).mp h
 ·rw[mem_append,ih]
theorem mF (ns:List Int):(ddl ns).Nodup:=by
 refine An (P:=fun ns=>(ddl ns).Nodup) nodup_nil (fun l y ih=>?_) ns;rw[uB];split
 ·exact ih
 ·rename_i h
  refine nodup_append.mpr ⟨ih,by simp,fun a ha b hb z=>?_⟩;have:b=y:=by simpa using hb
  exact h (by rw[<- this,<- z];exact ha)
theorem Xy {M:List Int}{a b:Nat}(ha:a < M.length)(hb:b < M.length)(h:M.getD a 0≠M.getD b 0):(ddl (jn M a b)).length+1=(ddl M).length:=by
 have gi:∀{c:Nat},c < M.length->M.getD c 0∈M:=fun {c} h=>by
  rw[getD_eq_getElem?_getD,getElem?_eq_getElem h];exact getElem_mem h
 have ma:=gi ha;have mb:=gi hb;have hp:(ddl (jn M a b)).Perm ((ddl M).erase (M.getD b 0)):=by
  refine(perm_ext_iff_of_nodup (mF _) ((mF M).erase _)).mpr fun x=>?_;rw[pD,(mF M).mem_erase_iff,pD];unfold jn;rw[mem_map];constructor
  ·rintro ⟨y,hy,e⟩
   by_cases c:y=M.getD b 0
   ·rw[if_pos c] at e;rw[<- e];exact⟨h,ma⟩
   ·rw[if_neg c] at e;rw[<- e];exact⟨c,hy⟩
  ·rintro ⟨h1,h2⟩;exact⟨x,h2,by rw[if_neg h1]⟩
 have:=hp.length_eq;have mem:M.getD b 0∈ddl M:=(pD M _).mpr mb;rw[length_erase_of_mem mem] at this;have:=length_pos_of_mem mem;lia
theorem Ko (m:Nat):(ddl (yX m)).length=m:=by
 have h:∀n,ddl ((List.range n).map fun (i:Nat)=>(i:Int))=(List.range n).map fun (i:Nat)=>(i:Int):=fun n=>by
  induction n with
  |zero=>rfl
  |succ n ih=>
   rw[range_succ,map_append,map_cons,map_nil,uB,ih,if_neg];intro z;obtain⟨i,hi,e⟩:=mem_map.mp z;have:=mem_range.mp hi;lia
 unfold yX;rw[h,length_map,length_range]
abbrev jnW:Kd->Bool:=fun k=>decide (k≠.pu)
structure RK (sk:List Sk) (m n:Nat) (s:RS):Prop where
 kb:∀e∈s.1,∃k,sk[e.1]?=some (k,e.2.1,e.2.2)/\k≠.pu
 kc:∀c∈s.2,∃k u v,sk[c.1]?=some (k,u,v)/\k≠.pu
 nc:∀c∈s.2,c.1∉s.1.map (·.1)
 nd:(s.2.map (·.1)).Nodup
 ct:s.1.length+s.2.length=((sk.take n).filter fun d=>jnW d.1).length
 dd:(ddl (mks m (cV s.1))).length+s.1.length=m
 al:∀i k u v,i < n->sk[i]?=some (k,u,v)->k≠.pu->mk m (cV s.1) u=mk m (cV s.1) v
theorem nV (es:List Br)(n u v:Nat):cV (es++[(n,u,v)])=cV es++[(.pc,(u:Int),(v:Int),(0,1))]:=by unfold cV;rw[map_append];rfl
theorem Lk {sk:List Sk}{m:Nat}(hm:∀d∈sk,d.2.1 < m/\d.2.2 < m)(m20:m<=20):∀n,n<=sk.length->RK sk m n (cP jnW sk n)
 |0,_=>⟨fun e h=>(by cases h),fun c h=>(by cases h),fun c h=>(by cases h),nodup_nil,rfl,by show (ddl (yX m)).length+0=m;rw[Ko];rfl,fun i k u v h=>(by lia)⟩
 |n+1,hn=>by
  have ih:=Lk hm m20 n (by lia);have ri:=jM (W:=jnW) hm n (by lia);have hd:sk[n]?=some sk[n]:=getElem?_eq_getElem (by lia);have hdm:=hm _ (mem_of_getElem? hd);have tk:sk.take (n+1)=sk.take n++[sk[n]]:=by rw[take_add_one,hd];rfl
  rw[gU hd];generalize sk[n]=d at hd hdm tk;obtain⟨k,u,v⟩:=d;generalize cP jnW sk n=s at ih ri;have ctn:((sk.take (n+1)).filter fun d=>jnW d.1).length=((sk.take n).filter fun d=>jnW d.1).length+if jnW k then 1 else 0:=by
   rw[tk,filter_append,List.length_append];congr 1
   by_cases hj:jnW k=true
   ·rw[filter_cons_of_pos (by exact hj),if_pos hj];rfl
   ·rw[filter_cons_of_neg (by exact hj),if_neg hj];rfl
  have iff:=Fv (b:=v) (e:=u) ri.pt m20 hdm.2 hdm.1;unfold iI
  by_cases hw:jnW k=true
  ·have hk:k≠.pu:=of_decide_eq_true hw;rw[if_pos hw] at ctn ⊢
   cases hy:qW s.1 v u with
   |none=>
    show RK sk m (n+1) (s.1++[(n,u,v)],s.2);have ne:mk m (cV s.1) u≠mk m (cV s.1) v:=fun z=>by have:=iff.mpr z;rw[hy] at this;cases this
    have mono:∀{a b:Nat},a < m->b < m->mk m (cV s.1) a=mk m (cV s.1) b->mk m (cV (s.1++[(n,u,v)])) a=mk m (cV (s.1++[(n,u,v)])) b:=fun {a b} ha hb e=>by
     rw[nV,jB (show Kd.pc≠Kd.pu by decide) ha,jB (show Kd.pc≠Kd.pu by decide) hb,e]
    refine⟨fun e he=>?_,ih.kc,fun c hc z=>?_,ih.nd,?_,?_,fun i k' u' v' hi h1 h2=>?_⟩
    ·rcases mem_append.mp he with z | z
     ·exact ih.kb e z
     ·have:e=(n,u,v):=by simpa using z
      rw[this];exact⟨k,hd,hk⟩
    ·rw[map_append] at z;rcases mem_append.mp z with z | z
     ·exact ih.nc c hc z
     ·have:c.1=n:=by simpa using z
      have:=(ri.r c hc).1;lia
    ·have:=ih.ct;rw[ctn,List.length_append];show s.1.length+1+s.2.length=_;lia
    ·have a:=ih.dd;have:mks m (cV (s.1++[(n,u,v)]))=jn (mks m (cV s.1)) u v:=by
      rw[nV,lP];rfl
     show (ddl (mks m (cV (s.1++[(n,u,v)])))).length+(s.1++[(n,u,v)]).length=m;rw[this,List.length_append];have:=Xy (M:=mks m (cV s.1)) (a:=u) (b:=v) (by rw[iM];exact hdm.1) (by rw[iM];exact hdm.2) ne;show _+(s.1.length+1)=m;lia
    ·by_cases c:i=n
     ·subst c;rw[hd] at h1
      cases h1
      show mk m (cV (s.1++[(i,u,v)])) u=mk m (cV (s.1++[(i,u,v)])) v;rw[nV,jB (show Kd.pc≠Kd.pu by decide) hdm.1,jB (show Kd.pc≠Kd.pu by decide) hdm.2];simp only[Int.toNat_natCast,if_pos];split<;>rfl
     ·have h:=hm _ (mem_of_getElem? h1);exact mono h.1 h.2 (ih.al i k' u' v' (by lia) h1 h2)
   |some st=>
    show RK sk m (n+1) (s.1,s.2++[(n,(n,1) :: st)]);refine⟨ih.kb,fun c hc=>?_,fun c hc=>?_,?_,?_,ih.dd,fun i k' u' v' hi h1 h2=>?_⟩
    ·rcases mem_append.mp hc with z | z
     ·exact ih.kc c z
     ·have:c=(n,(n,1) :: st):=by simpa using z
      rw[this];exact⟨k,u,v,hd,hk⟩
    ·rcases mem_append.mp hc with z | z
     ·exact ih.nc c z
     ·have:c=(n,(n,1) :: st):=by simpa using z
      rw[this];intro y;obtain⟨e,he,e1⟩:=mem_map.mp y;have:=ri.lt e he;have:e.1=n:=e1;lia
    ·show ((s.2++[(n,(n,1) :: st)]).map (·.1)).Nodup;rw[map_append,nodup_append];refine⟨ih.nd,by simp,fun a ha b hb=>?_⟩;obtain⟨c,hc,rfl⟩:=mem_map.mp ha;have:=(ri.r c hc).1;have:b=n:=by simpa using hb
     lia
    ·have:=ih.ct;rw[ctn];show s.1.length+(s.2++[(n,(n,1) :: st)]).length=_;rw[List.length_append];show s.1.length+(s.2.length+1)=_;lia
    ·by_cases c:i=n
     ·subst c;rw[hd] at h1
      cases h1
      exact iff.mp (by rw[hy];rfl)
     ·exact ih.al i k' u' v' (by lia) h1 h2
  ·rw[if_neg hw] at ctn ⊢;refine⟨ih.kb,ih.kc,ih.nc,ih.nd,by have:=ih.ct;lia,ih.dd,fun i k' u' v' hi h1 h2=>?_⟩
   by_cases c:i=n
   ·subst c;rw[hd] at h1
    cases h1
    exact absurd (decide_eq_true h2) hw
   ·exact ih.al i k' u' v' (by lia) h1 h2
theorem Ee {sk:List Sk}{m:Nat}(hm:∀d∈sk,d.2.1 < m/\d.2.2 < m)(m1:1<=m)(m20:m<=20){ds:List RD}(cn:∀p,p < m->Cn ds 0 p)(hd:∀d∈ds,d.1≠.pu->∃(i:Nat) (k:Kd),sk[i]?=some (k,d.2.1.toNat,d.2.2.1.toNat)/\k≠.pu):(cP jnW sk sk.length).2.length+m=(sk.filter fun d=>jnW d.1).length+1:=by
 have rk:=Lk hm m20 sk.length (Nat.le_refl _);generalize cP jnW sk sk.length=s at rk;have same:∀p,p < m->mk m (cV s.1) 0=mk m (cV s.1) p:=fun p hp=>
  Cn.ind (R:=fun p q=>mk m (cV s.1) p=mk m (cV s.1) q) (fun _=>rfl) (fun _ _=>Eq.symm) (fun _ _ _=>Eq.trans) (fun d h k=>by
   obtain⟨i,k',h1,h2⟩:=hd d h k;exact rk.al i k' _ _ (List.getElem?_eq_some_iff.mp h1).1 h1 h2) (cn p hp)
 have one:(ddl (mks m (cV s.1))).length=1:=by
  have al:∀x∈ddl (mks m (cV s.1)),x=mk m (cV s.1) 0:=fun x hx=>by
   obtain⟨i,hi,rfl⟩:=getElem_of_mem ((pD _ _).mp hx);rw[same i (by rw[iM] at hi;exact hi)];unfold mk;rw[getD_eq_getElem?_getD,getElem?_eq_getElem hi];rfl
  have nd:=mF (mks m (cV s.1));have ne:mk m (cV s.1) 0∈ddl (mks m (cV s.1)):=(pD _ _).mpr (by
   unfold mk;rw[getD_eq_getElem?_getD,getElem?_eq_getElem (by rw[iM];lia)];exact getElem_mem _)
  generalize ddl (mks m (cV s.1))=l at al nd ne
  match l,al,nd,ne with
  | [],_,_,h=>cases h
  | [_],_,_,_=>rfl
  |a :: b :: r,al,nd,_=>
   have e1:=al a (by simp);have e2:=al b (by simp);rw[e1,e2] at nd;simp at nd
 have a:=rk.dd;have c:=rk.ct;rw[take_length] at c;lia
abbrev Te:=Stp × Q2
def ldS (o:List Q2)(e:Te):List Q2:=o.set e.1.1 (Mq.plus (o.getD e.1.1 (0,1)) (kX (e.1.2,1) e.2))
def ldF (o:List Q2)(T:List Te):List Q2:=T.foldl ldS o
theorem Ex (o:List Q2)(T U:List Te):ldF o (T++U)=ldF (ldF o T) U:=foldl_append
def tS (i:Nat):List Te->Rat
 | []=>0
 |e :: r=>(if e.1.1=i then ((e.1.2:Int):Rat)*Mq.val e.2 else 0)+tS i r
def dlk (ds:List RD)(i p:Nat):Rat:=match ds[i]? with
 |some d=>dl d.2.1.toNat d.2.2.1.toNat p
 |none=>0
def dS (ds:List RD)(p:Nat):List Te->Rat
 | []=>0
 |e :: r=>dlk ds e.1.1 p*(((e.1.2:Int):Rat)*Mq.val e.2)+dS ds p r
structure StO (n:Nat) (L:Int) (A:Nat) (e:Te):Prop where
 i:e.1.1 < n
 w:e.1.2=1\/e.1.2=-1
 f:Fw L A e.2
section
variable {L:Int} {N A n:Nat} {o:List Q2} {e:Te} {T:List Te} {ds:List RD}
theorem Pc (i:Nat)(U:List Te):∀T:List Te,tS i (T++U)=tS i T+tS i U
 | []=>by show tS i U=0+tS i U;grind
 |e :: r=>by show _+tS i (r++U)=_+tS i r+tS i U;rw[Pc i U r];grind
theorem Kj (p:Nat)(U:List Te):∀T:List Te,dS ds p (T++U)=dS ds p T+dS ds p U
 | []=>by show dS ds p U=0+dS ds p U;grind
 |e :: r=>by show _+dS ds p (r++U)=_+dS ds p r+dS ds p U;rw[Kj p U r];grind
theorem StO.t (h:StO n L A e):Fw L A (kX (e.1.2,1) e.2)/\Mq.val (kX (e.1.2,1) e.2)=((e.1.2:Int):Rat)*Mq.val e.2:=by
 have one:1<=((e.1.2,1):Q2).2:=Int.le_refl 1;have v:Mq.val (kX (e.1.2,1) e.2)=((e.1.2:Int):Rat)*Mq.val e.2:=by
  rw[Mq.Jg one h.f.l.pos];unfold Mq.val;grind
 refine⟨⟨Mq.Ih one h.f.l.pos,?_⟩,v⟩;rw[v];rcases h.w with z | z
 ·rw[z,show (((1:Int):Int):Rat)*Mq.val e.2=Mq.val e.2 by grind];exact h.f.f
 ·rw[z,show (((-1:Int):Int):Rat)*Mq.val e.2=- Mq.val e.2 by grind];exact h.f.f.neg
theorem Pn (h:∀p∈o,Fw L N p){i:Nat}(hi:i < o.length):Fw L N (o.getD i (0,1)):=h _ (by
 rw[getD_eq_getElem?_getD,getElem?_eq_getElem hi];exact getElem_mem hi)
theorem No (h:∀p∈o,Fw L N p)(he:StO o.length L A e):(ldS o e).length=o.length/\(∀p∈ldS o e,Fw L (N+A) p)/\Mq.val (Mq.plus (o.getD e.1.1 (0,1)) (kX (e.1.2,1) e.2))=Mq.val (o.getD e.1.1 (0,1))+((e.1.2:Int):Rat)*Mq.val e.2:=by
 obtain⟨t,v⟩:=he.t;have g:=Pn h he.i;refine⟨length_set,fun p hp=>?_,by rw[jT g.l.pos t.l.pos,v]⟩;rcases mem_or_eq_of_mem_set hp with z | z
 ·exact(h p z).mono (by lia)
 ·rw[z];exact g.plus t
theorem Ep:∀(T:List Te) {o:List Q2} {N:Nat},(∀p∈o,Fw L N p)->(∀e∈T,StO o.length L A e)->(ldF o T).length=o.length/\(∀p∈ldF o T,Fw L (N+T.length*A) p)/\∀i,i < o.length->Mq.val ((ldF o T).getD i (0,1))=Mq.val (o.getD i (0,1))+tS i T
 | [],o,N,h,_=>⟨rfl,fun p hp=>(h p hp).mono (by lia),fun i _=>by show _=_+0;grind [ldF]⟩
 |e :: T,o,N,h,hT=>by
  have he:=hT e (mem_cons_self ..);obtain⟨a,b,c⟩:=No h he;obtain⟨x,y,z⟩:=Ep T (o:=ldS o e) b (fun e' h'=>by rw[a];exact hT e' (mem_cons_of_mem _ h'));refine⟨x.trans a,fun p hp=>(y p hp).mono (by rw[length_cons,Nat.succ_mul];lia),fun i hi=>?_⟩;refine(z i (by rw[a];exact hi)).trans ?_;show _=_+(_+tS i T)
  unfold ldS;rw[jR he.i]
  by_cases k:e.1.1=i
  ·rw[if_pos k,if_pos k,c,k];grind
  ·rw[if_neg k,if_neg k];grind
theorem Ft (p:Nat){d:RD}{q:Q2}:∀(ds:List RD) (o:List Q2) (i:Nat),ds[i]?=some d->i < o.length->ouR p (ds.zip (o.set i q))=ouR p (ds.zip o)+dl d.2.1.toNat d.2.2.1.toNat p*(Mq.val q - Mq.val (o.getD i (0,1)))
 | [],_,_,h,_=>by simp at h
 |_ :: _,[],_,_,h=>by simp at h
 |x :: ds,y :: o,0,h,_=>by
  have:x=d:=by simpa using h
  subst this;show dl x.2.1.toNat x.2.2.1.toNat p*Mq.val q+ouR p (ds.zip o)=dl x.2.1.toNat x.2.2.1.toNat p*Mq.val y+ouR p (ds.zip o)+dl x.2.1.toNat x.2.2.1.toNat p*(Mq.val q - Mq.val y)
  grind
 |x :: ds,y :: o,i+1,h,g=>by
  have:=Ft p (q:=q) ds o i (by simpa using h) (by simpa using g);show dl x.2.1.toNat x.2.2.1.toNat p*Mq.val y+ouR p (ds.zip (o.set i q))=dl x.2.1.toNat x.2.2.1.toNat p*Mq.val y+ouR p (ds.zip o)+dl d.2.1.toNat d.2.2.1.toNat p*(Mq.val q - Mq.val (o.getD i (0,1)))
  rw[this];grind
theorem Tq (p:Nat):∀(T:List Te) {o:List Q2} {N:Nat},o.length=ds.length->(∀p∈o,Fw L N p)->(∀e∈T,StO o.length L A e)->ouR p (ds.zip (ldF o T))=ouR p (ds.zip o)+dS ds p T
 | [],o,N,_,h,_=>by show ouR p (ds.zip o)=_+0;grind
 |e :: T,o,N,hl,h,hT=>by
  have he:=hT e (mem_cons_self ..);obtain⟨a,b,c⟩:=No h he;refine(Tq p T (o:=ldS o e) (a.trans hl) b (fun e' h'=>by rw[a];exact hT e' (mem_cons_of_mem _ h'))).trans ?_;have hi:=he.i;have hd:ds[e.1.1]?=some ds[e.1.1]:=getElem?_eq_getElem (by lia);unfold ldS;rw[Ft p ds o e.1.1 hd he.i,c];show _=_+(dlk ds e.1.1 p*_+dS ds p T)
  have:dlk ds e.1.1 p=dl ds[e.1.1].2.1.toNat ds[e.1.1].2.2.1.toNat p:=by unfold dlk;rw[hd]
  rw[this];grind
def wS (ds:List RD)(p:Nat):List Stp->Rat
 | []=>0
 |s :: r=>dlk ds s.1 p*((s.2:Int):Rat)+wS ds p r
theorem Fc (p:Nat)(s:Stp):∀st:List Stp,wS ds p (st++[s])=wS ds p st+dlk ds s.1 p*((s.2:Int):Rat)
 | []=>by show _+0=0+_;grind
 |t :: r=>by show _+wS ds p (r++[s])=_+wS ds p r+_;rw[Fc p s r];grind
theorem Ln (p:Nat)(a:Q2):∀st:List Stp,dS ds p (st.map fun s=>(s,a))=wS ds p st*Mq.val a
 | []=>by show 0=0*_;grind
 |s :: r=>by
  show _+dS ds p (r.map fun s=>(s,a))=(_+wS ds p r)*_;rw[Ln p a r];grind
theorem Ie {es:List Br}{b e x:Nat}{st:List Stp}{pts:List Nat}(h:qT es b e st pts)(hes:∀y∈es,dlk ds y.1 x=dl y.2.1 y.2.2 x):wS ds x st=dl b e x:=by
 have:∀j,j<=st.length->∃q,pts[j]?=some q/\wS ds x (st.take j)=dl b q x:=by
  intro j
  induction j with
  |zero=>intro _;exact⟨b,h.hb,by show 0=dl b b x;unfold dl;grind⟩
  |succ j ih=>
   intro hj;obtain⟨q,hq,e1⟩:=ih (by lia);have hs:st[j]?=some st[j]:=getElem?_eq_getElem (by lia);obtain⟨p',q',h1,h2,u,v,hm,w⟩:=h.g j _ hs;rw[hq] at h1
   cases h1
   refine⟨q',h2,?_⟩;rw[take_add_one,hs];show wS ds x (st.take j++[st[j]])=_;rw[Fc,e1,hes _ hm];rcases w with ⟨a,rfl,rfl⟩ | ⟨a,rfl,rfl⟩
   ·rw[a];unfold dl;grind
   ·rw[a];unfold dl;grind
 obtain⟨q,hq,e1⟩:=this st.length (Nat.le_refl _);rw[h.he] at hq
 cases hq
 rwa [take_length] at e1
abbrev Cr:=(Nat × List Stp) × Q2
def tOf (C:List Cr):List Te:=C.flatMap fun c=>c.1.2.map fun s=>(s,c.2)
theorem Ki (C:List Cr)(c:Cr):tOf (C++[c])=tOf C++c.1.2.map fun s=>(s,c.2):=by
 unfold tOf;rw[flatMap_append];simp
def cS (k:Nat):List Cr->Rat
 | []=>0
 |c :: r=>(if c.1.1=k then Mq.val c.2 else 0)+cS k r
theorem Nd {k:Nat}:∀{T:List Te},(∀e∈T,e.1.1≠k)->tS k T=0
 | [],_=>rfl
 |e :: r,h=>by
  show _+tS k r=0;rw[if_neg (h e (mem_cons_self ..)),Nd fun e' h'=>h e' (mem_cons_of_mem _ h')];grind
theorem Ub {k:Nat}:∀{C:List Cr},(∀c∈C,∃st,c.1.2=(c.1.1,1) :: st/\∀t∈st,t.1≠k)->tS k (tOf C)=cS k C
 | [],_=>rfl
 |c :: r,h=>by
  obtain⟨st,e,n⟩:=h c (mem_cons_self ..);have:tOf (c :: r)=(c.1.2.map fun s=>(s,c.2))++tOf r:=rfl;rw[this,Pc,Ub fun c' h'=>h c' (mem_cons_of_mem _ h'),e];show (if c.1.1=k then _ else 0)+tS k (st.map fun s=>(s,c.2))+cS k r=(if c.1.1=k then _ else 0)+cS k r;rw[Nd fun e' h'=>by obtain⟨s,hs,rfl⟩:=mem_map.mp h';exact n s hs];split<;>grind
theorem Ue {k:Nat}:∀{C:List Cr},(∀c∈C,c.1.1≠k)->cS k C=0
 | [],_=>rfl
 |c :: r,h=>by
  show _+cS k r=0;rw[if_neg (h c (mem_cons_self ..)),Ue fun e' h'=>h e' (mem_cons_of_mem _ h')];grind
theorem Tt:∀{C:List Cr},(C.map (·.1.1)).Nodup->∀c∈C,cS c.1.1 C=Mq.val c.2
 | [],_,c,h=>by cases h
 |x :: r,nd,c,h=>by
  rw[map_cons,nodup_cons] at nd;show (if x.1.1=c.1.1 then Mq.val x.2 else 0)+cS c.1.1 r=_;rcases mem_cons.mp h with z | z
  ·subst z;rw[if_pos rfl,Ue fun e' h' z=>nd.1 (mem_map.mpr ⟨e',h',z⟩)];grind
  ·rw[if_neg fun y=>nd.1 (mem_map.mpr ⟨c,z,y.symm⟩),Tt nd.2 c z];grind
theorem Ul {p:Nat}:∀{C:List Cr},(∀c∈C,wS ds p c.1.2=0)->dS ds p (tOf C)=0
 | [],_=>rfl
 |c :: r,h=>by
  have:tOf (c :: r)=(c.1.2.map fun s=>(s,c.2))++tOf r:=rfl;rw[this,Kj,Ul fun c' h'=>h c' (mem_cons_of_mem _ h'),Ln,h c (mem_cons_self ..)];grind
theorem yB {k:Nat}:∀{C:List Cr},(∀c∈C,c.1.2.length<=k)->(tOf C).length<=C.length*k
 | [],_=>Nat.zero_le _
 |c :: r,h=>by
  have:tOf (c :: r)=(c.1.2.map fun s=>(s,c.2))++tOf r:=rfl;rw[this,List.length_append,length_map,length_cons,Nat.succ_mul];have:=yB fun c' h'=>h c' (mem_cons_of_mem _ h');have:=h c (mem_cons_self ..);lia
end
theorem Ej {m:Nat}:∀{D:List Pr2},(∀e∈D,cK (m:Int) e.1.2.1 e.1.2.2.1)->Mq.rs m (fun x=>ouR x D)=0
 | [],_=>dC m
 |e :: l,h=>by
  obtain⟨i0,i1,j0,j1⟩:=h e (by simp);have:Mq.rs m (fun x=>ouR x (e :: l))=Mq.rs m (fun x=>(un e.1.2.1.toNat x*Mq.val e.2 + - (un e.1.2.2.1.toNat x*Mq.val e.2))+ouR x l):=aP fun x _=>by
   show dl _ _ x*_+_=_;unfold dl un;grind
  rw[this,dQ,Ej fun y hy=>h y (mem_cons_of_mem _ hy),dQ,mE];have a:=fun {k:Nat} (hk:k < m)=>(aP (n:=m) (F:=fun x=>un k x*Mq.val e.2) (G:=fun x=>(fun _=>Mq.val e.2) x*un k x) fun x _=>by grind).trans (Yx hk fun _=>Mq.val e.2);rw[a (by lia),a (by lia)];grind
theorem Ss {m:Nat}{D:List Pr2}(m1:1<=m)(h:∀e∈D,cK (m:Int) e.1.2.1 e.1.2.2.1)(z:∀x,1<=x->x < m->ouR x D=0):∀x,x < m->ouR x D=0:=fun x hx=>by
 by_cases c:x=0
 ·subst c;have a:=Ej h;obtain⟨k,rfl⟩:∃k,m=k+1:=⟨m - 1,by lia⟩
  rw[oR,aP (G:=fun _=>0) fun i hi=>z (i+1) (by lia) (by lia),dC] at a;grind
 ·exact z x (by lia) hx
def kbA (ds:List RD)(i:Nat):Nat:=if mP 60 (ds.getD i (.pc,0,0,(0,1))) then 550 else 60
def wbA (ds:List RD)(i:Nat):Nat:=if mP 60 (ds.getD i (.pc,0,0,(0,1))) then 1110 else 260
theorem Go (ds:List RD):∀n,n<=ds.length->jL (wbA ds) n<=260*n+850*(ds.take n).countP (mP 60)
 |0,_=>Nat.zero_le _
 |n+1,h=>by
  have ih:=Go ds n (by lia);have hd:ds[n]?=some ds[n]:=getElem?_eq_getElem (by lia);show jL (wbA ds) n+wbA ds n<=_;rw[take_add_one,hd,countP_append];unfold wbA at *
  rw[Ug hd];show _<=260*(n+1)+850*(countP (mP 60) (ds.take n)+countP (mP 60) [ds[n]])
  rw[countP_singleton]
  cases mP 60 ds[n]
  ·simp only[Bool.false_eq_true,if_false];lia
  ·simp only[if_true];lia
theorem Xa {np hh mm:Nat}(h1:np+hh<=16)(h2:hh+1<=mm)(h3:mm<=5):(30*np+16+51+5)*(mm - 1+hh+1)+8<=3900:=by
 have a:30*np+16+51+5<=30*(16 - hh)+72:=by lia
 have c:mm - 1+hh+1<=5+hh:=by lia
 refine Nat.le_trans (Nat.add_le_add_right (Nat.mul_le_mul a c) 8) ?_;have:hh=0\/hh=1\/hh=2\/hh=3\/hh=4:=by lia
 rcases this with rfl | rfl | rfl | rfl | rfl<;>decide
theorem wN {m:Nat}(x:Nat):∀(D:List Pr2) (h:Nat),m<=h->x < m->(∀e∈D,e.1.1=.pu->e.2=e.1.2.2.2)->eqR h (D.map (·.1)) x+ouR x D=ouR x (D.filter fun e=>decide (e.1.1≠.pu))
 | [],_,_,_,_=>by show (0:Rat)+0=0;grind
 |e :: D,h,hm,hx,hp=>by
  have ih:=wN x D (h+bV e.1.1) (by lia) hx fun e' h'=>hp e' (mem_cons_of_mem _ h');show (cR e.1 h x+eqR (h+bV e.1.1) (D.map (·.1)) x)+(dl e.1.2.1.toNat e.1.2.2.1.toNat x*Mq.val e.2+ouR x D)=_
  by_cases k:e.1.1=.pu
  ·rw[filter_cons_of_neg (by simp[k]),<- ih];have:=hp e (mem_cons_self ..) k;have c:cR e.1 h x=- dl e.1.2.1.toNat e.1.2.2.1.toNat x*Mq.val e.1.2.2.2:=by unfold cR;rw[k]
   rw[c,this];grind
  ·rw[filter_cons_of_pos (by simp[k])];show _=dl e.1.2.1.toNat e.1.2.2.1.toNat x*Mq.val e.2+ouR x (D.filter fun e=>decide (e.1.1≠.pu));have c:cR e.1 h x=0:=by
    unfold cR
    cases k':e.1.1 with
    |pc=>rfl
    |pu=>exact absurd k' k
    |ho=>exact if_neg (by lia)
   rw[<- ih,c];grind
section
variable {m t h bl:Nat} {L:Int} {hs:List Q2} {E:List Ez} {e:Ez}
theorem Nl (L1:1<=L)(d27:(27720:Int) ∣ L){x:Rat}{M:Nat}(f:Mq.Fr 27720 M x):Mq.Fr L M x:=by
 obtain⟨k,rfl⟩:=d27;exact f.lift (by decide) (by lia)
theorem pL.frN (o:pL m L hs e)(hk:HtK m hs)(L1:1<=L)(d27:(27720:Int) ∣ L)(k:e.2.1.1≠.pu):Mq.Fr L (2 ^ 46) (Mq.val e.2.2):=by
 cases k':e.2.1.1 with
 |pc=>
  obtain⟨z,dv,_⟩:=o.pc k';have z0:=z.p0;rw[o.sv hk k'];obtain⟨q,rfl⟩:=dv;have q1:1<=q:=by
   rcases Int.lt_or_le q 1 with c | c
   ·have:27720*e.2.1.2.2.2.1*q<=27720*e.2.1.2.2.2.1*0:=Int.mul_le_mul_of_nonneg_left (by lia) (by lia);lia
   ·exact c
  have tq:1<=e.2.1.2.2.2.1*q:=by
   have:e.2.1.2.2.2.1*1<=e.2.1.2.2.2.1*q:=Int.mul_le_mul_of_nonneg_left q1 (by lia);lia
  rw[Int.mul_assoc];exact((hk.fall o.pt).2.1.mul (by decide) tq (z.inv tq (Int.dvd_mul_right ..))).mono (by decide)
 |pu=>exact absurd k' k
 |ho=>exact(Nl L1 d27 (o.ho k').2.fr).mono (by decide)
theorem pL.frA (o:pL m L hs e)(hk:HtK m hs)(L1:1<=L)(d27:(27720:Int) ∣ L):Fw L (2 ^ 50) e.2.2:=by
 refine⟨o.slow hk,?_⟩
 by_cases k:e.2.1.1=.pu
 ·exact(o.pu k).2.2
 ·exact(o.frN hk L1 d27 k).mono (by decide)
structure AmB (m b:Nat) (L:Int) (ds:List RD):Prop where
 ok:∀i d,ds[i]?=some d->RwW m (kbA ds i) (wbA ds i) d
 cu:jL (wbA ds) ds.length+30<=8900
 eb:EqB m b L ds
 bw39:bw b (wd m ds)<=3900
 eR:∀i,∃a:Int,Mq.B b a/\eqR m ds (i+1)=(a:Rat) / (L:Rat)
theorem Bal.am (b:Bal m t L hs h E 4)(hk:HtK m hs)(m5:m<=5)(len:E.length<=20)(L1:1<=L)(d27:(27720:Int) ∣ L)(LB:Mq.B bl L)(bl496:bl<=496)(bits:(bl+51+5)*(m - 1+h+1)+8<=3900)(bal:∀x,1<=x->x < m->ouR x (prZ E)=0):AmB m (bl+51) L (rwZ E):=by
 have o:=b.nof;have m1:=o.m1;have ew:wd m (rwZ E)=m - 1+h:=by show m - 1+bL (rwZ E)=_;rw[b.nh]
 have lE:(rwZ E).length=E.length:=length_map ..;have fp:∀e∈E,e.2.1.1=.pu->Bd 550 e.2.1.2.2.2:=fun e he k=>by
  obtain⟨s,lo,fr⟩:=(b.en e he).pu k;rw[s] at lo fr;obtain⟨a,ab,ea⟩:=Mq.Fr.get fr (show 2 ^ 50 < 2 ^ 51 by decide) LB (b:=51+bl) (Nat.le_refl _);exact(lB lo L1 (LB.mono (by lia)) ab ea).1.mono (by lia)
 have sm60:∀e∈E,e.2.1.1≠.pu->Bd 60 e.2.1.2.2.2:=fun e he k=>by
  have o:=b.en e he
  cases k':e.2.1.1 with
  |pc=>exact(o.pc k').1.bd.mono (by decide)
  |pu=>exact absurd k' k
  |ho=>rw[(o.ho k').1];exact hk.fbd o.pt
 have w26:wd m (rwZ E)<=26:=by
  have a:bL (rwZ E)<=(rwZ E).length:=length_filter_le _ _;show m - 1+bL (rwZ E)<=26;lia
 have e3:bl+51<=(bl+51)*(wd m (rwZ E)+1):=Nat.le_mul_of_pos_right _ (by lia);have e2:(bl+51)*(wd m (rwZ E)+1)<=3900:=by
  have:=Nat.mul_le_mul_right (wd m (rwZ E)+1) (show bl+51<=bl+51+5 by lia);rw[ew] at *
  lia
 refine⟨fun i d hd=>?_,?_,⟨o,w26,by lia,by lia,?_,L1,LB.mono (by lia),fun i j=>?_⟩,?_,fun i=>?_⟩
 ·obtain⟨e,he,rfl⟩:=mem_map.mp (mem_of_getElem? hd);have o:=b.en e he;obtain⟨p1,p2,p3,p4⟩:=o.pt;have low:Low e.2.1.2.2.2:=by
   cases k:e.2.1.1 with
   |pc=>exact(o.pc k).1.l
   |pu=>rw[<- (o.pu k).1];exact(o.pu k).2.1
   |ho=>rw[(o.ho k).1];exact(hk.fall o.pt).1
  have bd:Bd (if mP 60 e.2.1 then 550 else 60) e.2.1.2.2.2:=by
   cases c:mP 60 e.2.1 with
   |false=>exact Po c
   |true=>
    by_cases k:e.2.1.1=.pu
    ·exact fp e he k
    ·have:=yY (sm60 e he k);rw[c] at this;cases this
  unfold kbA wbA;rw[Ug hd];refine⟨⟨p1,p2,p3,p4,low,fun k=>(o.pc k).1.p0,bd.mono (by split<;>decide)⟩,bd,fun _=>?_,fun k=>?_⟩
  ·cases mP 60 e.2.1<;>decide
  ·rw[yY (sm60 e he k)];decide
 ·have a:=Go (rwZ E) (rwZ E).length (Nat.le_refl _);rw[take_length] at a;have:=b.big;lia
 ·show (bl+51+5)*(wd m (rwZ E)+1)+8<=4000;rw[ew];lia
 ·have one:=Mq.Fr.one L1;have c:∀d∈rwZ E,∀k,Mq.Fr L 6 (cM d k (i+1) (j+1)):=fun d hd k=>by
   obtain⟨e,he,rfl⟩:=mem_map.mp hd;unfold cM
   cases hk:e.2.1.1 with
   |pu=>exact Mq.Fr.zero.mono (Nat.zero_le _)
   |ho=>
    dsimp only;refine(Mq.Fr.add (Ad (Db one) _ _ _) (N:=1) ?_).mono (by decide);rw[Rat.mul_comm];exact Ad (Db one) _ _ _
   |pc=>
    dsimp only;rw[Rat.mul_assoc];obtain⟨z,dv,_⟩:=(b.en e he).pc hk;exact Ad (Ad (z.inv L1 (Int.dvd_trans (Int.dvd_mul_left ..) dv)) _ _ _) _ _ _
  refine Mq.Fr.get (m:=7) (n:=bl) (Kk m c) ?_ LB (by lia);rw[lE]
  calc E.length*6<=20*6:=Nat.mul_le_mul_right _ len
   _ < 2 ^ 7:=by decide
 ·show (bl+51+5)*(wd m (rwZ E)+1)+8<=3900;rw[ew];exact bits
 ·have ff:Mq.Fr L (20*2 ^ 46) (eqR m (rwZ E) (i+1)):=by
   by_cases c:i+1 < m
   ·have a:=wN (i+1) (prZ E) m (Nat.le_refl _) c fun e he k=>by
     obtain⟨x,hx,rfl⟩:=mem_map.mp he;exact((b.en x hx).pu k).1
    rw[bal _ (by lia) c,Fj,Rat.add_zero] at a;rw[a];refine(xQ (M:=2 ^ 46) fun e he=>?_).mono (Nat.mul_le_mul_right _ (Nat.le_trans (length_filter_le _ _) (by rw[length_map];exact len)));obtain⟨h1,h2⟩:=mem_filter.mp he;obtain⟨x,hx,rfl⟩:=mem_map.mp h1;exact(b.en x hx).frN hk L1 d27 (of_decide_eq_true h2)
   ·refine(Mp (M:=2 ^ 46) m fun d hd k=>?_).mono (Nat.mul_le_mul_right _ (by lia));obtain⟨e,he,rfl⟩:=mem_map.mp hd;have o:=b.en e he;obtain⟨p1,p2,p3,p4⟩:=o.pt;unfold cR
    cases hk':e.2.1.1 with
    |pc=>exact Mq.Fr.zero.mono (Nat.zero_le _)
    |pu=>
     dsimp only;have:dl e.2.1.2.1.toNat e.2.1.2.2.1.toNat (i+1)=0:=by
      unfold dl;rw[if_neg (by lia),if_neg (by lia)];grind
     rw[this,show -(0:Rat)*Mq.val e.2.1.2.2.2=0 by grind];exact Mq.Fr.zero.mono (Nat.zero_le _)
    |ho=>
     dsimp only;rw[(o.ho hk').1];exact(Db (Nl L1 d27 (hk.fall o.pt).2.1)).mono (by decide)
  exact Mq.Fr.get (m:=51) (n:=bl) ff (by decide) LB (by lia)
end
open PySem.W
theorem Kx {q:Program}{loose:List Str}{XP:(Str->Option Value)->Heap->Prop}{K:Params->Frag}{bs:List Addr}{n t:Nat}{r:RowW}{d:DefRec}{kwd:List (Str × Expr)}{run:Value->List Value->Sem Value}(e:∀P,bs=(K P).map (·.1))(h:WalkO q loose XP (fun w h=>(K w.params).In h) r d kwd run):WalkX q loose XP (W.X.obsZ bs) (W.X.valZ K n t) r d kwd run:=
 fun w s₀ s₁ mg mb G y a o pm cd doc dV kV h1 h2 h3 h4 h5 h6 args vals as' L=>h w s₀ s₁ mg mb G (InK.keeps w _ _ (W.X.z_facts e y).2.1 L.keeps) a o pm cd doc dV kV h1 h2 h3 h4 h5 h6 args vals as'
section
variable {K:Frag} {x qual:Str} {st:Stmt} {dV:Value} {f:Addr} {fd:FuncData}
theorem aY.b1 (a:Str)(F:aY K x qual st dV f fd)(h:∀(kV doc pm:Value) (an:Option Addr) (cdv ct u:Value),bindArgs (W.fnOf x qual (eT st) (cN st) (aI st) dV kV doc pm an cdv ct) ⟨[u],[]⟩=pure [(a,u)]):aM K fd [a] []:=
 F.binds fun k d p n c t us hl=>match us,hl with | [_],_=>h k d p n c t _
theorem aY.b2 (a b:Str)(F:aY K x qual st dV f fd)(h:∀(kV doc pm:Value) (an:Option Addr) (cdv ct u v:Value),bindArgs (W.fnOf x qual (eT st) (cN st) (aI st) dV kV doc pm an cdv ct) ⟨[u,v],[]⟩=pure [(a,u),(b,v)]):aM K fd [a,b] []:=
 F.binds fun k d p n c t us hl=>match us,hl with | [_,_],_=>h k d p n c t _ _
theorem aY.b3 (a b c:Str)(F:aY K x qual st dV f fd)(h:∀(kV doc pm:Value) (an:Option Addr) (cdv ct u v w:Value),bindArgs (W.fnOf x qual (eT st) (cN st) (aI st) dV kV doc pm an cdv ct) ⟨[u,v,w],[]⟩=pure [(a,u),(b,v),(c,w)]):aM K fd [a,b,c] []:=
 F.binds fun k d p n c t us hl=>match us,hl with | [_,_,_],_=>h k d p n c t _ _ _
theorem aY.b4 (a b c e:Str)(F:aY K x qual st dV f fd)(h:∀(kV doc pm:Value) (an:Option Addr) (cdv ct u v w z:Value),bindArgs (W.fnOf x qual (eT st) (cN st) (aI st) dV kV doc pm an cdv ct) ⟨[u,v,w,z],[]⟩=pure [(a,u),(b,v),(c,w),(e,z)]):aM K fd [a,b,c,e] []:=
 F.binds fun k d p n c t us hl=>match us,hl with | [_,_,_,_],_=>h k d p n c t _ _ _ _
end
end L2
namespace K46
open PySem L2
def top (i:Nat):Stmt:=PySem.Challenge.pw_ohmyard_k46_amounts.main.body.getD i (.Pass ⟨0,0,0,0⟩)
section
variable {P:Program} {w:World} {K:Frag} {mg:Str->Option Value} {base:Heap} {f g1 g2 g3 g4 g5 g6 g7 g8:Addr} {fd gd1 gd2 gd3 gd4 gd5 gd6 gd7 gd8:FuncData} {CX:CXT}
abbrev Dv:Stmt:=top 15
theorem Se:aQ ["thing"] ["thing"] (aI Dv):=sK9 rfl rfl rfl rfl (by decide +kernel)
theorem Mj {dV:Value}(F:aY K "is_whole" "is_whole" Dv dV f fd)(b:Bl mg):aL P w K mg base CX 1 f fd ["thing"] (oP K):=by
 refine F.ok Se (fun vs H Q E h=>?_) fun cdv A outer s H vs Q E hr h=>?_
 ·obtain⟨_,rfl,_⟩:=h;rfl
 obtain⟨x,rfl,h⟩:=h;refine⟨_,aF (aX (kT (gH (i:=0) rfl (Or.inl rfl) b.isi b.int rfl rfl PyProof.Rows.boot_int) (qH (Vz (gH (i:=0) rfl (Or.inl rfl) b.isi b.bool rfl rfl PyProof.Rows.boot_bool))))),?_⟩;rcases h with ⟨i,rfl,q⟩ | ⟨t,ty,nw,q⟩
 ·exact⟨_,_,_,rfl,.of (.int i),rfl,_,rfl,fI ⟨_,_,false,rfl,.of (.int i),(by with_unfolding_all rfl),_,rfl,q⟩⟩
 ·rcases nw with rfl | rfl | rfl | rfl | rfl
  ·exact⟨_,_,true,rfl,.of ty,(by with_unfolding_all rfl),_,rfl,fI ⟨_,_,_,rfl,.of ty,rfl,_,rfl,q⟩⟩
  all_goals exact⟨_,_,false,rfl,.of ty,(by with_unfolding_all rfl),_,rfl,eY q⟩
abbrev sGc:Stmt:=top 17
theorem Qf:aQ ["one","other","rest"] ["one","other"] (aI sGc):=sK9 rfl rfl rfl rfl (by decide +kernel)
theorem Zy {dV:Value}(F:aY K "greatest_common" "greatest_common" sGc dV f fd)(b:Bl mg):aL P w K mg base CX 1 f fd ["one","other"] Rh:=by
 refine F.ok Qf (fun vs H Q E h=>?_) fun cdv A outer s H vs Q E hr h=>?_
 ·obtain⟨_,_,rfl,_⟩:=h;rfl
 obtain⟨x,y,rfl,q⟩:=h;refine⟨_,aC (rY PassesOwn.never (bG nQ (pv 1) aE (bK _)) (aC (aR (i:=2) Qf.nd rfl (Or.inl rfl) (aT kB (pv 0) (pv 1)))
  (aC (aR (i:=0) Qf.nd rfl (Or.inl rfl) (pv 1)) (aF (aR (i:=1) Qf.nd rfl (Or.inl rfl) (pv 2))))))
  (aF (aX (bN tT rfl b.abs PyProof.Rows.boot_abs (aA (pv 0) aD)))),?_⟩
 refine rX (fun σ H'=>H'=H/\∃u v z,σ=[some (.int u),some (.int v),z]/\gc u v=gc x y) (fun σ _=>match σ with | [_,some (.int v),_]=>v.natAbs | _=>0) ⟨rfl,x,y,none,rfl,rfl⟩ ?_ ?_
 ·rintro σ H' ⟨rfl,u,v,z,rfl,e⟩;refine⟨_,rfl,rfl,_,rfl,?_⟩;refine oM (fun c=>?_) (fun c=>?_)
  ·have hv:v≠0:=by intro q;subst q;simp at c
   refine⟨_,rfl,_,rfl,_,_,rfl,rfl,hv,_,rfl,_,rfl,⟨rfl,v,Int.fmod u v,_,rfl,(Fn u v).trans e⟩,vK hv⟩
  ·have hv:v=0:=by
    simp at c;exact c
   subst hv;refine⟨_,rfl,_,rfl,?_⟩;rw[<- Fy,e];exact q
 ·rintro σ H Q Q' m ⟨v,h1,h2,k,h3,h4⟩;exact⟨v,h1,h2,k,h3,m _ _ h4⟩
abbrev Bv:Stmt:=top 23
theorem Qk:aQ ["one","other"] ["one","other"] (aI Bv):=sK9 rfl rfl rfl rfl (by decide +kernel)
theorem Nn {dV:Value}(F:aY K "under" "under" Bv dV f fd):aL P w K mg base CX 1 f fd ["one","other"] (Ga K):=by
 refine F.ok Qk (fun vs H Q E h=>?_) fun cdv A outer s H vs Q E hr h=>?_
 ·obtain⟨_,_,_,_,_,_,rfl,_⟩:=h;rfl
 obtain⟨a,b,p,q,n,m,rfl,ha,hb,bp,bq,hn,z⟩:=h;refine⟨_,aF (aX (iK wM (aT cF (aS aW (pv 0) aE (fun _ _=>rfl)) (aS aW (pv 1) aE (fun _ _=>rfl))) (aT cF (aS aW (pv 1) aE (fun _ _=>rfl)) (aS aW (pv 0) aE (fun _ _=>rfl))) (bK _))),?_⟩;exact dR rfl ha (cI rfl hb (cH bp.a bq.b (by lia) (by lia) (dR rfl hb (cI rfl ha (cH bq.a bp.b (by lia) (by lia) ⟨_,_,rfl,rfl,z⟩)))))
abbrev kL:Stmt:=top 18
theorem Cu:aQ ["top","bottom","shared"] ["top","bottom"] (aI kL):=sK9 rfl rfl rfl rfl (by decide +kernel)
theorem Tn {dV:Value}(F:aY K "fraction" "fraction" kL dV f fd)(G1:aL P w K mg base CX0 1 g1 gd1 ["thing"] (oP K))(b1:aM K gd1 ["thing"] [])(k1:kI9 K g1)(m1:mI9 mg "is_whole" g1)(G2:aL P w K mg base CX0 1 g2 gd2 ["one","other"] Rh)(b2:aM K gd2 ["one","other"] [])(k2:kI9 K g2)(m2:mI9 mg "greatest_common" g2) :
  aL P w K mg base CX 2 f fd ["top","bottom"] gM:=by
 refine F.ok Cu (fun vs H Q E h=>?_) fun cdv A outer s H vs Q E hr h=>?_
 ·obtain⟨_,_,_,rfl,_⟩:=h;rfl
 obtain⟨t,b,n,rfl,hb,hB,hn,q⟩:=h;refine⟨_,aC (cA (PW.pt (nT (fV (dU (aH G1 hr rfl m1 k1 b1 .nil aK (aA (pv 0) aD)))) (nT (fV (dU (aH G1 hr rfl m1 k1 b1 .nil aK (aA (pv 1) aD)))) (lW (bG eZ (pv 1) aE (bK _)))))) Jn bH)
  (aC (aR (i:=2) Cu.nd rfl (Or.inl rfl) (aH G2 hr rfl m2 k2 b2 .nil aK (aA (pv 0) (aA (pv 1) aD))))
  (aC (cA (bG wM (pv 1) aE (bK _)) (aF (aR (i:=2) Cu.nd rfl (Or.inl rfl) (Nh Cv (pv 2)))) bH)
  (aF (aX (dH (aA (aT iQ (pv 0) (pv 2)) (aA (aT iQ (pv 1) (pv 2)) aD))))))),?_⟩
 have hd:=qK (t:=t) hb;have hdB:Mq.B n (dvr t b):=hB.le (Bu hb);have c0:decide (V.int b=V.int 0)=false:=decide_eq_false (fun z=>hb (by cases z;rfl));refine⟨_,rfl,_,rfl,.inl ⟨t,rfl,_,rfl,eY ⟨_,rfl,_,rfl,.inl ⟨b,rfl,_,rfl,eY ⟨_,rfl,rfl,_,rfl,?_⟩⟩⟩⟩⟩;rw[c0];refine eY ⟨_,rfl,_,rfl,t,b,rfl,?_⟩;refine⟨_,rfl,_,_,rfl,rfl,_,rfl,?_⟩;refine oM (fun c=>?_) (fun c=>?_)
 ·have hlt:b < 0:=of_decide_eq_true c;have e:dvr t b=-gc t b:=by unfold dvr;rw[if_pos hlt]
  rw[e] at hd hdB;have q':lK H Q (t.fdiv (-gc t b),b.fdiv (-gc t b)):=by
   have z:=q;unfold red at z;rw[e] at z;exact z
  refine⟨_,rfl,_,rfl,?_⟩;refine⟨_,rfl,_,rfl,?_⟩;refine fP hd hdB hn ⟨_,rfl,_,rfl,fP hd hdB hn ⟨zl9 2,fun p hp=>?_⟩⟩;exact q' p _ (aG hp _) aB
 ·have hlt:¬b < 0:=fun z=>c (decide_eq_true z);have e:dvr t b=gc t b:=by unfold dvr;rw[if_neg hlt]
  rw[e] at hd hdB;have q':lK H Q (t.fdiv (gc t b),b.fdiv (gc t b)):=by
   have z:=q;unfold red at z;rw[e] at z;exact z
  refine⟨_,rfl,_,rfl,?_⟩;refine fP hd hdB hn ⟨_,rfl,_,rfl,fP hd hdB hn ⟨zl9 2,fun p hp=>?_⟩⟩;exact q' p _ (aG hp _) aB
abbrev Dg:Stmt:=top 20
theorem Tl:aQ ["one","other"] ["one","other"] (aI Dg):=sK9 rfl rfl rfl rfl (by decide +kernel)
theorem Oy {dV:Value}(F:aY K "minus" "minus" Dg dV f fd)(G1:aL P w K mg base CX0 2 g1 gd1 ["top","bottom"] gM)(b1:aM K gd1 ["top","bottom"] [])(k1:kI9 K g1)(m1:mI9 mg "fraction" g1) :
  aL P w K mg base CX 3 f fd ["one","other"] (gC K Mq.minus):=by
 refine F.ok Tl (fun vs H Q E h=>?_) fun cdv A outer s H vs Q E hr h=>?_
 ·obtain⟨_,_,_,_,_,_,rfl,_⟩:=h;rfl
 obtain⟨a,b,p,q,n,m,rfl,ha,hb,lp,lq,bp,bq,hn,z⟩:=h;refine⟨_,aF (aX (aH G1 hr rfl m1 k1 b1 .nil aK (aA
  (aT jD (aT cF (aS aW (pv 0) aE (fun _ _=>rfl)) (aS aW (pv 1) aE (fun _ _=>rfl))) (aT cF (aS aW (pv 1) aE (fun _ _=>rfl)) (aS aW (pv 0) aE (fun _ _=>rfl))))
  (aA (aT cF (aS aW (pv 0) aE (fun _ _=>rfl)) (aS aW (pv 1) aE (fun _ _=>rfl))) aD)))),?_⟩
 refine dR rfl ha (cI rfl hb (cH bp.a bq.b (by lia) (by lia) (dR rfl hb (cI rfl ha (cH bq.a bp.b (by lia) (by lia) ⟨_,_,rfl,rfl,?_⟩)))));refine cI rfl ha (cI rfl hb (cH bp.b bq.b (by lia) (by lia) ⟨_,_,n+m,rfl,gF lp lq,bp.b.mul bq.b,by lia,z⟩))
abbrev Mb:Stmt:=top 19
theorem Vj:aQ ["one","other"] ["one","other"] (aI Mb):=sK9 rfl rfl rfl rfl (by decide +kernel)
theorem Tk {dV:Value}(F:aY K "plus" "plus" Mb dV f fd)(G1:aL P w K mg base CX0 2 g1 gd1 ["top","bottom"] gM)(b1:aM K gd1 ["top","bottom"] [])(k1:kI9 K g1)(m1:mI9 mg "fraction" g1) :
  aL P w K mg base CX 3 f fd ["one","other"] (gC K Mq.plus):=by
 refine F.ok Vj (fun vs H Q E h=>?_) fun cdv A outer s H vs Q E hr h=>?_
 ·obtain⟨_,_,_,_,_,_,rfl,_⟩:=h;rfl
 obtain⟨a,b,p,q,n,m,rfl,ha,hb,lp,lq,bp,bq,hn,z⟩:=h;refine⟨_,aF (aX (aH G1 hr rfl m1 k1 b1 .nil aK (aA
  (aT cW (aT cF (aS aW (pv 0) aE (fun _ _=>rfl)) (aS aW (pv 1) aE (fun _ _=>rfl))) (aT cF (aS aW (pv 1) aE (fun _ _=>rfl)) (aS aW (pv 0) aE (fun _ _=>rfl))))
  (aA (aT cF (aS aW (pv 0) aE (fun _ _=>rfl)) (aS aW (pv 1) aE (fun _ _=>rfl))) aD)))),?_⟩
 refine dR rfl ha (cI rfl hb (cH bp.a bq.b (by lia) (by lia) (dR rfl hb (cI rfl ha (cH bq.a bp.b (by lia) (by lia) ⟨_,_,rfl,rfl,?_⟩)))));refine cI rfl ha (cI rfl hb (cH bp.b bq.b (by lia) (by lia) ⟨_,_,n+m,rfl,gF lp lq,bp.b.mul bq.b,by lia,z⟩))
variable {CR:Addr} {CK:Kd->Addr} {fW fJ fT fS:Kd->Addr} {fdW fdJ fdT fdS:Kd->FuncData}
abbrev Cc:Stmt:=dM (top 35) 0
theorem Pz:aQ ["self","start","goal","size"] ["self","start","goal","size"] (aI Cc):=sK9 rfl rfl rfl rfl (by decide +kernel)
theorem Js {dV:Value}(F:aY K "__init__" "Row.__init__" Cc dV f fd)(T:RT K mg CR CK):aL P w K mg base CX 1 f fd ["self","start","goal","size"] (Fu CK):=by
 refine F.ok Pz (fun vs H Q E h=>?_) fun cdv A outer s H vs Q E hr h=>?_
 ·obtain⟨_,_,_,_,_,_,rfl,_⟩:=h;rfl
 obtain⟨x,dx,k,s,g,z,rfl,hx,q⟩:=h;refine⟨_,(aC (mC (pv 0) (pv 1) rfl) (aC (mC (pv 0) (pv 2) rfl) (aF (mC (pv 0) (pv 3) rfl)))),?_⟩;have l1:=fA ("start":Str) s [];have l2:=fA ("goal":Str) g (eX "start" s []);simp only[length_nil] at l1;refine⟨_,rfl,_,rfl,x,CK k,dx,[],rfl,hx,T.cl k,T.nS k,(by show 0 < 1000;decide),?_⟩;refine⟨_,rfl,_,rfl,x,CK k,dx,_,rfl,aB,T.cl k,T.nG k,by lia,?_⟩;refine⟨_,rfl,_,rfl,x,CK k,dx,_,rfl,aB,T.cl k,T.nZ k,by lia,?_⟩;rw[pN,pN];exact q
abbrev uI:Stmt:=dM (top 36) 0
theorem Ig:aQ ["self"] ["self"] (aI uI):=sK9 rfl rfl rfl rfl (by decide +kernel)
theorem Dl {dV:Value}(F:aY K "word" "Piece.word" uI dV f fd):aL P w K mg base CX 1 f fd ["self"] (jW .pc):=by
 refine F.ok Ig (fun vs H Q E h=>?_) fun cdv A outer s H vs Q E hr h=>?_
 ·obtain⟨_,rfl,_⟩:=h;rfl
 obtain⟨x,rfl,q⟩:=h;exact⟨_,(aF (aX cL)),q⟩
abbrev tW:Stmt:=dM (top 37) 0
theorem Ib:aQ ["self"] ["self"] (aI tW):=sK9 rfl rfl rfl rfl (by decide +kernel)
theorem Cz {dV:Value}(F:aY K "word" "Push.word" tW dV f fd):aL P w K mg base CX 1 f fd ["self"] (jW .pu):=by
 refine F.ok Ib (fun vs H Q E h=>?_) fun cdv A outer s H vs Q E hr h=>?_
 ·obtain⟨_,rfl,_⟩:=h;rfl
 obtain⟨x,rfl,q⟩:=h;exact⟨_,(aF (aX cL)),q⟩
abbrev rV:Stmt:=dM (top 38) 0
theorem Jo:aQ ["self"] ["self"] (aI rV):=sK9 rfl rfl rfl rfl (by decide +kernel)
theorem De {dV:Value}(F:aY K "word" "Hold.word" rV dV f fd):aL P w K mg base CX 1 f fd ["self"] (jW .ho):=by
 refine F.ok Jo (fun vs H Q E h=>?_) fun cdv A outer s H vs Q E hr h=>?_
 ·obtain⟨_,rfl,_⟩:=h;rfl
 obtain⟨x,rfl,q⟩:=h;exact⟨_,(aF (aX cL)),q⟩
abbrev Ca:Stmt:=dM (top 35) 1
theorem Qo:aQ ["self"] ["self"] (aI Ca):=sK9 rfl rfl rfl rfl (by decide +kernel)
theorem Nk {dV:Value}(F:aY K "told" "Row.told" Ca dV f fd)(T:RT K mg CR CK)(GW:∀k,aL P w K mg base CX0 1 (fW k) (fdW k) ["self"] (jW k))(bW:∀k,aM K (fdW k) ["self"] [])(mW:∀k,gL K (CK k) "word" (fW k)):aL P w K mg base CX 2 f fd ["self"] (xE CK):=by
 refine F.ok Qo (fun vs H Q E h=>?_) fun cdv A outer s H vs Q E hr h=>?_
 ·obtain⟨_,_,_,_,_,rfl,_⟩:=h;rfl
 obtain⟨x,k,s,g,z,rfl,⟨dx,hx⟩,q⟩:=h;refine⟨_,(aF (aX (dH (aA (gA (pv 0) T.cl mW GW hr bW .nil aK) (aA (bX (pv 0) rfl) (aA (bX (pv 0) rfl) (aA (bX (pv 0) rfl) aD))))))),?_⟩;refine⟨_,rfl,k,x,dx,_,rfl,hx,(dZ _ _ _ (by decide +kernel) (by decide +kernel) (by decide +kernel)),_,rfl,?_⟩;refine⟨_,rfl,x,CK k,dx,_,_,rfl,hx,T.cl k,T.nS k,cQ _ _ _,?_⟩;refine⟨_,rfl,x,CK k,dx,_,_,rfl,hx,T.cl k,T.nG k,dA _ _ _,?_⟩;refine⟨_,rfl,x,CK k,dx,_,_,rfl,hx,T.cl k,T.nZ k,fZ _ _ _,?_⟩;exact⟨zl9 4,q⟩
abbrev Bk:Stmt:=top 39
theorem Gc:aQ ["told","word"] ["told"] (aI Bk):=sK9 rfl rfl rfl rfl (by decide +kernel)
theorem Mw {dV:Value}{gI:Addr}{gdI:FuncData}(F:aY K "row_of" "row_of" Bk dV f fd)(T:RT K mg CR CK)(b:Bl mg)(ms:mg "str"=none)(GI:aL P w K mg base CX0 1 gI gdI ["self","start","goal","size"] (Fu CK))(bI:aM K gdI ["self","start","goal","size"] [])(MK:∀k,Mk K (CK k) gI):aL P w K mg base CX 3 f fd ["told"] (tI K CK):=by
 refine F.ok Gc (fun vs H Q E h=>?_) fun cdv A outer s H vs Q E hr h=>?_
 ·obtain⟨_,_,_,_,_,rfl,_⟩:=h;rfl
 obtain⟨t,v,s,g,z,rfl,hT,k,rfl,q⟩:=h;refine⟨_,(aC (aR (i:=1) Gc.nd rfl (Or.inl rfl) (aS aW (pv 0) aE (fun _ _=>rfl)))
  (aC (cA (PW.pt (uK (dU (gH (i:=1) rfl (Or.inl rfl) b.isi ms rfl rfl PyProof.Rows.boot_str)) (pG (bG eZ (pv 1) cL (bK _))))) (aF (aX (pF (MK .pc) GI hr rfl (T.mK .pc) bI .nil aK (aA (aS aW (pv 0) aE (fun _ _=>rfl)) (aA (aS aW (pv 0) aE (fun _ _=>rfl)) (aA (aS aW (pv 0) aE (fun _ _=>rfl)) aD)))))) bH)
  (aC (cA (PW.pt (uK (dU (gH (i:=1) rfl (Or.inl rfl) b.isi ms rfl rfl PyProof.Rows.boot_str)) (pG (bG eZ (pv 1) cL (bK _))))) (aF (aX (pF (MK .pu) GI hr rfl (T.mK .pu) bI .nil aK (aA (aS aW (pv 0) aE (fun _ _=>rfl)) (aA (aS aW (pv 0) aE (fun _ _=>rfl)) (aA (aS aW (pv 0) aE (fun _ _=>rfl)) aD)))))) bH)
  (aC (cA (PW.pt (uK (dU (gH (i:=1) rfl (Or.inl rfl) b.isi ms rfl rfl PyProof.Rows.boot_str)) (pG (bG eZ (pv 1) cL (bK _))))) (aF (aX (pF (MK .ho) GI hr rfl (T.mK .ho) bI .nil aK (aA (aS aW (pv 0) aE (fun _ _=>rfl)) (aA (aS aW (pv 0) aE (fun _ _=>rfl)) (aA (aS aW (pv 0) aE (fun _ _=>rfl)) aD)))))) bH)
  (aF fY))))),?_⟩
 cases k
 ·refine Xm (fun _ _=>False) (fun X _=>?_) (fun _ _ h=>h.elim);refine⟨_,rfl,t,_,0,_,rfl,rfl,hT,rfl,?_⟩;exact⟨_,_,true,rfl,.of (.str _),rfl,_,rfl,fI ⟨_,rfl,rfl,_,rfl,ifT (cT .pc .pc) ⟨_,rfl,t,_,1,s,rfl,rfl,hT,rfl,_,rfl,t,_,2,g,rfl,rfl,hT,rfl,_,rfl,t,_,3,z,rfl,rfl,hT,rfl,fun x dx h1 h2 ne=>⟨x,dx,.pc,s,g,z,rfl,aB,rfl,by rw[pN];exact q x _ (Rw.new h1 h2 ne) h1 ⟨dx,aB⟩⟩⟩⟩⟩
 ·refine Yn (fun _ _=>False) (fun X _=>?_) (fun _ _ h=>h.elim);refine⟨_,rfl,t,_,0,_,rfl,rfl,hT,rfl,?_⟩;exact⟨_,_,true,rfl,.of (.str _),rfl,_,rfl,fI ⟨_,rfl,rfl,_,rfl,ifF (cT .pu .pc) (⟨_,_,true,rfl,.of (.str _),rfl,_,rfl,fI ⟨_,rfl,rfl,_,rfl,ifT (cT .pu .pu) ⟨_,rfl,t,_,1,s,rfl,rfl,hT,rfl,_,rfl,t,_,2,g,rfl,rfl,hT,rfl,_,rfl,t,_,3,z,rfl,rfl,hT,rfl,fun x dx h1 h2 ne=>⟨x,dx,.pu,s,g,z,rfl,aB,rfl,by rw[pN];exact q x _ (Rw.new h1 h2 ne) h1 ⟨dx,aB⟩⟩⟩⟩⟩)⟩⟩
 ·refine qc2 (fun _ _=>False) (fun X _=>?_) (fun _ _ h=>h.elim);refine⟨_,rfl,t,_,0,_,rfl,rfl,hT,rfl,?_⟩;exact⟨_,_,true,rfl,.of (.str _),rfl,_,rfl,fI ⟨_,rfl,rfl,_,rfl,ifF (cT .ho .pc) (⟨_,_,true,rfl,.of (.str _),rfl,_,rfl,fI ⟨_,rfl,rfl,_,rfl,ifF (cT .ho .pu) (⟨_,_,true,rfl,.of (.str _),rfl,_,rfl,fI ⟨_,rfl,rfl,_,rfl,ifT (cT .ho .ho) ⟨_,rfl,t,_,1,s,rfl,rfl,hT,rfl,_,rfl,t,_,2,g,rfl,rfl,hT,rfl,_,rfl,t,_,3,z,rfl,rfl,hT,rfl,fun x dx h1 h2 ne=>⟨x,dx,.ho,s,g,z,rfl,aB,rfl,by rw[pN];exact q x _ (Rw.new h1 h2 ne) h1 ⟨dx,aB⟩⟩⟩⟩⟩)⟩⟩)⟩⟩
abbrev Vm:Stmt:=top 16
theorem Yy:aQ ["thing"] ["thing"] (aI Vm):=sK9 rfl rfl rfl rfl (by decide +kernel)
theorem Vt {dV:Value}(F:aY K "is_fraction" "is_fraction" Vm dV f fd)(b:Bl mg)(ml:mg "len"=none)(mt:mg "tuple"=none)(G1:aL P w K mg base CX0 1 g1 gd1 ["thing"] (oP K))(b1:aM K gd1 ["thing"] [])(k1:kI9 K g1)(m1:mI9 mg "is_whole" g1)(G2:aL P w K mg base CX0 1 g2 gd2 ["one","other"] Rh)(b2:aM K gd2 ["one","other"] [])(k2:kI9 K g2)(m2:mI9 mg "greatest_common" g2) :
  aL P w K mg base CX 2 f fd ["thing"] (Kc K):=by
 refine F.ok Yy (fun vs H Q E h=>?_) fun cdv A outer s H vs Q E hr h=>?_
 ·obtain⟨_,_,rfl,_⟩:=h;rfl
 obtain⟨v,o,rfl,hz,q⟩:=h;refine⟨_,(aC (cA (PW.pt (nT (fV (dU (gH (i:=0) rfl (Or.inl rfl) b.isi mt rfl rfl PyProof.Rows.boot_tuple))) (lW (bG nQ (bN bC rfl ml PySem.boot_len (aA (pv 0) aD)) aE (bK _))))) (aF (aX iB)) bH)
  (aC (cA (PW.pt (nT (fV (dU (aH G1 hr rfl m1 k1 b1 .nil aK (aA (aS aW (pv 0) aE (fun _ _=>rfl)) aD)))) (lW (fV (dU (aH G1 hr rfl m1 k1 b1 .nil aK (aA (aS aW (pv 0) aE (fun _ _=>rfl)) aD))))))) (aF (aX iB)) bH)
  (aF (aX (kT (iK Mn (aS aW (pv 0) aE (fun _ _=>rfl)) aE (bK _)) (qH (iK eZ (aH G2 hr rfl m2 k2 b2 .nil aK (aA (aS aW (pv 0) aE (fun _ _=>rfl)) (aA (aS aW (pv 0) aE (fun _ _=>rfl)) aD))) aE (bK _)))))))),?_⟩
 cases hz with
 |fr fa hp=>
  refine⟨_,_,true,rfl,.tup fa,rfl,_,rfl,eY ⟨_,rfl,_,_,rfl,.inr fa,rfl,_,rfl,eY ?_⟩⟩;refine dR rfl fa ⟨_,rfl,.inl ⟨_,rfl,_,rfl,eY (cI rfl fa ⟨_,rfl,.inl ⟨_,rfl,_,rfl,eY ?_⟩⟩)⟩⟩;have h1:=hp.pos;refine cI rfl fa ⟨_,_,rfl,rfl,_,rfl,ifT (decide_eq_true (by lia)) (dR rfl fa (cI rfl fa ⟨_,_,rfl,rfl,?_⟩))⟩;rw[hp.one];exact q
 |ty h n=>exact⟨_,_,false,rfl,h,n,_,rfl,fI q⟩
 |len h=>exact⟨_,_,true,rfl,.tup h,rfl,_,rfl,eY ⟨_,rfl,_,_,rfl,.inr h,rfl,_,rfl,fI q⟩⟩
 |n0 h ty n=>
  refine⟨_,_,true,rfl,.tup h,rfl,_,rfl,eY ⟨_,rfl,_,_,rfl,.inr h,rfl,_,rfl,eY ?_⟩⟩;exact⟨_,rfl,_,_,0,_,rfl,rfl,h,rfl,_,rfl,.inr ⟨_,ty,n,_,rfl,fI q⟩⟩
 |n1 h ty n=>
  refine⟨_,_,true,rfl,.tup h,rfl,_,rfl,eY ⟨_,rfl,_,_,rfl,.inr h,rfl,_,rfl,eY ?_⟩⟩;exact⟨_,rfl,_,_,0,_,rfl,rfl,h,rfl,_,rfl,.inl ⟨_,rfl,_,rfl,eY ⟨_,rfl,_,_,1,_,rfl,rfl,h,rfl,_,rfl,.inr ⟨_,ty,n,_,rfl,fI q⟩⟩⟩⟩
 |fb fa c=>
  refine⟨_,_,true,rfl,.tup fa,rfl,_,rfl,eY ⟨_,rfl,_,_,rfl,.inr fa,rfl,_,rfl,eY ?_⟩⟩;refine dR rfl fa ⟨_,rfl,.inl ⟨_,rfl,_,rfl,eY (cI rfl fa ⟨_,rfl,.inl ⟨_,rfl,_,rfl,eY ?_⟩⟩)⟩⟩;rcases c with c | ⟨c,d⟩
  ·exact cI rfl fa ⟨_,_,rfl,rfl,_,rfl,ifF (decide_eq_false (by lia)) q⟩
  ·refine cI rfl fa ⟨_,_,rfl,rfl,_,rfl,ifT (decide_eq_true c) (dR rfl fa (cI rfl fa ⟨_,_,rfl,rfl,?_⟩))⟩;rw[decide_eq_false (fun e=>d (by injection e))];exact q
abbrev sPS:Stmt:=top 41
theorem qd1:aQ ["thing"] ["thing"] (aI sPS):=sK9 rfl rfl rfl rfl (by decide +kernel)
theorem Yu {dV:Value}(F:aY K "is_piece_size" "is_piece_size" sPS dV f fd){aN:Addr}(fN:∀H,Fq K H aN (0,1))(mNO:mI9 mg "NOUGHT" aN)(G1:aL P w K mg base CX0 2 g1 gd1 ["thing"] (Gq K))(b1:aM K gd1 ["thing"] [])(k1:kI9 K g1)(m1:mI9 mg "is_fraction" g1)(G2:aL P w K mg base CX0 1 g2 gd2 ["one","other"] (Ga K))(b2:aM K gd2 ["one","other"] [])(k2:kI9 K g2)(m2:mI9 mg "under" g2) :
  aL P w K mg base CX 3 f fd ["thing"] (Zq K):=by
 refine F.ok qd1 (fun vs H Q E h=>?_) fun cdv A outer s H vs Q E hr h=>?_
 ·obtain⟨_,_,_,rfl,_⟩:=h;rfl
 obtain⟨a,p,n,rfl,fa,hp,h0,hb,hn,q⟩:=h;have r1:=hr.mono (show 1<=2 by lia);refine⟨_,(aF (aX (kT (aH G1 hr rfl m1 k1 b1 .nil aK (aA (pv 0) aD)) (qH (aH G2 r1 rfl m2 k2 b2 .nil aK (aA (dI (v:=.ref aN) rfl mNO rfl) (aA (pv 0) aD))))))),?_⟩;refine⟨_,rfl,a,p,rfl,fa,hp,_,rfl,fI ⟨_,rfl,aN,a,_,p,1,n,rfl,fN _,fa,⟨show (0:Nat) < 2 ^ 1 by decide,show (1:Nat) < 2 ^ 1 by decide⟩,hb,by lia,?_⟩⟩;rw[decide_eq_true (show (0:Int)*p.2 < p.1*1 by lia)];exact q
abbrev sNB:Stmt:=top 46
theorem qd5:aQ ["thing","bound"] ["thing","bound"] (aI sNB):=sK9 rfl rfl rfl rfl (by decide +kernel)
theorem Zx {dV:Value}(F:aY K "is_number_below" "is_number_below" sNB dV f fd)(G1:aL P w K mg base CX0 1 g1 gd1 ["thing"] (oP K))(b1:aM K gd1 ["thing"] [])(k1:kI9 K g1)(m1:mI9 mg "is_whole" g1) :
  aL P w K mg base CX 2 f fd ["thing","bound"] qb0:=by
 refine F.ok qd5 (fun vs H Q E h=>?_) fun cdv A outer s H vs Q E hr h=>?_
 ·obtain⟨_,_,rfl,_⟩:=h;rfl
 obtain⟨i,b',rfl,h0,h1,q⟩:=h;refine⟨_,(aF (aX (kT (aH G1 hr rfl m1 k1 b1 .nil aK (aA (pv 0) aD)) (kT (iK Mn (pv 0) aE (bK _)) (qH (iK wM (pv 0) (pv 1) (bK _))))))),?_⟩;refine⟨_,rfl,_,rfl,.inl ⟨i,rfl,_,rfl,fI ⟨_,rfl,_,_,rfl,rfl,_,rfl,ifT (decide_eq_true h0) ⟨_,rfl,_,rfl,_,_,rfl,rfl,?_⟩⟩⟩⟩;show Q (.bl (decide (i < b'))) H;rw[decide_eq_true h1];exact q
abbrev sRS:Stmt:=top 48
theorem qd2:aQ ["word","size"] ["word","size"] (aI sRS):=sK9 rfl rfl rfl rfl (by decide +kernel)
theorem Zd {dV:Value}(F:aY K "refuse_size" "refuse_size" sRS dV f fd)(G1:aL P w K mg base CX0 2 g1 gd1 ["thing"] (Gq K))(b1:aM K gd1 ["thing"] [])(k1:kI9 K g1)(m1:mI9 mg "is_fraction" g1)(G2:aL P w K mg base CX0 3 g2 gd2 ["thing"] (Zq K))(b2:aM K gd2 ["thing"] [])(k2:kI9 K g2)(m2:mI9 mg "is_piece_size" g2) :
  aL P w K mg base CX 4 f fd ["word","size"] (Ys K):=by
 refine F.ok qd2 (fun vs H Q E h=>?_) fun cdv A outer s H vs Q E hr h=>?_
 ·obtain⟨_,_,_,rfl,_⟩:=h;rfl
 obtain⟨k,z,p,rfl,fz,hp,h0,hb,q⟩:=h;have r2:=hr.mono (show 2<=3 by lia);refine⟨_,(aC (cA (fV (dU (aH G1 r2 rfl m1 k1 b1 .nil aK (aA (pv 1) aD)))) (aF fY) bH)
  (aF (cA (PW.pt (uK (bG eZ (pv 0) cL (bK _)) (pG (fV (dU (aH G2 hr rfl m2 k2 b2 .nil aK (aA (pv 1) aD))))))) (aF fY) bH))),?_⟩
 refine⟨_,rfl,z,p,rfl,fz,hp,_,rfl,eY ?_⟩
 cases k
 ·exact⟨_,rfl,rfl,_,rfl,ifT (cT .pc .pc) ⟨_,rfl,z,p,_,rfl,fz,hp,h0 rfl,hb,by lia,_,rfl,eY q⟩⟩
 ·exact⟨_,rfl,rfl,_,rfl,ifF (cT .pu .pc) (eY q)⟩
 ·exact⟨_,rfl,rfl,_,rfl,ifF (cT .ho .pc) (eY q)⟩
theorem uQ:(["point","many"]:List Str).Nodup:=by decide +kernel
def Zk (K:Frag):Sp:=fun vs H Q _=>∃(l:Addr) (i j m:Int),vs=[.ref l,.int m]/\SqL K H l [.int i,.int j]/\0<=i/\i < m/\0<=j/\j < m/\∀H',aV H H'->Q .non H'
abbrev sRP:Stmt:=top 47
theorem qc7:aQ ["some","many"] ["some","many"] (aI sRP):=sK9 rfl rfl rfl rfl (by decide +kernel)
theorem qa9 {dV:Value}(F:aY K "refuse_points" "refuse_points" sRP dV f fd)(ma:mg "all"=none)(G1:aL P w K mg base CX0 2 g1 gd1 ["thing","bound"] qb0)(b1:aM K gd1 ["thing","bound"] [])(k1:kI9 K g1)(m1:mI9 mg "is_number_below" g1) :
  aL P w K mg base CX 3 f fd ["some","many"] (Zk K):=by
 refine F.ok qc7 (fun vs H Q E h=>?_) fun cdv A outer s H vs Q E hr h=>?_
 ·obtain⟨_,_,_,_,rfl,_⟩:=h;rfl
 obtain⟨l,i,j,m,rfl,hl,i0,i1,j0,j1,q⟩:=h;refine⟨_,(aF (cA (fV (dU (bN (oY rfl) rfl ma PyProof.Rows.boot_all (aA (eU (nl:=1) (fr:=[1]) (Nc:=["point","many"]) (cl:=[("many",s.heap.objs.size+1)]) rfl ⟨rfl,rfl,by decide +kernel,by decide +kernel,fun x c h=>h,eP rfl,rfl,fun i n h=>match i,h with | 0,h=>by cases h;exact⟨1,rfl,rfl,rfl,rfl,.inl rfl⟩ | k+1,h=>by rw[show 1+(k+1)=k+2 by lia] at h;cases h⟩
    (cU (pv 0)) (fun C s3 H3 fp pins=>(aZ (i:=0) uQ rfl (Or.inl rfl))) (fun C s3 H3 fp pins=>dL)
    (fun C s3 H3 fp pins=>(aH G1 hr rfl m1 k1 b1 .nil aK (aA (pv 0) (aA (pv 1) aD))))) aD)))) (aF fY) bH)),?_⟩
 refine⟨_,rfl,l,rfl,⟨_,hl⟩,fun D hD=>?_⟩;have sD:=aG hD (.lst []);refine dE (xs:=[.int i,.int j]) (fun k zs H'=>aV H H'/\H' D=some (.lst zs)/\zs=(replicate k true).map V.bl) ⟨sD,aB,rfl⟩ (fun k zs H' h=>h.2.1) (fun k zs H' _ h=>h.1.seq hl) ?_ ?_
 ·rintro k zs x H1 hx ⟨s1,e1,rfl⟩ C hC;have hk:k < 2:=(List.getElem?_eq_some_iff.mp hx).1;obtain⟨y,rfl,y0,y1⟩:∃y,x=.int y/\0<=y/\y < m:=by
   rcases mem_cons.mp (mem_of_getElem? hx) with z | z
   ·exact⟨i,z,i0,i1⟩
   ·exact⟨j,by simpa using z,j0,j1⟩
  refine⟨dD.1,dD.2,fI ?_⟩;refine⟨_,rfl,_,rfl,y,m,rfl,y0,y1,e1,bA (by rw[length_map,length_replicate];lia),hC _ _ ⟨s1.change hD,aB,?_⟩⟩;rw[replicate_succ',map_append];rfl
 ·rintro zs H1 ⟨s1,e1,rfl⟩;refine⟨D,_,rfl,SqL.of e1,_,rfl,ifF ?_ ?_⟩
  ·simp
  ·exact q _ s1
abbrev Dx:Stmt:=dM (top 45) 0
theorem Sl:aQ ["self","many"] ["self","many"] (aI Dx):=sK9 rfl rfl rfl rfl (by decide +kernel)
theorem Mv {dV:Value}{CN:Addr}(F:aY K "__init__" "Net.__init__" Dx dV f fd)(NTx:NT K mg CN){tM:Tok}(mMP:mg "MOST_POINTS"=some (.int 20 tM))(G1:aL P w K mg base CX0 1 g1 gd1 ["thing"] (oP K))(b1:aM K gd1 ["thing"] [])(k1:kI9 K g1)(m1:mI9 mg "is_whole" g1):aL P w K mg base CX 2 f fd ["self","many"] (Fb CN):=by
 refine F.ok Sl (fun vs H Q E h=>?_) fun cdv A outer s H vs Q E hr h=>?_
 ·obtain⟨_,_,_,rfl,_⟩:=h;rfl
 obtain⟨n,dx,m,rfl,hn,h1,h20,q⟩:=h;refine⟨_,(aC (cA (PW.pt (nT (fV (dU (aH G1 hr rfl m1 k1 b1 .nil aK (aA (pv 1) aD)))) (nT (bG wM (pv 1) aE (bK _)) (lW (bG zW (pv 1) (dI (v:=.int 20) rfl mMP ⟨_,rfl⟩) (bK _)))))) (aF fY) bH)
  (aC (mC (pv 0) (pv 1) rfl)
  (aF (mC (pv 0) (cZ aD) rfl)))),?_⟩
 refine⟨_,rfl,_,rfl,.inl ⟨m,rfl,_,rfl,eY ⟨_,rfl,_,_,rfl,rfl,_,rfl,ifF (decide_eq_false (by lia)) ⟨_,rfl,_,_,rfl,rfl,_,rfl,ifF (decide_eq_false (by lia)) ?_⟩⟩⟩⟩;refine⟨_,rfl,_,rfl,n,CN,dx,[],rfl,hn,NTx.cl,NTx.nP,(by show 0 < 1000;decide),?_⟩;refine⟨zl9 0,fun l hl=>?_⟩;have nl:n≠l:=fun z=>by subst z;rw[aB] at hl;cases hl
 have hl0:H l=none:=by rw[aU (Ne.symm nl)] at hl;exact hl
 have l1:=fA ("point_count":Str) (.int m) [];simp only[length_nil] at l1;refine⟨_,rfl,n,CN,dx,eX "point_count" (.int m) [],rfl,by rw[aU nl];exact aB,NTx.cl,NTx.nK,by lia,?_⟩;refine q l _ hl0 (fun b o e hb=>?_) aB (by rw[aU (Ne.symm nl)];exact aB);rw[aU hb,aU (bF e hl0),aU hb];exact e
abbrev Mi:Stmt:=dM (top 45) 1
theorem Va:aQ ["self"] ["self"] (aI Mi):=sK9 rfl rfl rfl rfl (by decide +kernel)
theorem Ri {dV:Value}{CN:Addr}(F:aY K "many" "Net.many" Mi dV f fd)(NTx:NT K mg CN):aL P w K mg base CX 1 f fd ["self"] (tF CN K):=by
 refine F.ok Va (fun vs H Q E h=>?_) fun cdv A outer s H vs Q E hr h=>?_
 ·obtain⟨_,_,_,_,rfl,_⟩:=h;rfl
 obtain⟨n,l,m,ds,rfl,⟨⟨dx,hn⟩,ts,hl,hr'⟩,q⟩:=h;exact⟨_,(aF (aX (bX (pv 0) rfl))),_,rfl,n,CN,dx,_,_,rfl,hn,NTx.cl,NTx.nP,Av _ _,q⟩
abbrev Cj:Stmt:=dM (top 45) 2
theorem Sf:aQ ["self"] ["self"] (aI Cj):=sK9 rfl rfl rfl rfl (by decide +kernel)
theorem Lz {dV:Value}{CN:Addr}(F:aY K "count" "Net.count" Cj dV f fd)(NTx:NT K mg CN)(ml:mg "len"=none):aL P w K mg base CX 1 f fd ["self"] (Eh CN K):=by
 refine F.ok Sf (fun vs H Q E h=>?_) fun cdv A outer s H vs Q E hr h=>?_
 ·obtain⟨_,_,_,_,rfl,_⟩:=h;rfl
 obtain⟨n,l,m,ds,rfl,⟨⟨dx,hn⟩,ts,hl,hr'⟩,q⟩:=h;refine⟨_,(aF (aX (bN bC rfl ml PySem.boot_len (aA (bX (pv 0) rfl) aD)))),_,rfl,n,CN,dx,_,_,rfl,hn,NTx.cl,NTx.nK,iT _ _,l,ts,rfl,.inl (SqL.of hl),?_⟩;rw[hr'.length];exact q
abbrev Wv:Stmt:=dM (top 45) 3
theorem Uh:aQ ["self","row","told"] ["self","row"] (aI Wv):=sK9 rfl rfl rfl rfl (by decide +kernel)
theorem Vp {dV:Value}{CN:Addr}(F:aY K "add" "Net.add" Wv dV f fd)(NTx:NT K mg CN){tR:Tok}(mMR:mg "MOST_ROWS"=some (.int 40 tR))(ml:mg "len"=none){gT:Addr}{gdT:FuncData}(T:RT K mg CR CK)(GT:aL P w K mg base CX0 2 gT gdT ["self"] (xE CK))(bT:aM K gdT ["self"] [])(mT:∀k,gL K (CK k) "told" gT)(G1:aL P w K mg base CX0 3 g1 gd1 ["some","many"] (Zk K))(b1:aM K gd1 ["some","many"] [])(k1:kI9 K g1)(m1:mI9 mg "refuse_points" g1)(G2:aL P w K mg base CX0 4 g2 gd2 ["word","size"] (Ys K))(b2:aM K gd2 ["word","size"] [])(k2:kI9 K g2)(m2:mI9 mg "refuse_size" g2):aL P w K mg base CX 5 f fd ["self","row"] (Up CN K CK):=by
 refine F.ok Uh (fun vs H Q E h=>?_) fun cdv A outer s H vs Q E hr h=>?_
 ·obtain⟨_,_,_,_,_,_,_,_,_,_,rfl,_⟩:=h;rfl
 obtain⟨n,l,x,z,m,ds,k,i,j,p,rfl,⟨⟨dx,hn⟩,ts,hl,hR⟩,rw,fz,⟨i0,i1,j0,j1,lp,h0,bp⟩,h40,q⟩:=h;have r2:=hr.mono (show 2<=4 by lia);have r3:=hr.mono (show 3<=4 by lia);refine⟨_,(aC (aR (i:=2) Uh.nd rfl (Or.inl rfl) (gA (f:=fun _=>gT) (fd:=fun _=>gdT) (sp:=fun _=>xE CK) (pv 1) T.cl mT (fun _=>GT) r2 (fun _=>bT) .nil aK))
  (aC (bY (aH G1 r3 rfl m1 k1 b1 .nil aK (aA (cZ (aA (aS aW (pv 2) aE (fun _ _=>rfl)) (aA (aS aW (pv 2) aE (fun _ _=>rfl)) aD))) (aA (bX (pv 0) rfl) aD))))
  (aC (bY (aH G2 hr rfl m2 k2 b2 .nil aK (aA (aS aW (pv 2) aE (fun _ _=>rfl)) (aA (aS aW (pv 2) aE (fun _ _=>rfl)) aD))))
  (aC (cA (bG Mn (bN bC rfl ml PySem.boot_len (aA (bX (pv 0) rfl) aD)) (dI (v:=.int 40) rfl mMR ⟨_,rfl⟩) (bK _)) (aF fY) bH)
  (aC (bY (jP PySem.F.plainAttrs_list PySem.F.slot_list_append PySem.F.type_list_append fD (bX (pv 0) rfl) (aA (pv 2) aD)))
  (aF (aX (aT jD (bN bC rfl ml PySem.boot_len (aA (bX (pv 0) rfl) aD)) aE)))))))),?_⟩
 obtain⟨dr,hx⟩:=id rw;have len:=hR.length;refine⟨_,rfl,k,x,dr,_,rfl,hx,(dZ _ _ _ (by decide +kernel) (by decide +kernel) (by decide +kernel)),x,k,_,_,_,rfl,rw,fun t ht=>?_⟩;have st:=aG ht (.tup [.str k.wd,.int i,.int j,.ref z]);have et:SqT K (upd H t (.tup [.str k.wd,.int i,.int j,.ref z])) t [.str k.wd,.int i,.int j,.ref z]:=SqT.of aB;generalize upd H t (.tup [.str k.wd,.int i,.int j,.ref z])=H1a at st et ⊢;have hn1:=st _ _ hn;have hl1:=st _ _ hl;refine⟨_,rfl,t,_,1,_,rfl,rfl,et,rfl,_,rfl,t,_,2,_,rfl,rfl,et,rfl,zl9 2,fun lq hlq=>?_⟩;have sq:=aG hlq (.lst [.int i,.int j]);have eq:upd H1a lq (.lst [.int i,.int j]) lq=some (.lst [.int i,.int j]):=aB;generalize upd H1a lq (.lst [.int i,.int j])=H1b at sq eq ⊢;have hnb:=sq _ _ hn1;refine⟨_,rfl,n,CN,dx,_,_,rfl,hnb,NTx.cl,NTx.nP,Av _ _,lq,i,j,m,rfl,SqL.of eq,i0,i1,j0,j1,fun H1 sc=>?_⟩;have sqc:=sq.trans sc;have st:=st.trans sqc;have et:=sqc.seqT et;have hn1:=sqc _ _ hn1;have hl1:=sqc _ _ hl1;refine⟨_,rfl,t,_,0,_,rfl,rfl,et,rfl,_,rfl,t,_,3,_,rfl,rfl,et,rfl,k,z,p,rfl,st.fq fz,lp,h0,bp,?_⟩;refine⟨_,rfl,n,CN,dx,_,_,rfl,hn1,NTx.cl,NTx.nK,iT _ _,l,ts,rfl,.inl (SqL.of hl1),_,_,rfl,rfl,_,rfl,ifF (decide_eq_false (by lia)) ?_⟩;refine⟨_,rfl,n,CN,dx,_,_,rfl,hn1,NTx.cl,NTx.nK,iT _ _,.inl ⟨rfl,_,SqL.of hl1⟩,_,rfl,l,ts,.ref t,rfl,rfl,hl1,bA (by lia),?_⟩;have nn:n≠l:=fM hn1 hl1 (fun z=>by cases z);have hn2:upd H1 l (.lst (ts++[.ref t])) n=some (.ins CN dx (mY m l)):=by rw[aU nn];exact hn1
 have hl2:upd H1 l (.lst (ts++[.ref t])) l=some (.lst (ts++[.ref t])):=aB;refine⟨_,rfl,n,CN,dx,_,_,rfl,hn2,NTx.cl,NTx.nK,iT _ _,l,_,rfl,.inl (SqL.of hl2),_,_,rfl,rfl,?_⟩;show Q (.int (((ts++[V.ref t]).length:Int) - 1)) _;rw[List.length_append,length_singleton,len,show (((ds.length+1:Nat):Int) - 1)=(ds.length:Int) by lia];refine q _ (st.x.write) ⟨⟨dx,hn2⟩,_,hl2,Rts.upd hl1 ((hR.same st).app (.cons et (st.fq fz) .nil))⟩
theorem Qr:(["told"]:List Str).Nodup:=by decide +kernel
abbrev Pd:Stmt:=dM (top 45) 5
theorem Yb:aQ ["self"] ["self"] (aI Pd):=sK9 rfl rfl rfl rfl (by decide +kernel)
theorem Sn {dV:Value}{CN:Addr}(F:aY K "rows" "Net.rows" Pd dV f fd)(NTx:NT K mg CN)(G1:aL P w K mg base CX0 3 g1 gd1 ["told"] (tI K CK))(b1:aM K gd1 ["told"] [])(k1:kI9 K g1)(m1:mI9 mg "row_of" g1):aL P w K mg base CX 4 f fd ["self"] (pS CN K CK):=by
 refine F.ok Yb (fun vs H Q E h=>?_) fun cdv A outer s H vs Q E hr h=>?_
 ·obtain⟨_,_,_,_,rfl,_⟩:=h;rfl
 obtain⟨n,l,m,ds,rfl,⟨⟨dx,hn⟩,ts,hl,hR⟩,h100,q⟩:=h;refine⟨_,(aF (aX (eU (nl:=1) (fr:=[]) (Nc:=["told"]) (cl:=[]) rfl ⟨rfl,rfl,by decide +kernel,by decide +kernel,fun x c h=>(by cases h),eP rfl,rfl,fun i n h=>(by simp at h)⟩
    (cU (bX (pv 0) rfl)) (fun C s3 H3 fp pins=>(aZ (i:=0) Qr rfl (Or.inl rfl))) (fun C s3 H3 fp pins=>dL)
    (fun C s3 H3 fp pins=>(aH G1 hr rfl m1 k1 b1 .nil aK (aA (pv 0) aD)))))),?_⟩
 have len:=hR.length;refine⟨_,rfl,n,CN,dx,_,_,rfl,hn,NTx.cl,NTx.nK,iT _ _,l,rfl,⟨_,SqL.of hl⟩,fun D hD=>?_⟩;have sD:=aG hD (.lst []);refine dE (xs:=ts) (fun i zs H'=>aV H H'/\H' D=some (.lst zs)/\gO CK K H' zs (ds.take i)) ⟨sD,aB,.nil⟩ (fun i zs H' h=>h.2.1) (fun i zs H' _ h=>h.1.seq (SqL.of hl)) ?_ ?_
 ·rintro i zs x H1 hx ⟨s1,e1,R1⟩ C hC;have hi:i < ds.length:=by
   have:=(List.getElem?_eq_some_iff.mp hx).1;lia
  obtain⟨⟨k,u,v,p⟩,hd⟩:∃d,ds[i]?=some d:=⟨_,getElem?_eq_getElem hi⟩
  obtain⟨t,z,et,ht,fz⟩:=hR.at hd;have ex:x=.ref t:=by rw[et] at hx;exact(Option.some.inj hx).symm
  subst ex;have lz:=R1.length;rw[length_take] at lz;refine⟨dD.1,dD.2,fI ?_⟩;refine⟨_,rfl,t,_,_,_,_,rfl,s1.seqT ht,k,rfl,fun y H2 s2 ny rw=>?_⟩;have e2:=s2 _ _ e1;refine⟨e2,bA (by lia),hC _ _ ⟨(s1.trans s2).change hD,aB,?_⟩⟩;rw[take_add_one,hd];exact gO.upd e2 ((R1.same s2).app (.cons rw ((s1.trans s2).fq fz) .nil))
 ·rintro zs H1 ⟨s1,e1,R1⟩;rw[len,take_length] at R1;exact q D zs H1 s1 hD e1 R1
theorem sQ {g:Addr}{gd:FuncData}(F:aL P w K mg base CX0 2 g gd ["thing"] (Kc K)):aL P w K mg base CX0 2 g gd ["thing"] (Gq K):=
 F.weak fun vs H Q E h=>by
  obtain⟨a,p,rfl,f,l,q⟩:=h;exact⟨_,some p,rfl,.fr f l,q⟩
theorem Tj {X:Cx}{K:Frag}(h:X.K=K)(hu:X.A.units+64 < cLine):OpR X (compareOp .Eq) (Ht K false):=by subst h;exact xM hu
theorem Tr {ps:List Q2}{j:Nat}(h:j < ps.length):ps[j]?=some (ps.getD j (0,1)):=jN h
abbrev Os:Stmt:=top 22
theorem Xi:aQ ["one","other"] ["one","other"] (aI Os):=sK9 rfl rfl rfl rfl (by decide +kernel)
theorem Sg {dV:Value}(F:aY K "over" "over" Os dV f fd)(G1:aL P w K mg base CX0 2 g1 gd1 ["top","bottom"] gM)(b1:aM K gd1 ["top","bottom"] [])(k1:kI9 K g1)(m1:mI9 mg "fraction" g1) :
  aL P w K mg base CX 3 f fd ["one","other"] (rZ K):=by
 refine F.ok Xi (fun vs H Q E h=>?_) fun cdv A outer s H vs Q E hr h=>?_
 ·obtain⟨_,_,_,_,_,_,rfl,_⟩:=h;rfl
 obtain⟨a,b,p,q,n,m,rfl,ha,hb,lp,lq,h0,bp,bq,hn,z⟩:=h;refine⟨_,(aC (cA (bG eZ (aS aW (pv 1) aE (fun _ _=>rfl)) aE (bK _)) (aF fY) bH)
  (aF (aX (aH G1 hr rfl m1 k1 b1 .nil aK (aA (aT cF (aS aW (pv 0) aE (fun _ _=>rfl)) (aS aW (pv 1) aE (fun _ _=>rfl))) (aA (aT cF (aS aW (pv 0) aE (fun _ _=>rfl)) (aS aW (pv 1) aE (fun _ _=>rfl))) aD)))))),?_⟩
 refine dR rfl hb ⟨rfl,_,rfl,?_⟩;rw[decide_eq_false (fun e=>absurd (show q.1=0 by injection e) (by lia))];refine eY ?_;refine dR rfl ha (cI rfl hb (cH bp.a bq.b (by lia) (by lia) ?_));exact cI rfl ha (dR rfl hb (cH bp.b bq.a (by lia) (by lia) ⟨_,_,n+m,rfl,oZ lp (by lia),bp.b.mul bq.a,by lia,z⟩))
end
section
variable {P:Program} {w:World} {K:Frag} {mg:Str->Option Value} {base:Heap} {f g1 g2 g3 g4 g5 g6 g7 g8:Addr} {fd gd1 gd2 gd3 gd4 gd5 gd6 gd7 gd8:FuncData} {CX:CXT}
variable {CR:Addr} {CK:Kd->Addr} {fW fJ fT fS:Kd->Addr} {fdW fdJ fdT fdS:Kd->FuncData}
abbrev Cd:Stmt:=top 65
theorem Pp:aQ ["line","column","amount"] ["line","column","amount"] (aI Cd):=sK9 rfl rfl rfl rfl (by decide +kernel)
theorem Kp {dV:Value}(F:aY K "raise_at" "raise_at" Cd dV f fd)(G1:aL P w K mg base CX0 3 g1 gd1 ["one","other"] (gC K Mq.plus))(b1:aM K gd1 ["one","other"] [])(k1:kI9 K g1)(m1:mI9 mg "plus" g1) :
  aL P w K mg base CX 4 f fd ["line","column","amount"] (rE K):=by
 refine F.ok Pp (fun vs H Q E h=>?_) fun cdv A outer s H vs Q E hr h=>?_
 ·obtain⟨_,_,_,_,_,_,_,_,rfl,_⟩:=h;rfl
 obtain⟨l,z,j,xs,ps,a,n,m,rfl,hl,hF,hj,p1,bp,fz,a1,ba,hn,q⟩:=h;refine⟨_,(aF (gV (aH G1 hr rfl m1 k1 b1 .nil aK (aA (aS bQ (pv 0) (pv 1) (fun _ _=>rfl)) (aA (pv 2) aD))) (jI (pv 0) (pv 1) gB))),?_⟩;have lx:=hF.length;obtain⟨u,eu,fu⟩:=hF.at (jN hj);refine⟨_,rfl,_,rfl,l,xs,_,_,rfl,rfl,SqL.of hl,bU eu,_,rfl,u,z,_,a,n,m,rfl,fu,fz,p1,a1,bp,ba,hn,fun v H1 s1 e1=>?_⟩;exact⟨_,rfl,_,rfl,l,xs,_,j,rfl,rfl,s1 _ _ hl,gZ (by lia),q v H1 s1 (Fq.of e1)⟩
abbrev Bn:Stmt:=top 64
theorem Rr:aQ ["matrix","row","column","amount"] ["matrix","row","column","amount"] (aI Bn):=sK9 rfl rfl rfl rfl (by decide +kernel)
theorem Mf {dV:Value}(F:aY K "enter_stream" "enter_stream" Bn dV f fd)(T:RT K mg CR CK){aN:Addr}(fN:∀H,Fq K H aN (0,1))(mNO:mI9 mg "NOUGHT" aN)(G1:aL P w K mg base CX0 4 g1 gd1 ["line","column","amount"] (rE K))(b1:aM K gd1 ["line","column","amount"] [])(k1:kI9 K g1)(m1:mI9 mg "raise_at" g1)(G2:aL P w K mg base CX0 3 g2 gd2 ["one","other"] (gC K Mq.minus))(b2:aM K gd2 ["one","other"] [])(k2:kI9 K g2)(m2:mI9 mg "minus" g2) :
  aL P w K mg base CX 5 f fd ["matrix","row","column","amount"] (zH K CK):=by
 refine F.ok Rr (fun vs H Q E h=>?_) fun cdv A outer s H vs Q E hr h=>?_
 ·obtain⟨_,_,_,_,_,_,_,_,_,_,_,_,rfl,_⟩:=h;rfl
 obtain⟨D,x,z,zz,as,M,⟨k0,u,v,p⟩,w,n,k,c,a,rfl,mx,mb,rw,pt,hc,fz,la,ba,hn,q⟩:=h;have r3:=hr.mono (show 3<=4 by lia);refine⟨_,(aC (bY (aH G1 hr rfl m1 k1 b1 .nil aK (aA (aS bQ (pv 0) (bX (pv 1) rfl) (fun _ _=>rfl)) (aA (pv 2) (aA (pv 3) aD)))))
  (aF (bY (aH G1 hr rfl m1 k1 b1 .nil aK (aA (aS bQ (pv 0) (bX (pv 1) rfl) (fun _ _=>rfl)) (aA (pv 2) (aA (aH G2 r3 rfl m2 k2 b2 .nil aK (aA (dI (v:=.ref aN) rfl mNO rfl) (aA (pv 3) aD))) aD))))))),?_⟩
 obtain⟨i0,i1,j0,j1⟩:cK (w:Int) u v:=pt;obtain⟨uN,rfl⟩:∃uN:Nat,u=(uN:Int):=⟨u.toNat,by lia⟩
 obtain⟨vN,rfl⟩:∃vN:Nat,v=(vN:Int):=⟨v.toNat,by lia⟩
 have hu':uN < w:=by lia
 have hv':vN < w:=by lia
 obtain⟨ln,bn,_⟩:=kC la ba;obtain⟨dx,hx⟩:=id rw;obtain⟨e1,m1,w1⟩:=mb.row hu';obtain⟨e2,l2,b2⟩:=mb.at hu' hc;have lam:=mx.la;obtain⟨a1,ha1⟩:∃a1,as[uN]?=some a1:=⟨_,getElem?_eq_getElem (by rw[lam,mb.h];exact hu')⟩
 obtain⟨xs,hxs,hF⟩:=mx.r uN a1 _ ha1 e1;have at1:atI (as.map V.ref) (uN:Int)=some (.ref a1):=bU (by rw[getElem?_map,ha1];rfl);refine⟨_,rfl,_,rfl,x,CK _,_,_,_,rfl,hx,T.cl _,T.nS _,cQ _ _ _,D,_,_,_,rfl,rfl,SqL.of mx.d,at1,_,rfl,_,rfl,a1,z,c,xs,_,a,n,k,rfl,hxs,hF,by rw[w1];exact hc,l2.pos,b2,fz,la.pos,ba,by lia,fun v1 H1 s1 f1=>?_⟩;obtain⟨mx2,sx2⟩:=mx.set (j:=c) ha1 e1 hxs hF s1 f1;have mb2:=mb.rz hu' hc la ba;generalize upd H1 a1 (.lst (xs.set c (.ref v1)))=H2 at mx2 sx2 ⊢;have mx2:Mx K H2 D as (rz M uN c a):=mx2;have ls:=mx.lsts;have fz2:Fq K H2 z a:=sx2.seqT ls fz;obtain⟨dx2,hx2⟩:=id (sx2.rw ls rw);obtain⟨e3,m3,w3⟩:=mb2.row hv';obtain⟨e4,l4,b4⟩:=mb2.at hv' hc;obtain⟨a2,ha2⟩:∃a2,as[vN]?=some a2:=⟨_,getElem?_eq_getElem (by rw[lam,mb.h];exact hv')⟩
 obtain⟨xs2,hxs2,hF2⟩:=mx2.r vN a2 _ ha2 e3;have at2:atI (as.map V.ref) (vN:Int)=some (.ref a2):=bU (by rw[getElem?_map,ha2];rfl);have b01:Bd 1 (0,1):=⟨show (0:Nat) < 2 ^ 1 by decide,show (1:Nat) < 2 ^ 1 by decide⟩
 refine⟨_,rfl,_,rfl,x,CK _,_,_,_,rfl,hx2,T.cl _,T.nG _,dA _ _ _,D,_,_,_,rfl,rfl,SqL.of mx2.d,at2,_,rfl,_,rfl,aN,z,(0,1),a,1,k,rfl,fN _,fz2,by decide,la.pos,b01,ba,by lia,fun v3 H3 s3 e5=>?_⟩;refine⟨a2,v3,c,xs2,_,_,n+k+1,k+2,rfl,s3 _ _ hxs2,hF2.same s3,by rw[w3];exact hc,l4.pos,b4,Fq.of e5,ln.pos,bn,by lia,fun v4 H4 s4 f4=>?_⟩;obtain⟨mx3,sx3⟩:=(mx2.same s3).set (j:=c) ha2 e3 (s3 _ _ hxs2) (hF2.same s3) s4 f4;exact q _ (sx2.trans (s3.sx.trans sx3)) mx3
abbrev zK:Stmt:=top 61
theorem Bh:aQ ["matrix","row","share"] ["matrix","row"] (aI zK):=sK9 rfl rfl rfl rfl (by decide +kernel)
theorem Hs {dV:Value}(F:aY K "enter_piece" "enter_piece" zK dV f fd)(T:RT K mg CR CK){aN aO:Addr}(fN:∀H,Fq K H aN (0,1))(mNO:mI9 mg "NOUGHT" aN)(fO:∀H,Fq K H aO (1,1))(mON:mI9 mg "ONE" aO)(G1:aL P w K mg base CX0 3 g1 gd1 ["one","other"] (rZ K))(b1:aM K gd1 ["one","other"] [])(k1:kI9 K g1)(m1:mI9 mg "over" g1)(G2:aL P w K mg base CX0 5 g2 gd2 ["matrix","row","column","amount"] (zH K CK))(b2:aM K gd2 ["matrix","row","column","amount"] [])(k2:kI9 K g2)(m2:mI9 mg "enter_stream" g2)(G3:aL P w K mg base CX0 3 g3 gd3 ["one","other"] (gC K Mq.minus))(b3:aM K gd3 ["one","other"] [])(k3:kI9 K g3)(m3:mI9 mg "minus" g3) :
  aL P w K mg base CX 6 f fd ["matrix","row"] (Bc K CK):=by
 refine F.ok Bh (fun vs H Q E h=>?_) fun cdv A outer s H vs Q E hr h=>?_
 ·obtain⟨_,_,_,_,_,_,_,_,_,rfl,_⟩:=h;rfl
 obtain⟨D,x,zz,as,M,⟨k0,u,v,p⟩,w,n,k,rfl,mx,mb,rw,fp,pt,lp,p0,bp,hn,q⟩:=h;have r3:=hr.mono (show 3<=5 by lia);refine⟨_,(aC (aR (i:=2) Bh.nd rfl (Or.inl rfl) (aH G1 r3 rfl m1 k1 b1 .nil aK (aA (dI (v:=.ref aO) rfl mON rfl) (aA (bX (pv 1) rfl) aD))))
  (aC (bY (aH G2 hr rfl m2 k2 b2 .nil aK (aA (pv 0) (aA (pv 1) (aA (bX (pv 1) rfl) (aA (pv 2) aD))))))
  (aF (bY (aH G2 hr rfl m2 k2 b2 .nil aK (aA (pv 0) (aA (pv 1) (aA (bX (pv 1) rfl) (aA (aH G3 r3 rfl m3 k3 b3 .nil aK (aA (dI (v:=.ref aN) rfl mNO rfl) (aA (pv 2) aD))) aD))))))))),?_⟩
 have lp:Low p:=lp;have p0:0 < p.1:=p0;have bp:Bd k p:=bp;have fp:Fq K H zz p:=fp;obtain⟨i0,i1,j0,j1⟩:cK (w:Int) u v:=pt;obtain⟨uN,rfl⟩:∃uN:Nat,u=(uN:Int):=⟨u.toNat,by lia⟩
 obtain⟨vN,rfl⟩:∃vN:Nat,v=(vN:Int):=⟨v.toNat,by lia⟩
 obtain⟨ls,bs,_⟩:=Af lp p0 bp;obtain⟨ln,bn,_⟩:=kC ls bs;have pt':cK (w:Int) (uN:Int) (vN:Int):=⟨i0,i1,j0,j1⟩
 obtain⟨dx,hx⟩:=id rw;refine⟨_,rfl,x,CK _,_,_,_,rfl,hx,T.cl _,T.nZ _,fZ _ _ _,aO,zz,(1,1),p,1,k,rfl,fO _,fp,h11,lp.pos,p0,iS,bp,by lia,fun s' H1 s1 e1=>?_⟩;have fs:Fq K H1 s' (mX (1,1) p):=Fq.of e1;have rw1:=rw.same s1;obtain⟨dx1,hx1⟩:=id rw1;have mx1:=mx.same s1;refine⟨_,rfl,_,rfl,_,rfl,x,CK _,_,_,_,rfl,hx1,T.cl _,T.nS _,cQ _ _ _,_,rfl,D,x,s',_,as,M,(k0,(uN:Int),(vN:Int),p),w,n,k+1,uN,_,rfl,mx1,mb,rw1,pt',by lia,fs,ls,bs,by lia,fun H2 sx2 mx2=>?_⟩;have lst:=mx1.lsts;have fs2:Fq K H2 s' (mX (1,1) p):=sx2.seqT lst fs;have rw2:=sx2.rw lst rw1;obtain⟨dx2,hx2⟩:=id rw2;obtain⟨mb2,_⟩:=zQ (d:=(k0,(uN:Int),(vN:Int),p)) mb pt' (c:=uN) (by lia) ls bs;have b01:Bd 1 (0,1):=⟨show (0:Nat) < 2 ^ 1 by decide,show (1:Nat) < 2 ^ 1 by decide⟩
 refine⟨_,rfl,_,rfl,_,rfl,x,CK _,_,_,_,rfl,hx2,T.cl _,T.nG _,dA _ _ _,_,rfl,aN,s',(0,1),_,1,k+1,rfl,fN _,fs2,by decide,ls.pos,b01,bs,by lia,fun v3 H3 s3 e3=>?_⟩;refine⟨D,x,v3,_,as,_,(k0,(uN:Int),(vN:Int),p),w,n+2*(k+1)+4,k+3,vN,_,rfl,mx2.same s3,mb2,rw2.same s3,pt',by lia,Fq.of e3,ln,bn,by lia,fun H4 sx4 mx4=>?_⟩;exact q H4 (s1.sx.trans (sx2.trans (s3.sx.trans sx4))) mx4
abbrev xT:Stmt:=top 62
theorem Oz:aQ ["right","row"] ["right","row"] (aI xT):=sK9 rfl rfl rfl rfl (by decide +kernel)
theorem Jp {dV:Value}(F:aY K "enter_push" "enter_push" xT dV f fd)(T:RT K mg CR CK){aN:Addr}(fN:∀H,Fq K H aN (0,1))(mNO:mI9 mg "NOUGHT" aN)(G1:aL P w K mg base CX0 4 g1 gd1 ["line","column","amount"] (rE K))(b1:aM K gd1 ["line","column","amount"] [])(k1:kI9 K g1)(m1:mI9 mg "raise_at" g1)(G2:aL P w K mg base CX0 3 g2 gd2 ["one","other"] (gC K Mq.minus))(b2:aM K gd2 ["one","other"] [])(k2:kI9 K g2)(m2:mI9 mg "minus" g2) :
  aL P w K mg base CX 5 f fd ["right","row"] (wY K CK):=by
 refine F.ok Oz (fun vs H Q E h=>?_) fun cdv A outer s H vs Q E hr h=>?_
 ·obtain⟨_,_,_,_,_,_,_,_,_,rfl,_⟩:=h;rfl
 obtain⟨R,x,zz,ys,rs,⟨k0,u,v,p⟩,w,n,k,rfl,eR,hF,lb,rw,fp,pt,lp,bp,hn,q⟩:=h;have r3:=hr.mono (show 3<=4 by lia);refine⟨_,(aC (bY (aH G1 hr rfl m1 k1 b1 .nil aK (aA (pv 0) (aA (bX (pv 1) rfl) (aA (aH G2 r3 rfl m2 k2 b2 .nil aK (aA (dI (v:=.ref aN) rfl mNO rfl) (aA (bX (pv 1) rfl) aD))) aD)))))
  (aF (bY (aH G1 hr rfl m1 k1 b1 .nil aK (aA (pv 0) (aA (bX (pv 1) rfl) (aA (bX (pv 1) rfl) aD))))))),?_⟩
 have lp:Low p:=lp;have bp:Bd k p:=bp;have fp:Fq K H zz p:=fp;obtain⟨i0,i1,j0,j1⟩:cK (w:Int) u v:=pt;obtain⟨uN,rfl⟩:∃uN:Nat,u=(uN:Int):=⟨u.toNat,by lia⟩
 obtain⟨vN,rfl⟩:∃vN:Nat,v=(vN:Int):=⟨v.toNat,by lia⟩
 obtain⟨ln,bn,_⟩:=kC lp bp;obtain⟨dx,hx⟩:=id rw;obtain⟨_,l1,b1⟩:=lb.at (j:=uN) (by lia);have b01:Bd 1 (0,1):=⟨show (0:Nat) < 2 ^ 1 by decide,show (1:Nat) < 2 ^ 1 by decide⟩
 refine⟨_,rfl,_,rfl,x,CK _,_,_,_,rfl,hx,T.cl _,T.nS _,cQ _ _ _,_,rfl,x,CK _,_,_,_,rfl,hx,T.cl _,T.nZ _,fZ _ _ _,aN,zz,(0,1),p,1,k,rfl,fN _,fp,by decide,lp.pos,b01,bp,by lia,fun v1 H1 s1 e1=>?_⟩;refine⟨R,v1,uN,ys,rs,_,n,k+2,rfl,s1 _ _ eR,hF.same s1,by rw[lb.w];lia,l1.pos,b1,Fq.of e1,ln.pos,bn,by lia,fun v2 H2 s2 f2=>?_⟩;have s12:=s1.trans s2;have eR2:=s12 _ _ eR;have F3:=(Fqs.set f2 uN (hF.same s12)).upd (o:=.lst (ys.set uN (.ref v2))) eR2;have e3:upd H2 R (.lst (ys.set uN (.ref v2))) R=some (.lst (ys.set uN (.ref v2))):=aB;have sx3:SX [R] H (upd H2 R (.lst (ys.set uN (.ref v2)))):=s12.sx.write (by simp);have fp3:Fq K (upd H2 R (.lst (ys.set uN (.ref v2)))) zz p:=SqT.upd (s12.fq fp) eR2;have rw3:=(rw.same s12).upd (o:=.lst (ys.set uN (.ref v2))) eR2;generalize upd H2 R (.lst (ys.set uN (.ref v2)))=H3 at F3 e3 sx3 fp3 rw3 ⊢;have lb3:=lb.rz (j:=uN) (by lia) ln bn;have F3:Fqs K H3 (ys.set uN (.ref v2)) (rzl rs uN (Mq.minus (0,1) p)):=F3;obtain⟨_,l4,b4⟩:=lb3.at (j:=vN) (by lia);obtain⟨dx3,hx3⟩:=id rw3;refine⟨_,rfl,_,rfl,x,CK _,_,_,_,rfl,hx3,T.cl _,T.nG _,dA _ _ _,_,rfl,x,CK _,_,_,_,rfl,hx3,T.cl _,T.nZ _,fZ _ _ _,R,zz,vN,_,_,p,n+(k+2)+1,k,rfl,e3,F3,by rw[lb3.w];lia,l4.pos,b4,fp3,lp.pos,bp,by lia,fun v5 H5 s5 f5=>?_⟩;refine q _ _ (sx3.trans (s5.sx.write (by simp))) aB ?_;exact(Fqs.set f5 vN (F3.same s5)).upd (s5 _ _ e3)
abbrev xN:Stmt:=top 63
theorem Lb:aQ ["matrix","right","row","column"] ["matrix","right","row","column"] (aI xN):=sK9 rfl rfl rfl rfl (by decide +kernel)
theorem Jl {dV:Value}(F:aY K "enter_hold" "enter_hold" xN dV f fd)(T:RT K mg CR CK){aN aO:Addr}(fN:∀H,Fq K H aN (0,1))(mNO:mI9 mg "NOUGHT" aN)(fO:∀H,Fq K H aO (1,1))(mON:mI9 mg "ONE" aO)(G1:aL P w K mg base CX0 5 g1 gd1 ["matrix","row","column","amount"] (zH K CK))(b1:aM K gd1 ["matrix","row","column","amount"] [])(k1:kI9 K g1)(m1:mI9 mg "enter_stream" g1)(G2:aL P w K mg base CX0 4 g2 gd2 ["line","column","amount"] (rE K))(b2:aM K gd2 ["line","column","amount"] [])(k2:kI9 K g2)(m2:mI9 mg "raise_at" g2)(G3:aL P w K mg base CX0 3 g3 gd3 ["one","other"] (gC K Mq.minus))(b3:aM K gd3 ["one","other"] [])(k3:kI9 K g3)(m3:mI9 mg "minus" g3) :
  aL P w K mg base CX 6 f fd ["matrix","right","row","column"] (Al K CK):=by
 refine F.ok Lb (fun vs H Q E h=>?_) fun cdv A outer s H vs Q E hr h=>?_
 ·obtain⟨_,_,_,_,_,_,_,_,_,_,_,_,rfl,_⟩:=h;rfl
 obtain⟨D,R,x,zz,as,M,ys,rs,⟨k0,u,v,p⟩,w,n,c,rfl,mx,mb,eR,hFR,lr,nRD,nRa,rw,fp,pt,hc,hn,q⟩:=h;have r3:=hr.mono (show 3<=5 by lia);have r4:=hr.mono (show 4<=5 by lia);refine⟨_,(aC (bY (aH G1 hr rfl m1 k1 b1 .nil aK (aA (pv 0) (aA (pv 2) (aA (pv 3) (aA (dI (v:=.ref aO) rfl mON rfl) aD))))))
  (aC (bY (aH G2 r4 rfl m2 k2 b2 .nil aK (aA (aS bQ (pv 0) (pv 3) (fun _ _=>rfl)) (aA (bX (pv 2) rfl) (aA (dI (v:=.ref aO) rfl mON rfl) aD)))))
  (aC (bY (aH G2 r4 rfl m2 k2 b2 .nil aK (aA (aS bQ (pv 0) (pv 3) (fun _ _=>rfl)) (aA (bX (pv 2) rfl) (aA (aH G3 r3 rfl m3 k3 b3 .nil aK (aA (dI (v:=.ref aN) rfl mNO rfl) (aA (dI (v:=.ref aO) rfl mON rfl) aD))) aD)))))
  (aF (gV (bX (pv 2) rfl) (jI (pv 1) (pv 3) gB)))))),?_⟩
 have fp:Fq K H zz p:=fp;obtain⟨i0,i1,j0,j1⟩:cK (w:Int) u v:=pt;obtain⟨uN,rfl⟩:∃uN:Nat,u=(uN:Int):=⟨u.toNat,by lia⟩
 obtain⟨vN,rfl⟩:∃vN:Nat,v=(vN:Int):=⟨v.toNat,by lia⟩
 have pt':cK (w:Int) (uN:Int) (vN:Int):=⟨i0,i1,j0,j1⟩
 obtain⟨ln,bn,_⟩:=kC jA iS;have lam:=mx.la;refine⟨_,rfl,_,rfl,_,rfl,D,x,aO,_,as,M,(k0,(uN:Int),(vN:Int),p),w,n,1,c,(1,1),rfl,mx,mb,rw,pt',hc,fO _,jA,iS,by lia,fun H1 sx1 mx1=>?_⟩;have lst:=mx.lsts;have rw1:=sx1.rw lst rw;have fp1:Fq K H1 zz p:=sx1.seqT lst fp;have eR1:=sx1 _ _ eR nRa;have FR1:=SX.fqs lst sx1 hFR;obtain⟨mb1,_⟩:=zQ (d:=(k0,(uN:Int),(vN:Int),p)) mb pt' hc jA iS;generalize hM1:en M (k0,(uN:Int),(vN:Int),p) c (1,1)=M1 at mx1 mb1;obtain⟨ac,hac⟩:∃ac,as[c]?=some ac:=⟨_,getElem?_eq_getElem (by rw[lam,mb.h];exact hc)⟩
 have atc:atI (as.map V.ref) (c:Int)=some (.ref ac):=bU (by rw[getElem?_map,hac];rfl);obtain⟨e1,m1,w1⟩:=mb1.row hc;obtain⟨_,l2,b2⟩:=mb1.at hc (j:=uN) (by lia);obtain⟨xs,hxs,hF⟩:=mx1.r c ac _ hac e1;obtain⟨dx1,hx1⟩:=id rw1;refine⟨_,rfl,_,rfl,D,_,_,_,rfl,rfl,SqL.of mx1.d,atc,_,rfl,x,CK _,_,_,_,rfl,hx1,T.cl _,T.nS _,cQ _ _ _,ac,aO,uN,xs,_,(1,1),n+2*1+4,1,rfl,hxs,hF,by rw[w1];lia,l2.pos,b2,fO _,h11,iS,by lia,fun v1 H2 s2 f2=>?_⟩;obtain⟨mx3,sx3⟩:=mx1.set (j:=uN) hac e1 hxs hF s2 f2;have lst1:=mx1.lsts;generalize upd H2 ac (.lst (xs.set uN (.ref v1)))=H3 at mx3 sx3 ⊢;have mb3:=mb1.rz hc (j:=uN) (by lia) jA iS;have mx3:Mx K H3 D as (rz M1 c uN (1,1)):=mx3;have rw3:=sx3.rw lst1 rw1;have fp3:Fq K H3 zz p:=sx3.seqT lst1 fp1;have eR3:=sx3 _ _ eR1 nRa;have FR3:=SX.fqs lst1 sx3 FR1;generalize hM3:rz M1 c uN (1,1)=M3 at mx3 mb3;obtain⟨e3,m3,w3⟩:=mb3.row hc;obtain⟨_,l4,b4⟩:=mb3.at hc (j:=vN) (by lia);obtain⟨xs3,hxs3,hF3⟩:=mx3.r c ac _ hac e3;obtain⟨dx3,hx3⟩:=id rw3;refine⟨_,rfl,_,rfl,D,_,_,_,rfl,rfl,SqL.of mx3.d,atc,_,rfl,x,CK _,_,_,_,rfl,hx3,T.cl _,T.nG _,dA _ _ _,aN,aO,(0,1),(1,1),1,1,rfl,fN _,fO _,by decide,h11,⟨show (0:Nat) < 2 ^ 1 by decide,show (1:Nat) < 2 ^ 1 by decide⟩,iS,by lia,fun v4 H4 s4 e4=>?_⟩;refine⟨ac,v4,vN,xs3,_,_,n+2*1+4+1+1,1+2,rfl,s4 _ _ hxs3,hF3.same s4,by rw[w3];lia,l4.pos,b4,Fq.of e4,ln.pos,bn,by lia,fun v5 H5 s5 f5=>?_⟩;obtain⟨mx6,sx6⟩:=(mx3.same s4).set (j:=vN) hac e3 (s4 _ _ hxs3) (hF3.same s4) s5 f5;have sx36:=(aV.sx (as:=as) s4).trans sx6;have lst3:=mx3.lsts;generalize upd H5 ac (.lst (xs3.set vN (.ref v5)))=H6 at mx6 sx6 sx36 ⊢;have mx6:Mx K H6 D as (rz M3 c vN (Mq.minus (0,1) (1,1))):=mx6;have rw6:=sx36.rw lst3 rw3;have fp6:Fq K H6 zz p:=sx36.seqT lst3 fp3;have eR6:=sx36 _ _ eR3 nRa;have FR6:=SX.fqs lst3 sx36 FR3;obtain⟨dx6,hx6⟩:=id rw6;have ly:=FR6.length;refine⟨_,rfl,x,CK _,_,_,_,rfl,hx6,T.cl _,T.nZ _,fZ _ _ _,_,rfl,_,rfl,R,ys,_,c,rfl,rfl,eR6,gZ (by lia),?_⟩;have eM:hM M (k0,(uN:Int),(vN:Int),p) c=rz M3 c vN (Mq.minus (0,1) (1,1)):=by rw[<- hM3,<- hM1];rfl
 have mx7:=mx6.other (o:=.lst (ys.set c (.ref zz))) eR6 nRD nRa;rw[<- eM] at mx7;refine q _ _ ?_ mx7 aB ((Fqs.set fp6 c FR6).upd eR6);refine SX.write (SX.mono (sx1.trans (sx3.trans sx36)) fun x hx=>mem_cons_of_mem _ hx) (by simp)
theorem iX {K:Frag}{H:Hp}{t:Addr}{p:Q2}(f:Fq K H t p):∀n,Fqs K H (replicate n (.ref t)) (replicate n p)
 |0=>.nil
 |n+1=>.cons f (iX f n)
theorem iN (x:V):∀n,(replicate n [x]).flatten=replicate n x
 |0=>rfl
 |n+1=>by rw[replicate_succ,flatten_cons,iN x n];rfl
theorem wC (xs:List V)(k:Nat):kO xs (some (k:Int)) none=xs.drop k:=by
 unfold kO;have h1:HT.sIx xs.length xs.length none=xs.length:=rfl;have h2:HT.sIx xs.length 0 (some (k:Int))=min k xs.length:=by simp[HT.sIx];lia
 rw[h1,h2]
 by_cases h:k<=xs.length
 ·rw[Nat.min_eq_left h,take_of_length_le (by simp)]
 ·rw[Nat.min_eq_right (by lia),drop_of_length_le (Nat.le_refl _),drop_of_length_le (by lia)];simp
theorem Of (xs:List V):kO xs (some 1) none=xs.drop 1:=wC xs 1
theorem Hd {X:Cx}{K:Frag}(h:X.K=K):SlR X (Zi K):=by subst h;exact kG
theorem tH (R:List Q2)(j:Nat):(R.drop 1).getD j (0,1)=R.getD (j+1) (0,1):=by
 rw[getD_eq_getElem?_getD,getElem?_drop,Nat.add_comm 1 j,getD_eq_getElem?_getD]
theorem Jh (M:List (List Q2))(i j:Nat):jH ((M.drop 1).map (List.drop 1)) i j=jH M (i+1) (j+1):=by
 have e:((M.drop 1).map (List.drop 1)).getD i []=(M.getD (i+1) []).drop 1:=by
  rw[getD_eq_getElem?_getD,getElem?_map,getElem?_drop,Nat.add_comm 1 i,getD_eq_getElem?_getD]
  cases M[i+1]?<;>rfl
 unfold jH;rw[e,tH]
theorem Ou {M:List (List Q2)}{w n:Nat}(b:MxB M w w n):MxB ((M.drop 1).map (List.drop 1)) (w - 1) (w - 1) n:=by
 refine⟨by rw[length_map,length_drop,b.h],fun ps hp=>?_,fun ps hp p hp'=>?_⟩
 ·obtain⟨qs,hq,rfl⟩:=mem_map.mp hp;rw[length_drop,b.w _ (mem_of_mem_drop hq)]
 ·obtain⟨qs,hq,rfl⟩:=mem_map.mp hp;exact b.l _ (mem_of_mem_drop hq) _ (mem_of_mem_drop hp')
theorem Ke {R:List Q2}{w n:Nat}(b:LnB R w n):LnB (R.drop 1) (w - 1) n:=⟨by rw[length_drop,b.w],fun p hp=>b.l p (mem_of_mem_drop hp)⟩
theorem Sw (w:Nat):MxB (replicate w (replicate w (0,1))) w w 1:=by
 refine⟨length_replicate,fun ps hp=>?_,fun ps hp p hp'=>?_⟩
 ·rw[eq_of_mem_replicate hp,length_replicate]
 ·rw[eq_of_mem_replicate hp] at hp';rw[eq_of_mem_replicate hp'];exact⟨⟨by decide,by decide⟩,⟨show (0:Nat) < 2 ^ 1 by decide,show (1:Nat) < 2 ^ 1 by decide⟩⟩
theorem wX (w j:Nat):(replicate w ((0,1):Q2)).getD j (0,1)=(0,1):=by
 rw[getD_eq_getElem?_getD]
 cases e:(replicate w ((0,1):Q2))[j]? with
 |none=>rfl
 |some p=>exact eq_of_mem_replicate (mem_of_getElem? e)
theorem Oa (w i j:Nat):jH (replicate w (replicate w (0,1))) i j=(0,1):=by
 have e:(replicate w (replicate w ((0,1):Q2))).getD i []=[]\/(replicate w (replicate w ((0,1):Q2))).getD i []=replicate w (0,1):=by
  rw[getD_eq_getElem?_getD]
  cases e:(replicate w (replicate w ((0,1):Q2)))[i]? with
  |none=>exact .inl rfl
  |some ps=>exact .inr (eq_of_mem_replicate (mem_of_getElem? e))
 unfold jH;rcases e with e | e
 ·rw[e];rfl
 ·rw[e];exact wX w j
theorem Ql (w:Nat):LnB (replicate w (0,1)) w 1:=⟨length_replicate,fun p hp=>by
 rw[eq_of_mem_replicate hp];exact⟨⟨by decide,by decide⟩,⟨show (0:Nat) < 2 ^ 1 by decide,show (1:Nat) < 2 ^ 1 by decide⟩⟩⟩
theorem Lg {ds:List RD}(i:Nat):bL (ds.take i)<=bL ds:=by
 have h:bL ds=bL (ds.take i)+bL (ds.drop i):=by
  unfold bL iP;rw[<- List.length_append,<- filter_append,take_append_drop]
 lia
theorem Xu:(["row"]:List Str).Nodup:=by decide +kernel
theorem uT:(["line","width"]:List Str).Nodup:=by decide +kernel
theorem Pq:(["line"]:List Str).Nodup:=by decide +kernel
theorem Fqs.drop1 {K:Frag}{H:Hp}:∀{xs:List V} {ps:List Q2},Fqs K H xs ps->Fqs K H (xs.drop 1) (ps.drop 1)
 |_,_,.nil=>.nil
 |_,_,.cons _ q=>q
abbrev Wl:Stmt:=top 60
theorem pA:aQ ["net","rows","many","width","matrix","right","held","row"] ["net"] (aI Wl):=sK9 rfl rfl rfl rfl (by decide +kernel)
theorem Ve {dV:Value}(F:aY K "equations" "equations" Wl dV f fd){CN:Addr}(NTx:NT K mg CN)(T:RT K mg CR CK)(ml:mg "len"=none)(mr:mg "range"=none){aN:Addr}(fN:∀H,Fq K H aN (0,1))(mNO:mI9 mg "NOUGHT" aN)(GW:∀k,aL P w K mg base CX0 1 (fW k) (fdW k) ["self"] (jW k))(bW:∀k,aM K (fdW k) ["self"] [])(mW:∀k,gL K (CK k) "word" (fW k)){gRo:Addr}{gdRo:FuncData}(GRo:aL P w K mg base CX0 4 gRo gdRo ["self"] (pS CN K CK))(bRo:aM K gdRo ["self"] [])(mRo:gL K CN "rows" gRo){gMa:Addr}{gdMa:FuncData}(GMa:aL P w K mg base CX0 1 gMa gdMa ["self"] (tF CN K))(bMa:aM K gdMa ["self"] [])(mMa:gL K CN "many" gMa)(G1:aL P w K mg base CX0 6 g1 gd1 ["matrix","row"] (Bc K CK))(b1:aM K gd1 ["matrix","row"] [])(k1:kI9 K g1)(m1:mI9 mg "enter_piece" g1)(G2:aL P w K mg base CX0 5 g2 gd2 ["right","row"] (wY K CK))(b2:aM K gd2 ["right","row"] [])(k2:kI9 K g2)(m2:mI9 mg "enter_push" g2)(G3:aL P w K mg base CX0 6 g3 gd3 ["matrix","right","row","column"] (Al K CK))(b3:aM K gd3 ["matrix","right","row","column"] [])(k3:kI9 K g3)(m3:mI9 mg "enter_hold" g3) :
  aL P w K mg base CX 7 f fd ["net"] (Kf CN K):=by
 refine F.ok pA (fun vs H Q E h=>?_) fun cdv A outer s H vs Q E hr h=>?_
 ·obtain⟨_,_,_,_,_,_,rfl,_⟩:=h;rfl
 obtain⟨n,l,m,kb,wb,ds,rfl,nt,hK,hm1,hm20,h40,hbig,q⟩:=h;have r1:=hr.mono (show 1<=6 by lia);have r4:=hr.mono (show 4<=6 by lia);have r5:=hr.mono (show 5<=6 by lia);refine⟨_,(aC (aR (i:=1) pA.nd rfl (Or.inl rfl) (fX (pv 0) NTx.cl mRo GRo r4 bRo .nil aK))
  (aC (aR (i:=2) pA.nd rfl (Or.inl rfl) (fX (pv 0) NTx.cl mMa GMa r1 bMa .nil aK))
  (aC (aR (i:=3) pA.nd rfl (Or.inr rfl) (aT cW (pv 2) (bN bC rfl ml PySem.boot_len (aA (eU (nl:=1) (fr:=[]) (Nc:=["row"]) (cl:=[]) rfl ⟨rfl,rfl,by decide +kernel,by decide +kernel,fun x c h=>(by cases h),eP rfl,rfl,fun i n h=>(by simp at h)⟩
    (cU (pv 1)) (fun C s3 H3 fp pins=>(aZ (i:=0) Xu rfl (Or.inl rfl))) (fun C s3 H3 fp pins=>(yN (bG eZ (gA (pv 0) T.cl mW GW r1 bW .nil aK) cL (bK _))))
    (fun C s3 H3 fp pins=>(pv 0))) aD))))
  (aC (oQ (i:=4) (nl:=1) (fr:=[3]) (Nc:=["line","width"]) (cl:=[("width",s.heap.objs.size+1)]) pA.nd rfl rfl rfl ⟨rfl,rfl,by decide +kernel,by decide +kernel,fun x c h=>h,eP rfl,rfl,fun i n h=>match i,h with | 0,h=>by cases h;exact⟨3,rfl,rfl,rfl,rfl,.inl rfl⟩ | k+1,h=>by rw[show 1+(k+1)=k+2 by lia] at h;cases h⟩
    (gW rfl mr (aA (pv 3) aD)) (fun C s3 H3 fp pins=>(aZ (i:=0) uT rfl (Or.inl rfl))) (fun C s3 H3 fp pins=>dL)
    (fun C s3 H3 fp pins=>(aT qM (cZ (aA (dI (v:=.ref aN) rfl mNO rfl) aD)) (pv 1))) rfl)
  (aC (aR (i:=5) pA.nd rfl (Or.inl rfl) (aT qM (cZ (aA (dI (v:=.ref aN) rfl mNO rfl) aD)) (pv 3)))
  (aC (aR (i:=6) pA.nd rfl (Or.inl rfl) (pv 2))
  (aC (dW PassesOwn.never rfl (cU (pv 1)) (aZ (i:=7) pA.nd rfl (Or.inl rfl))
   (aF (cA (bG eZ (gA (pv 7) T.cl mW GW r1 bW .nil aK) cL (bK _)) (aF (bY (aH G1 hr rfl m1 k1 b1 .nil aK (aA (pv 4) (aA (pv 7) aD))))) (aF (cA (bG eZ (gA (pv 7) T.cl mW GW r1 bW .nil aK) cL (bK _)) (aF (bY (aH G2 r5 rfl m2 k2 b2 .nil aK (aA (pv 5) (aA (pv 7) aD))))) (aC (bY (aH G3 hr rfl m3 k3 b3 .nil aK (aA (pv 4) (aA (pv 5) (aA (pv 7) (aA (pv 6) aD))))))
  (aF (Dj (i:=6) pA.nd rfl (Or.inl rfl) aE Eb))))))))
  (aF (aX (dH (aA (eU (nl:=1) (fr:=[]) (Nc:=["line"]) (cl:=[]) rfl ⟨rfl,rfl,by decide +kernel,by decide +kernel,fun x c h=>(by cases h),eP rfl,rfl,fun i n h=>(by simp at h)⟩
    (cU (iY kG (pv 4) (iL aE) oX)) (fun C s3 H3 fp pins=>(aZ (i:=0) Pq rfl (Or.inl rfl))) (fun C s3 H3 fp pins=>dL)
    (fun C s3 H3 fp pins=>(iY (Hd (K:=K) rfl) (pv 0) (iL aE) oX))) (aA (iY kG (pv 5) (iL aE) oX) aD)))))))))))),?_⟩
 obtain⟨dx,hn⟩:=nt.ob;refine⟨_,rfl,n,dx,_,rfl,hn,fQ _ _ (by decide +kernel) (by decide +kernel),n,l,_,ds,rfl,nt,by lia,fun a xs H1 s1 na ea Rb=>?_⟩;have lxs:=Rb.length;obtain⟨dx1,hn1⟩:=(nt.same s1).ob;refine⟨_,rfl,n,dx1,_,rfl,hn1,fQ _ _ (by decide +kernel) (by decide +kernel),n,l,_,ds,rfl,nt.same s1,?_⟩;refine⟨_,rfl,_,rfl,a,rfl,⟨_,SqL.of ea⟩,fun C0 hC0=>?_⟩;have sC0:=aG hC0 (.lst []);refine dE (xs:=xs) (fun i zs H'=>aV H1 H'/\H' C0=some (.lst zs)/\zs.length=bL (ds.take i)) ⟨sC0,aB,rfl⟩ (fun i zs H' h=>h.2.1) (fun i zs H' _ h=>h.1.seq (SqL.of ea)) ?_ ?_
 ·rintro i zs x H2 hx ⟨s2,e2,lz⟩ C hC;have hi:i < ds.length:=by
   have:=(List.getElem?_eq_some_iff.mp hx).1;lia
  obtain⟨⟨k0,u,v,p⟩,hd⟩:∃d,ds[i]?=some d:=⟨_,getElem?_eq_getElem hi⟩
  obtain⟨y,z,ey,rw,fz⟩:=Rb.at hd;have ex:x=.ref y:=by rw[ey] at hx;exact(Option.some.inj hx).symm
  subst ex;obtain⟨dr,hy⟩:=id (rw.same s2);have et:ds.take (i+1)=ds.take i++[(k0,u,v,p)]:=by rw[take_add_one,hd];rfl
  have lh:=Lg (ds:=ds) i;have lh2:bL ds<=ds.length:=length_filter_le _ _;refine⟨dD.1,dD.2,?_⟩;refine⟨_,rfl,k0,y,dr,_,rfl,hy,(dZ _ _ _ (by decide +kernel) (by decide +kernel) (by decide +kernel)),_,rfl,rfl,_,rfl,?_⟩
  by_cases hk:k0=.ho
  ·refine ifT (by show decide (V.str k0.wd=V.str Kd.ho.wd)=true;rw[cT];exact decide_eq_true hk) ⟨_,rfl,e2,bA (by lia),hC _ _ ⟨s2.change hC0,aB,?_⟩⟩;rw[et,hG,List.length_append,lz];show _+1=_+bV k0;unfold bV;rw[if_pos hk]
  ·refine ifF (by show decide (V.str k0.wd=V.str Kd.ho.wd)=false;rw[cT];exact decide_eq_false hk) (hC _ _ ⟨s2,e2,?_⟩);rw[et,hG,lz];show _=_+bV k0;unfold bV;rw[if_neg hk];rfl
 rintro zs0 H2 ⟨s2,e2,lz0⟩;rw[lxs,take_length] at lz0;refine⟨C0,zs0,rfl,.inl (SqL.of e2),_,_,rfl,rfl,?_⟩;obtain⟨W,hW⟩:∃W:Nat,W=m+bL ds:=⟨_,rfl⟩
 have lh2:bL ds<=ds.length:=length_filter_le _ _;have eW:(m:Int)+(zs0.length:Int)=(W:Int):=by rw[lz0,hW];lia
 show gE _ _ _ [some (.ref n),some (.ref a),some (.int (m:Int)),some (.int ((m:Int)+(zs0.length:Int))),none,none,none,none] H2;rw[eW];have hW60:W<=60:=by lia
 have hmW:m<=W:=by lia
 have s12:=s2;clear e2 sC0;refine⟨_,rfl,(W:Int),rfl,by lia,by lia,fun D hD=>?_⟩;rw[Int.toNat_natCast];have sD:=aG hD (.lst []);refine oG (n:=W) (fun i zs H'=>aV H2 H'/\H' D=some (.lst zs)/\∃as:List Addr,zs=as.map V.ref/\as.length=i/\as.Nodup/\D∉as/\(∀b∈as,H2 b=none)/\∀b∈as,H' b=some (.lst (replicate W (.ref aN)))) ⟨sD,aB,[],rfl,rfl,nodup_nil,(by simp),(fun b hb=>by cases hb),(fun b hb=>by cases hb)⟩ (fun i zs H' h=>h.2.1) ?_ ?_
 ·rintro i zs H3 hi ⟨s3,e3,as,rfl,la,nd,nD,fr,al⟩ C hC;refine⟨dD.1,dD.2,fI ?_⟩;refine⟨zl9 1,fun l1 hl1=>?_⟩;have s4:=aG hl1 (.lst [.ref aN]);have e4:upd H3 l1 (.lst [.ref aN]) l1=some (.lst [.ref aN]):=aB;generalize upd H3 l1 (.lst [.ref aN])=H4 at s4 e4 ⊢;refine⟨_,rfl,l1,(W:Int),[.ref aN],rfl,rfl,e4,by lia,by lia,?_,fun b hb=>?_⟩
  ·rw[Int.toNat_natCast,sizeLine_eq];simp only[length_cons,length_nil];lia
  rw[Int.toNat_natCast,iN];have s5:=aG hb (.lst (replicate W (.ref aN)));have e5:upd H4 b (.lst (replicate W (.ref aN))) b=some (.lst (replicate W (.ref aN))):=aB;generalize upd H4 b (.lst (replicate W (.ref aN)))=H5 at s5 e5 ⊢;have s35:=s4.trans s5;have e35:=s35 _ _ e3;have nbD:b≠D:=Ne.symm (bF (s4 _ _ e3) hb);have nba:b∉as:=fun z=>by rw[s4 _ _ (al b z)] at hb;cases hb
  refine⟨e35,bA (by rw[length_map];lia),hC _ _ ⟨(s3.trans s35).change hD,aB,as++[b],by rw[map_append];rfl,by rw[List.length_append,la];rfl,?_,?_,fun c hc=>?_,fun c hc=>?_⟩⟩
  ·rw[nodup_append];refine⟨nd,by simp,fun x hx y hy z=>?_⟩;have:y=b:=by simpa using hy
   exact nba (by rw[<- this,<- z];exact hx)
  ·intro z;rcases mem_append.mp z with z | z
   ·exact nD z
   ·have:D=b:=by simpa using z
    exact nbD this.symm
  ·rcases mem_append.mp hc with z | z
   ·exact fr c z
   ·have:c=b:=by simpa using z
    rw[this];exact(s3.trans s4).free hb
  ·rcases mem_append.mp hc with z | z
   ·rw[aU (fun y=>nD (by rw[<- y];exact z))];exact s35 _ _ (al c z)
   ·have:c=b:=by simpa using z
    rw[this,aU nbD];exact e5
 rintro zs3 H3 ⟨s3,e3,as,rfl,la,nd,nD,fr,al⟩;have mx3:Mx K H3 D as (replicate W (replicate W (0,1))):=⟨e3,nd,nD,by rw[la,length_replicate],fun i b ps h1 h2=>by
  rw[eq_of_mem_replicate (mem_of_getElem? h2)];exact⟨_,al b (mem_of_getElem? h1),iX (fN _) W⟩⟩
 have nDH:H2 D=none:=hD;refine⟨zl9 1,fun l1 hl1=>?_⟩;have s4:=aG hl1 (.lst [.ref aN]);have e4:upd H3 l1 (.lst [.ref aN]) l1=some (.lst [.ref aN]):=aB;generalize upd H3 l1 (.lst [.ref aN])=H4 at s4 e4 ⊢;refine⟨_,rfl,l1,(W:Int),[.ref aN],rfl,rfl,e4,by lia,by lia,?_,fun R hR=>?_⟩
 ·rw[Int.toNat_natCast,sizeLine_eq];simp only[length_cons,length_nil];lia
 rw[Int.toNat_natCast,iN];have s5:=aG hR (.lst (replicate W (.ref aN)));have e5:upd H4 R (.lst (replicate W (.ref aN))) R=some (.lst (replicate W (.ref aN))):=aB;generalize upd H4 R (.lst (replicate W (.ref aN)))=H5 at s5 e5 ⊢;have s25:=s3.trans (s4.trans s5);have nRH:H2 R=none:=(s3.trans s4).free hR;have nRD:R≠D:=Ne.symm (bF ((s4) _ _ mx3.d) hR);have nRa:R∉as:=fun z=>by rw[s4 _ _ (al R z)] at hR;cases hR
 have mx5:=(mx3.same s4).same s5;have allN:∀b∈R :: as,H2 b=none:=fun b hb=>by
  rcases mem_cons.mp hb with z | z
  ·rw[z];exact nRH
  ·exact fr b z
 have F5:Fqs K H5 (replicate W (.ref aN)) (replicate W (0,1)):=iX (fN _) W;refine⟨_,rfl,?_⟩;have eaH:=s12 _ _ ea;have Rb2:=Rb.same s12;refine⟨_,rfl,a,rfl,⟨_,SqL.of (s25 _ _ eaH)⟩,?_⟩;refine gP (xs:=xs) (fun i σ H'=>aV H2 H'/\∃(M:List (List Q2)) (ys:List V) (rs:List Q2) (z7:Option V),σ=[some (.ref n),some (.ref a),some (.int (m:Int)),some (.int (W:Int)),some (.ref D),some (.ref R),some (.int ((m+bL (ds.take i):Nat):Int)),z7]/\Mx K H' D as M/\MxB M W W (jL wb i+1)/\H' R=some (.lst ys)/\Fqs K H' ys rs/\LnB rs W (jL wb i+1)/\(∀x y,Mq.val (jH M x y)=eqM m (ds.take i) x y)/\∀x,Mq.val (rs.getD x (0,1))=eqR m (ds.take i) x) ⟨s25,_,_,_,none,rfl,mx5,Sw W,e5,F5,Ql W,fun x y=>by rw[Oa,kW];rfl,fun x=>by rw[wX,kW];rfl⟩ (fun i σ H' _ h=>h.1.seq (SqL.of eaH)) ?_ ?_
 ·rintro i x σ H6 hx ⟨s6,M,ys,rs,z7,rfl,mx,mb,eR,FR,lb,vM,vR⟩;have hi:i < ds.length:=by
   have:=(List.getElem?_eq_some_iff.mp hx).1;lia
  obtain⟨⟨k0,u,v,p⟩,hd⟩:∃d,ds[i]?=some d:=⟨_,getElem?_eq_getElem hi⟩
  obtain⟨y,z,ey,rw0,fz0⟩:=Rb2.at hd;have ex:x=.ref y:=by rw[ey] at hx;exact(Option.some.inj hx).symm
  subst ex;obtain⟨rd,bp,wpu,wot⟩:=hK i _ hd;have lp:Low p:=rd.2.2.2.2.1;have bp:Bd (kb i) p:=bp;have ptm:cK (m:Int) u v:=⟨rd.1,rd.2.1,rd.2.2.1,rd.2.2.2.1⟩
  have ptW:cK (W:Int) u v:=⟨rd.1,by have:=rd.2.1;show u < (W:Int);have h2:u < (m:Int):=this;lia,rd.2.2.1,by have h2:v < (m:Int):=rd.2.2.2.1;show v < (W:Int);lia⟩
  have rw6:=rw0.same s6;have fz6:Fq K H6 z p:=s6.fq fz0;obtain⟨dr,hy⟩:=id rw6;have et:ds.take (i+1)=ds.take i++[(k0,u,v,p)]:=by rw[take_add_one,hd];rfl
  have hh:=Lg (ds:=ds) (i+1);rw[et,hG] at hh;have hh:bL (ds.take i)+bV k0<=bL ds:=hh;have eN:jL wb (i+1)+1=(jL wb i+1)+wb i:=by show jL wb i+wb i+1=_;lia
  have leN:jL wb i+wb i<=jL wb ds.length:=vU wb (i:=i+1) hi;have eM:∀x y,eqM m (ds.take (i+1)) x y=eqM m (ds.take i) x y+cM (k0,u,v,p) (m+bL (ds.take i)) x y:=fun x y=>by rw[et,Ap]
  have eRr:∀x,eqR m (ds.take (i+1)) x=eqR m (ds.take i) x+cR (k0,u,v,p) (m+bL (ds.take i)) x:=fun x=>by rw[et,Ag]
  have eH:bL (ds.take (i+1))=bL (ds.take i)+bV k0:=by rw[et,hG]
  rw[eN,eH];have lst:=mx.lsts
  cases k0 with
  |pc=>
   have wot:=wot (show Kd.pc≠Kd.pu by decide);have p0:0 < p.1:=rd.2.2.2.2.2.1 rfl;refine⟨_,rfl,Kd.pc,y,dr,_,rfl,hy,(dZ _ _ _ (by decide +kernel) (by decide +kernel) (by decide +kernel)),_,rfl,rfl,_,rfl,ifT (by show decide (V.str Kd.pc.wd=V.str Kd.pc.wd)=true;rw[cT];rfl) ?_⟩;refine⟨_,rfl,_,rfl,D,y,z,as,M,(.pc,u,v,p),W,jL wb i+1,kb i,rfl,mx,mb,rw6,fz6,ptW,lp,p0,bp,by lia,fun H7 sx7 mx7=>?_⟩;obtain⟨mb7,v7⟩:=Ye (d:=(.pc,u,v,p)) (h:=m+bL (ds.take i)) mb ptm hmW rfl lp p0 bp;have eR7:=sx7 _ _ eR nRa;refine⟨SX.same s6 sx7 fr,_,ys,rs,_,rfl,mx7,mb7.mono (by lia),eR7,SX.fqs lst sx7 FR,lb.mono (by lia),fun x y=>by rw[v7,vM,eM],fun x=>?_⟩;rw[vR,eRr];show _=_+(0:Rat)
   rw[Rat.add_zero]
  |pu=>
   have wpu:=wpu rfl;refine⟨_,rfl,Kd.pu,y,dr,_,rfl,hy,(dZ _ _ _ (by decide +kernel) (by decide +kernel) (by decide +kernel)),_,rfl,rfl,_,rfl,ifF (by show decide (V.str Kd.pu.wd=V.str Kd.pc.wd)=false;rw[cT];rfl) ?_⟩;refine⟨_,rfl,Kd.pu,y,dr,_,rfl,hy,(dZ _ _ _ (by decide +kernel) (by decide +kernel) (by decide +kernel)),_,rfl,rfl,_,rfl,ifT (by show decide (V.str Kd.pu.wd=V.str Kd.pu.wd)=true;rw[cT];rfl) ?_⟩;refine⟨_,rfl,_,rfl,R,y,z,ys,rs,(.pu,u,v,p),W,jL wb i+1,kb i,rfl,eR,FR,lb,rw6,fz6,ptW,lp,bp,by lia,fun ys' H7 sx7 eR7 F7=>?_⟩;obtain⟨lb7,v7⟩:=Wg (d:=(.pu,u,v,p)) (h:=m+bL (ds.take i)) lb ptm hmW rfl lp bp;have mx7:Mx K H7 D as M:=⟨sx7 _ _ mx.d (by simp;exact Ne.symm nRD),mx.n,mx.nd,mx.la,fun i' b ps h1 h2=>by
    obtain⟨ws,h,f⟩:=mx.r i' b ps h1 h2;refine⟨ws,sx7 _ _ h (by simp;exact fun z=>nRa (by rw[<- z];exact mem_of_getElem? h1)),SX.fqs (as:=[R]) (fun c hc=>?_) sx7 f⟩;have:c=R:=by simpa using hc
    exact⟨ys,by rw[this];exact eR⟩⟩
   refine⟨SX.same s6 sx7 (fun c hc=>by have:c=R:=(by simpa using hc);rw[this];exact nRH),M,ys',_,_,rfl,mx7,mb.mono (by lia),eR7,F7,lb7.mono (by lia),fun x y=>?_,fun x=>by rw[v7,vR,eRr]⟩;rw[vM,eM];show _=_+(0:Rat)
   rw[Rat.add_zero]
  |ho=>
   have wot:=wot (show Kd.ho≠Kd.pu by decide);have hc1:bV Kd.ho=1:=rfl;rw[hc1] at hh;have hcW:m+bL (ds.take i) < W:=by lia
   refine⟨_,rfl,Kd.ho,y,dr,_,rfl,hy,(dZ _ _ _ (by decide +kernel) (by decide +kernel) (by decide +kernel)),_,rfl,rfl,_,rfl,ifF (by show decide (V.str Kd.ho.wd=V.str Kd.pc.wd)=false;rw[cT];rfl) ?_⟩;refine⟨_,rfl,Kd.ho,y,dr,_,rfl,hy,(dZ _ _ _ (by decide +kernel) (by decide +kernel) (by decide +kernel)),_,rfl,rfl,_,rfl,ifF (by show decide (V.str Kd.ho.wd=V.str Kd.pu.wd)=false;rw[cT];rfl) ?_⟩;refine⟨_,rfl,_,rfl,_,rfl,_,rfl,D,R,y,z,as,M,ys,rs,(.ho,u,v,p),W,jL wb i+1,m+bL (ds.take i),rfl,mx,mb,eR,FR,lb.w,nRD,nRa,rw6,fz6,ptW,hcW,by lia,fun ys' H7 sx7 mx7 eR7 F7=>?_⟩;obtain⟨mb7,v7⟩:=qa5 (d:=(.ho,u,v,p)) mb ptm hmW hcW rfl;have z0:Mq.val (rs.getD (m+bL (ds.take i)) (0,1))=0:=by
    rw[vR];exact vF (m:=m) _ _ _ (fun d hd'=>by
     obtain⟨i1,hi1⟩:=getElem?_of_mem (mem_of_mem_take hd');have:=(hK i1 d hi1).ok;exact⟨this.1,this.2.1,this.2.2.1,this.2.2.2.1⟩) (Nat.le_refl _) (Nat.le_refl _)
   obtain⟨lb7,w7⟩:=Yp (m:=m) (d:=(.ho,u,v,p)) lb hcW rfl lp bp z0;refine⟨_,rfl,_,_,rfl,rfl,?_⟩;refine⟨SX.same s6 sx7 allN,_,ys',_,some (.ref y),?_,mx7,mb7.mono (by lia),eR7,F7,lb7.mono (by lia),fun x y=>by rw[v7,vM,eM],fun x=>by rw[w7,vR,eRr]⟩;have e1:((m+bL (ds.take i):Nat):Int)+1=((m+(bL (ds.take i)+bV Kd.ho):Nat):Int):=by rw[hc1];lia
   rw[<- e1];rfl
 rintro σ H6 ⟨s6,M,ys,rs,z7,rfl,mx,mb,eR,FR,lb,vM,vR⟩;rw[lxs] at mb lb vM vR;rw[take_length] at vM vR;refine⟨_,rfl,1,rfl,D,_,rfl,SqL.of mx.d,fun C hC=>?_⟩;rw[Of];have s7:=aG hC (.lst ((as.map V.ref).drop 1));have e7:upd H6 C (.lst ((as.map V.ref).drop 1)) C=some (.lst ((as.map V.ref).drop 1)):=aB;generalize upd H6 C (.lst ((as.map V.ref).drop 1))=H7 at s7 e7 ⊢;have mx7:=mx.same s7;refine⟨C,rfl,⟨_,SqL.of e7⟩,fun P hP=>?_⟩;have sP:=aG hP (.lst []);refine dE (xs:=(as.map V.ref).drop 1) (fun i zs H'=>aV H7 H'/\H' P=some (.lst zs)/\Fms K H7 H' zs (((M.drop 1).map (List.drop 1)).take i)/\∀x∈zs,x≠.ref P) ⟨sP,aB,⟨rfl,fun i x ps h=>by simp at h⟩,fun x hx=>by cases hx⟩ (fun i zs H' h=>h.2.1) (fun i zs H' _ h=>h.1.seq (SqL.of e7)) ?_ ?_
 ·rintro i zs x H8 hx ⟨s8,e8,fm,nP⟩ C' hC';rw[getElem?_drop,getElem?_map] at hx;obtain⟨b,hb,rfl⟩:=Option.map_eq_some_iff.mp hx;have bl':=(List.getElem?_eq_some_iff.mp hb).1;have hM1:1+i < M.length:=by rw[<- mx.la];exact bl'
  obtain⟨ws,hws,fws⟩:=(mx7.same s8).r (1+i) b M[1+i] hb (getElem?_eq_getElem hM1);have lz:=fm.l;rw[length_take,length_map,length_drop] at lz;have hM60:M.length<=60:=by rw[mb.h];exact hW60
  refine⟨dD.1,dD.2,fI ?_⟩;refine⟨_,rfl,1,rfl,b,_,rfl,SqL.of hws,fun c hc=>?_⟩;rw[Of];have s9:=aG hc (.lst (ws.drop 1));have e9:upd H8 c (.lst (ws.drop 1)) c=some (.lst (ws.drop 1)):=aB;generalize upd H8 c (.lst (ws.drop 1))=H9 at s9 e9 ⊢;have e89:=s9 _ _ e8;have ncP:c≠P:=Ne.symm (bF e8 hc);refine⟨e89,bA (by lia),hC' _ _ ⟨(s8.trans s9).change hP,aB,⟨?_,fun j y ps h1 h2=>?_⟩,fun y hy=>?_⟩⟩
  ·rw[List.length_append,length_take,length_map,length_drop];simp only[length_cons,length_nil];lia
  ·have ee:((M.drop 1).map (List.drop 1))[i]?=some (M[1+i].drop 1):=by rw[getElem?_map,getElem?_drop,getElem?_eq_getElem hM1];rfl
   rw[take_add_one,ee] at h2
   by_cases hj:j < zs.length
   ·rw[getElem?_append_left hj] at h1;rw[getElem?_append_left (by rw[<- fm.l];exact hj)] at h2;obtain⟨a',xs',q1,q2,q3,q4⟩:=fm.r j y ps h1 h2;have na:a'≠P:=fun z=>nP y (mem_of_getElem? h1) (by rw[q1,z]);exact⟨a',xs',q1,q2,by rw[aU na];exact s9 _ _ q3,(q4.same s9).upd e89⟩
   ·rw[getElem?_append_right (by lia)] at h1;rw[getElem?_append_right (by rw[<- fm.l];lia),<- fm.l] at h2;have j0:j - zs.length=0:=by
     have:=(List.getElem?_eq_some_iff.mp h1).1;simp at this;lia
    rw[j0] at h1 h2;have h1:V.ref c=y:=by simpa using h1
    have h2:M[1+i].drop 1=ps:=by simpa using h2
    subst h1;rw[<- h2];exact⟨c,_,rfl,s8.free hc,by rw[aU ncP];exact e9,((Fqs.drop1 (fws.same s9))).upd e89⟩
  ·rcases mem_append.mp hy with z | z
   ·exact nP y z
   ·have:y=.ref c:=by simpa using z
    rw[this];exact fun z=>ncP (by injection z)
 rintro us H8 ⟨s8,e8,fm,nP⟩;rw[show ((as.map V.ref).drop 1).length=((M.drop 1).map (List.drop 1)).length by rw[length_drop,length_map,length_map,length_drop,mx.la],take_length] at fm;have s78:=s7.trans s8;have eR8:=s78 _ _ eR;refine⟨_,rfl,1,rfl,R,_,rfl,SqL.of eR8,fun r hr'=>?_⟩;rw[Of];have s9:=aG hr' (.lst (ys.drop 1));have e9:upd H8 r (.lst (ys.drop 1)) r=some (.lst (ys.drop 1)):=aB;generalize upd H8 r (.lst (ys.drop 1))=H9 at s9 e9 ⊢;refine⟨zl9 2,fun t ht=>?_⟩;have sT:=aG ht (.tup [.ref P,.ref r]);have s9T:=s9.trans sT;have s0:aV H (upd H9 t (.tup [.ref P,.ref r])):=s1.trans (s12.trans (s6.trans (s78.trans s9T)));have s07:aV H H7:=s1.trans (s12.trans (s6.trans s7));have fl:∀c,H7 c=none->H c=none:=fun c h=>s07.free h;refine q t P r us (ys.drop 1) ((M.drop 1).map (List.drop 1)) (rs.drop 1) _ s0 aB (fl P hP) ((s07.trans s8).free hr') (s9T _ _ e8) (sT _ _ e9) ⟨fm.l,fun i x ps h1 h2=>?_⟩ (Fqs.drop1 (FR.same (s78.trans s9T))) (fun x hx=>⟨nP x hx,?_⟩) ⟨?_,?_,?_,?_⟩
 ·obtain⟨a',xs',q1,q2,q3,q4⟩:=fm.r i x ps h1 h2;exact⟨a',xs',q1,fl a' q2,s9T _ _ q3,q4.same s9T⟩
 ·intro z;obtain⟨i,hi⟩:=getElem?_of_mem hx;have il:i < ((M.drop 1).map (List.drop 1)).length:=by rw[<- fm.l];exact(List.getElem?_eq_some_iff.mp hi).1
  obtain⟨a',xs',q1,q2,q3,q4⟩:=fm.r i x _ hi (getElem?_eq_getElem il);rw[q1] at z;have:a'=r:=by injection z
  rw[<- this,q3] at hr'
  cases hr'
 ·have:=Ou mb
  rwa [show W - 1=m - 1+bL ds by lia] at this
 ·have:=Ke lb
  rwa [show W - 1=m - 1+bL ds by lia] at this
 ·intro i j;rw[Jh];exact vM _ _
 ·intro i;rw[tH];exact vR _
theorem jU {ec:List (Str × Addr)}:∀(x:Str) (c:Addr),([]:List (Str × Addr)).lookup x=some c->ec.lookup x=some c:=fun _ _ h=>by cases h
theorem dG {ec cl:List (Str × Addr)}{a:Str}{d:Addr}(h:ec.lookup a=some d)(r:∀x c,cl.lookup x=some c->ec.lookup x=some c):∀x c,((a,d) :: cl).lookup x=some c->ec.lookup x=some c:=fun x c e=>by
 rw[lookup_cons] at e
 cases q:x == a with
 |true=>rw[q] at e;rw[eq_of_beq q,h];exact e
 |false=>rw[q] at e;exact r x c e
theorem oW {X:Cx}{K:Frag}(h:X.K=K):IxR X (Qz K):=by subst h;exact aW
theorem jQ {X:Cx}{K:Frag}(h:X.K=K):IxR X (Zb K):=by subst h;exact bQ
abbrev Cl:Stmt:=top 32
theorem rB:aQ ["rows","numbers","point","steps","number","row"] ["rows","numbers","point"] (aI Cl):=sK9 rfl rfl rfl rfl (by decide +kernel)
theorem Pb {dV:Value}(F:aY K "steps_from" "steps_from" Cl dV f fd)(T:RT K mg CR CK) :
  aL P w K mg base CX 1 f fd ["rows","numbers","point"] (El K CK):=by
 refine F.ok rB (fun vs H Q E h=>?_) fun cdv A outer s H vs Q E hr h=>?_
 ·obtain⟨_,_,_,_,_,_,rfl,_⟩:=h;rfl
 obtain⟨a,b,xs,ds,es,p,rfl,hA,Rb,hB,hE,h100,q⟩:=h;refine⟨_,(aC (aR (i:=3) rB.nd rfl (Or.inl rfl) (cZ aD))
  (aC (dW PassesOwn.never rfl (cU (pv 1)) (aZ (i:=4) rB.nd rfl (Or.inl rfl))
   (aC (aR (i:=5) rB.nd rfl (Or.inl rfl) (aS bQ (pv 0) (pv 4) (fun _ _=>rfl)))
  (aF (cA (bG eZ (bX (pv 5) rfl) (pv 2) (bK _)) (aF (bY (jP PySem.F.plainAttrs_list PySem.F.slot_list_append PySem.F.type_list_append fD (pv 3) (aA (dH (aA (dH (aA (pv 4) (aA aE aD))) (aA (bX (pv 5) rfl) aD))) aD)))) (aF (cA (bG eZ (bX (pv 5) rfl) (pv 2) (bK _)) (aF (bY (jP PySem.F.plainAttrs_list PySem.F.slot_list_append PySem.F.type_list_append fD (pv 3) (aA (dH (aA (dH (aA (pv 4) (aA (Nh Cv aE) aD))) (aA (bX (pv 5) rfl) aD))) aD)))) bH))))))
  (aF (aX (pv 3))))),?_⟩
 refine⟨zl9 0,fun l hl=>?_⟩;have s1:=aG hl (.lst []);have e1:upd H l (.lst []) l=some (.lst []):=aB;generalize upd H l (.lst [])=H1 at s1 e1 ⊢;refine⟨_,rfl,b,rfl,⟨_,s1.seq hB⟩,?_⟩;refine gP (xs:=es.map fun (e:Br)=>V.int ((e.1:Nat):Int)) (fun i σ H'=>aV H H'/\∃(ys:List V) (z4 z5:Option V),σ=[some (.ref a),some (.ref b),some (.int (p:Int)),some (.ref l),z4,z5]/\H' l=some (.lst ys)/\Sds K H' ys (stF (es.take i) p)) ⟨s1,[],none,none,rfl,e1,.nil⟩ (fun i σ H' _ h=>h.1.seq hB) ?_ ?_
 ·rintro i x σ H2 hx ⟨s2,ys,z4,z5,rfl,e2,S2⟩;rw[getElem?_map] at hx;obtain⟨e,he,rfl⟩:=Option.map_eq_some_iff.mp hx;have hi:i < es.length:=(List.getElem?_eq_some_iff.mp he).1;obtain⟨⟨k,u,v,q'⟩,hd,eu,ev⟩:=hE e (mem_of_getElem? he);have eu:u=(e.2.1:Int):=eu;have ev:v=(e.2.2:Int):=ev;subst eu;subst ev;obtain⟨y,z,ey,rw0,fz⟩:=Rb.at hd;have rw2:=rw0.same s2;obtain⟨dx,hx2⟩:=id rw2;have at_:atI xs (e.1:Int)=some (.ref y):=bU ey;have ly:ys.length<=es.length:=by
   have h1:=S2.length;have h2:(stF (es.take i) p).length<=(es.take i).length:=length_filterMap_le _ _;rw[length_take] at h2;lia
  refine⟨_,rfl,_,rfl,a,xs,_,_,rfl,rfl,s2.seq hA,at_,?_⟩;refine⟨_,rfl,y,CK _,_,_,_,rfl,hx2,T.cl _,T.nS _,cQ _ _ _,_,rfl,rfl,_,rfl,?_⟩
  by_cases c1:e.2.1=p
  ·have tk:stF (es.take (i+1)) p=stF (es.take i) p++[((e.1,1),e.2.2)]:=by
    unfold stF;rw[take_add_one,he,filterMap_append];show _++[e].filterMap _=_;rw[filterMap_cons,if_pos c1];rfl
   refine ifT (decide_eq_true (by rw[c1])) ?_;refine⟨_,rfl,.inl ⟨rfl,_,SqL.of e2⟩,_,rfl,zl9 2,fun u hu'=>?_⟩;have su:=aG hu' (.tup [.int (e.1:Int),.int (1)]);have eu:SqT K (upd H2 u (.tup [.int (e.1:Int),.int (1)])) u [.int (e.1:Int),.int (1)]:=SqT.of aB;generalize upd H2 u (.tup [.int (e.1:Int),.int (1)])=H3 at su eu ⊢;obtain⟨dx3,hx3⟩:=id (rw2.same su);refine⟨_,rfl,y,CK _,_,_,_,rfl,hx3,T.cl _,T.nG _,dA _ _ _,zl9 2,fun t ht=>?_⟩;rw[show (k,(e.2.1:Int),(e.2.2:Int),q').2.2.1=(e.2.2:Int) from rfl];have st:=aG ht (.tup [.ref u,.int (e.2.2:Int)]);have et:SqT K (upd H3 t (.tup [.ref u,.int (e.2.2:Int)])) t [.ref u,.int (e.2.2:Int)]:=SqT.of aB;generalize upd H3 t (.tup [.ref u,.int (e.2.2:Int)])=H4 at st et ⊢;have s24:=su.trans st;have e4:=s24 _ _ e2;refine⟨l,_,_,rfl,rfl,e4,bA (by lia),⟨(s2.trans s24).change hl,_,_,_,rfl,aB,?_⟩⟩;rw[tk];exact Sds.upd e4 ((S2.same s24).app (.cons et (st.seqT eu) .nil))
  ·refine ifF (decide_eq_false (fun z=>c1 (by have:(e.2.1:Int)=(p:Int):=(by injection z);lia))) ?_;refine⟨_,rfl,y,CK _,_,_,_,rfl,hx2,T.cl _,T.nG _,dA _ _ _,_,rfl,rfl,_,rfl,?_⟩
   by_cases c2:e.2.2=p
   ·have tk:stF (es.take (i+1)) p=stF (es.take i) p++[((e.1,-1),e.2.1)]:=by
     unfold stF;rw[take_add_one,he,filterMap_append];show _++[e].filterMap _=_;rw[filterMap_cons,if_neg c1,if_pos c2];rfl
    refine ifT (decide_eq_true (by rw[c2])) ?_;refine⟨_,rfl,.inl ⟨rfl,_,SqL.of e2⟩,_,rfl,_,rfl,zl9 2,fun u hu'=>?_⟩;have su:=aG hu' (.tup [.int (e.1:Int),.int (-1)]);have eu:SqT K (upd H2 u (.tup [.int (e.1:Int),.int (-1)])) u [.int (e.1:Int),.int (-1)]:=SqT.of aB;generalize upd H2 u (.tup [.int (e.1:Int),.int (-1)])=H3 at su eu ⊢;obtain⟨dx3,hx3⟩:=id (rw2.same su);refine⟨_,rfl,y,CK _,_,_,_,rfl,hx3,T.cl _,T.nS _,cQ _ _ _,zl9 2,fun t ht=>?_⟩;rw[show (k,(e.2.1:Int),(e.2.2:Int),q').2.1=(e.2.1:Int) from rfl];have st:=aG ht (.tup [.ref u,.int (e.2.1:Int)]);have et:SqT K (upd H3 t (.tup [.ref u,.int (e.2.1:Int)])) t [.ref u,.int (e.2.1:Int)]:=SqT.of aB;generalize upd H3 t (.tup [.ref u,.int (e.2.1:Int)])=H4 at st et ⊢;have s24:=su.trans st;have e4:=s24 _ _ e2;refine⟨l,_,_,rfl,rfl,e4,bA (by lia),⟨(s2.trans s24).change hl,_,_,_,rfl,aB,?_⟩⟩;rw[tk];exact Sds.upd e4 ((S2.same s24).app (.cons et (st.seqT eu) .nil))
   ·have tk:stF (es.take (i+1)) p=stF (es.take i) p:=by
     unfold stF;rw[take_add_one,he,filterMap_append];show _++[e].filterMap _=_;rw[filterMap_cons,if_neg c1,if_neg c2];simp
    refine ifF (decide_eq_false (fun z=>c2 (by have:(e.2.2:Int)=(p:Int):=(by injection z);lia))) ⟨s2,ys,_,_,rfl,e2,?_⟩;rw[tk];exact S2
 rintro σ H2 ⟨s2,ys,z4,z5,rfl,e2,S2⟩;rw[length_map,take_length] at S2;exact⟨_,rfl,q l ys H2 s2 hl e2 S2⟩
theorem Xr {m:Nat}{es:List Br}{b:Nat}(hm:Ptm m es)(hb:b < m)(h20:m<=20){w:WS}(nd:(cB w).Nodup)(pt:∀x st,(x,st)∈w->∃pts,Pt es b st x pts/\∀y∈pts,y∈cB w){st:List Stp}{x:Nat}{pts:List Nat}(p:Pt es b st x pts)(k:∀y∈pts,y∈cB w):st.length<=20:=by
 have l:pts.length=st.length+1:=by
  induction p with
  |nil=>rfl
  |snoc h g n ih=>rw[List.length_append,List.length_append,ih fun y hy=>k y (mem_append_left _ hy)];rfl
 have nd':pts.Nodup:=by
  clear k l
  induction p with
  |nil=>simp
  |snoc h g n ih=>
   rw[nodup_append];refine⟨ih,by simp,fun x hx y hy z=>n ?_⟩;rw[mem_singleton] at hy;rw[<- hy,<- z];exact hx
 have:=Fa nd' fun y hy=>xS hm hb pt y (k y hy);lia
theorem Xx {es:List Br}{b p m j:Nat}{T:List (Stp × Nat)}{s:WS × List Nat}(hm:Ptm m es)(hb:b < m)(h20:m<=20)(h:WJ es b p [] s)(g:∀t∈T,oU es t.1 p t.2):((T.take j).foldl (inF p) s).2.length<=muF s:=by
 have:=xR hm hb h20 (T.take j) [] h fun t ht=>g t (mem_of_mem_take ht);unfold muF at this ⊢;lia
def muW (σ:St)(H:Hp):Nat:=match σ with
 | [_,_,_,_,some (.ref D),some (.ref W),_,_]=>match H D,H W with
  |some (.dK kvs),some (.lst q)=>2*(20 - kvs.length)+q.length
  |_,_=>0
 |_=>0
theorem Kr {H:Hp}{D W:Addr}{kvs:List (Key × V)}{q:List V}{a b c d e f:Option V}(h:H D=some (.dK kvs))(g:H W=some (.lst q)):muW [a,b,c,d,some (.ref D),some (.ref W),e,f] H=2*(20 - kvs.length)+q.length:=by
 show (match H D,H W with | some (.dK kvs),some (.lst q)=>2*(20 - kvs.length)+q.length | _,_=>0)=_;rw[h,g]
theorem Lj {q:List Nat}(h:q≠[]):(q.map fun (p:Nat)=>V.int (p:Int))[((q.map fun (p:Nat)=>V.int (p:Int))).length - 1]?=some (.int ((q.getLastD 0:Nat):Int))/\(q.map fun (p:Nat)=>V.int (p:Int)).dropLast=(q.dropLast.map fun (p:Nat)=>V.int (p:Int)):=by
 obtain⟨_,e⟩:=Es h;generalize q.getLastD 0=x at e;generalize q.dropLast=r at e;subst e;rw[map_append];simp
abbrev Wu:Stmt:=top 31
theorem Bb:aQ ["rows","numbers","begin","end","ways","waiting","point","step"] ["rows","numbers","begin","end"] (aI Wu):=sK9 rfl rfl rfl rfl (by decide +kernel)
theorem Vn {dV:Value}(F:aY K "way_along" "way_along" Wu dV f fd)(ml:mg "len"=none)(G1:aL P w K mg base CX0 1 g1 gd1 ["rows","numbers","point"] (El K CK))(b1:aM K gd1 ["rows","numbers","point"] [])(k1:kI9 K g1)(m1:mI9 mg "steps_from" g1) :
  aL P w K mg base CX 2 f fd ["rows","numbers","begin","end"] (Tx K CK):=by
 refine F.ok Bb (fun vs H Q E h=>?_) fun cdv A outer s H vs Q E hr h=>?_
 ·obtain⟨_,_,_,_,_,_,_,_,rfl,_⟩:=h;rfl
 obtain⟨a,b,xs,ds,es,m,f,t,rfl,hA,Rb,hB,hE,h100,hm,h20,hf,qN,qS⟩:=h;refine⟨_,(aC (aR (i:=4) Bb.nd rfl (Or.inl rfl) (Fl (lL (pv 2) (cZ aD) Gb) rfl rfl (by simp) (by decide)))
  (aC (aR (i:=5) Bb.nd rfl (Or.inl rfl) (cZ (aA (pv 2) aD)))
  (aC (rY PassesOwn.never (bG zW (bN bC rfl ml PySem.boot_len (aA (pv 5) aD)) aE (bK _))
   (aC (aR (i:=6) Bb.nd rfl (Or.inl rfl) (Ya PySem.F.plainAttrs_list PySem.F.slot_list_pop PySem.F.type_list_pop Xq (pv 5)))
   (aF (dW PassesOwn.never rfl (cU (aH G1 hr rfl m1 k1 b1 .nil aK (aA (pv 0) (aA (pv 1) (aA (pv 6) aD))))) (aZ (i:=7) Bb.nd rfl (Or.inl rfl))
    (aF (cA (yK (Jb (zL hr) (aS aW (pv 7) aE (fun _ _=>rfl)) (pv 4)))
     (aC (Sm (zL hr) (pv 4) (aS aW (pv 7) aE (fun _ _=>rfl)) (aT xK (rG (zL hr) (pv 4) (pv 6) (fun _ _=>rfl)) (cZ (aA (aS aW (pv 7) aE (fun _ _=>rfl)) aD))) rfl)
     (aF (bY (jP PySem.F.plainAttrs_list PySem.F.slot_list_append PySem.F.type_list_append fD (pv 5) (aA (aS aW (pv 7) aE (fun _ _=>rfl)) aD)))))
     bH))))))
  (aF (aX (Ld (zL hr) (pv 4) (pv 3) ⟨rfl,rfl,rfl,rfl⟩)))))),?_⟩
 refine fun D hD=>?_;have sD:=aG hD (.dK []);have eD:upd H D (.dK []) D=some (.dK []):=aB;generalize upd H D (.dK [])=H1 at sD eD ⊢;refine⟨_,rfl,zl9 0,fun L hL=>?_⟩;have nLD:L≠D:=Ne.symm (bF eD hL);have nL:H L=none:=sD.free hL;have sL:=aG hL (.lst []);have eL:upd H1 L (.lst []) L=some (.lst []):=aB;generalize upd H1 L (.lst [])=H2 at sL eL ⊢;refine⟨sL _ _ eD,[((Sum.inl (f:Int):Key),V.ref L)],rfl,by show 1<=15;decide,?_⟩;have s3:aV H (upd H2 D (.dK (jE [] [((Sum.inl (f:Int):Key),V.ref L)]))):=(sD.trans sL).change hD;have e3:upd H2 D (.dK (jE [] [((Sum.inl (f:Int):Key),V.ref L)])) D=some (.dK [((Sum.inl (f:Int):Key),V.ref L)]):=aB;have eL3:upd H2 D (.dK (jE [] [((Sum.inl (f:Int):Key),V.ref L)])) L=some (.lst []):=by rw[aU nLD];exact eL
 generalize upd H2 D (.dK (jE [] [((Sum.inl (f:Int):Key),V.ref L)]))=H3 at s3 e3 eL3 ⊢;refine⟨_,rfl,zl9 1,fun W hW=>?_⟩;have nLW:L≠W:=bF eL3 hW;have nDW:D≠W:=bF e3 hW;have nW:H W=none:=s3.free hW;have sW:=aG hW (.lst [.int (f:Int)]);have eW:upd H3 W (.lst [.int (f:Int)]) W=some (.lst [.int (f:Int)]):=aB;generalize upd H3 W (.lst [.int (f:Int)])=H4 at sW eW ⊢;have s4:=s3.trans sW;have w4:Wys K H W H4 [((Sum.inl (f:Int):Key),V.ref L)] (cD es f 0).1:=.cons nL nLW (sW _ _ eL3) .nil .nil;refine rX (fun σ H'=>aV H H'/\∃(i:Nat) (kvs:List (Key × V)) (z6 z7:Option V),σ=[some (.ref a),some (.ref b),some (.int (f:Int)),some (.int (t:Int)),some (.ref D),some (.ref W),z6,z7]/\H' D=some (.dK kvs)/\H' W=some (.lst ((cD es f i).2.map fun (p:Nat)=>V.int (p:Int)))/\Wys K H W H' kvs (cD es f i).1/\i<=40) muW ⟨s4,0,_,none,none,rfl,sW _ _ e3,eW,w4,by lia⟩ ?_ ?_
 ·rintro σ H5 ⟨s5,i,kvs,z6,z7,rfl,e5,q5,w5,hi⟩;have lk:=w5.length;have wi:=jX es f i;have le20:=Oq hm hf wi.nd wi.pt;refine⟨_,rfl,W,_,rfl,.inl (SqL.of q5),_,_,rfl,rfl,_,rfl,?_⟩
  by_cases hq:(cD es f i).2=[]
  ·-- it ends
   rw[hq] at q5;refine ifF (by rw[hq];rfl) ?_;have e60:=Rn hq (by lia);refine⟨_,rfl,D,rfl,.inl ⟨kvs,.inl e5⟩,_,rfl,_,jK.k (k:=Sum.inl (t:Int)) e5,?_⟩
   by_cases c:t∈cB (cD es f i).1
   ·obtain⟨l,ys,st,ev,eg,nl,_,hl,f'⟩:=w5.some_ c;rw[ev];refine qS st ?_ l ys H5 s5 nl hl f';unfold qW;rw[e60];exact eg
   ·rw[(w5.none_ c).1];refine qN ?_ H5 s5;unfold qW;rw[e60];exact qG c
  ·have mu0:=Kr (a:=some (.ref a)) (b:=some (.ref b)) (c:=some (.int (f:Int))) (d:=some (.int (t:Int))) (e:=z6) (f:=z7) e5 q5;have hi39:i+muF (cD es f i)<=39:=by
    rcases pZ hm hf h20 i with z | z
    ·exact absurd z hq
    ·exact z
   have stp:cD es f (i+1)=(stF es ((cD es f i).2.getLastD 0)).foldl (inF ((cD es f i).2.getLastD 0)) ((cD es f i).1,(cD es f i).2.dropLast):=by
    show kM es (cD es f i)=_;unfold kM;rw[if_neg hq]
   have iO:=Ge hm hf h20 wi hq;have iO:muF (cD es f (i+1))+1<=muF (cD es f i):=iO;have wj0:=uH wi hq;have pk:=wj0.kp;obtain⟨ml1,ml2⟩:=Lj hq;generalize hp:(cD es f i).2.getLastD 0=p at *
   have ll:0 < ((cD es f i).2.map fun (p:Nat)=>V.int (p:Int)).length:=by rw[length_map];exact length_pos_iff.mpr hq
   refine ifT (by show decide (0 < ((((cD es f i).2.map fun (p:Nat)=>V.int (p:Int)).length:Nat):Int))=true;exact decide_eq_true (by lia)) ?_;refine⟨_,rfl,.inl ⟨rfl,_,SqL.of q5⟩,W,_,_,rfl,rfl,q5,ml1,?_⟩;rw[ml2];have s6:aV H (upd H5 W (.lst ((cD es f i).2.dropLast.map fun (p:Nat)=>V.int (p:Int)))):=s5.change nW;have e6:upd H5 W (.lst ((cD es f i).2.dropLast.map fun (p:Nat)=>V.int (p:Int))) D=some (.dK kvs):=by rw[aU nDW];exact e5
   have q6:upd H5 W (.lst ((cD es f i).2.dropLast.map fun (p:Nat)=>V.int (p:Int))) W=some (.lst ((cD es f i).2.dropLast.map fun (p:Nat)=>V.int (p:Int))):=aB;have w6:=w5.updW (o:=.lst ((cD es f i).2.dropLast.map fun (p:Nat)=>V.int (p:Int))) q5;generalize upd H5 W (.lst ((cD es f i).2.dropLast.map fun (p:Nat)=>V.int (p:Int)))=H6 at s6 e6 q6 w6 ⊢;refine⟨_,rfl,_,rfl,_,rfl,a,b,xs,ds,es,p,rfl,s6.seq hA,Rb.same s6,s6.seq hB,hE,h100,fun l ys H7 s7 nl el S7=>?_⟩;have s07:=s6.trans s7;have nlW:l≠W:=Ne.symm (bF q6 nl);have nlD:l≠D:=Ne.symm (bF e6 nl);have nlH:H l=none:=s6.free nl;have lys:=S7.length;refine⟨l,rfl,⟨_,SqL.of el⟩,?_⟩;refine gP (xs:=ys) (fun j σ H'=>aV H H'/\H' l=some (.lst ys)/\Sds K H' ys (stF es p)/\∃(kvs:List (Key × V)) (z7:Option V),σ=[some (.ref a),some (.ref b),some (.int (f:Int)),some (.int (t:Int)),some (.ref D),some (.ref W),some (.int (p:Int)),z7]/\H' D=some (.dK kvs)/\H' W=some (.lst ((((stF es p).take j).foldl (inF p) ((cD es f i).1,(cD es f i).2.dropLast)).2.map fun (p:Nat)=>V.int (p:Int)))/\Wys K H W H' kvs (((stF es p).take j).foldl (inF p) ((cD es f i).1,(cD es f i).2.dropLast)).1) ⟨s07,el,S7,kvs,z7,rfl,s7 _ _ e6,s7 _ _ q6,w6.same s7⟩ (fun j σ H' _ h=>SqL.of h.2.1) ?_ ?_
   ·rintro j x σ H8 hx ⟨s8,el8,S8,kv8,z7',rfl,e8,q8,w8⟩;obtain⟨tt,u,s,rfl,es',hT,hU⟩:=S8.get hx;have hj:j < (stF es p).length:=(List.getElem?_eq_some_iff.mp es').1;have gs:oU es s.1 p s.2:=lG (mem_of_getElem? es');have wj:=yE ((stF es p).take j) [] wj0 fun z hz=>lG (mem_of_mem_take hz);have fold1:((stF es p).take (j+1)).foldl (inF p) ((cD es f i).1,(cD es f i).2.dropLast)=inF p (((stF es p).take j).foldl (inF p) ((cD es f i).1,(cD es f i).2.dropLast)) s:=by
     rw[take_add_one,es',foldl_append];rfl
    rw[fold1];have wj':=Gh wj gs;have le8:=Oq hm hf wj.nd wj.pt;have lS:=Xx hm hf h20 wj0 (j:=j) (T:=stF es p) (fun z hz=>lG hz);have mb:=Ak hq;generalize ((stF es p).take j).foldl (inF p) ((cD es f i).1,(cD es f i).2.dropLast)=S at q8 w8 wj wj' le8 lS ⊢;have lS2:S.2.length<=100:=by lia
    have lk8:=w8.length;obtain⟨⟨sn,sw⟩,sx⟩:=s;have hT:SqT K H8 tt [.ref u,.int (sx:Int)]:=hT;refine⟨_,rfl,tt,_,1,_,rfl,rfl,hT,rfl,_,rfl,D,_,rfl,jK.k (k:=Sum.inl (sx:Int)) e8,_,rfl,?_⟩
    by_cases c:sx∈cB S.1
    ·refine ifF (by rw[w8.isSome,decide_eq_true c];rfl) ⟨s8,el8,S8,kv8,_,rfl,e8,?_,?_⟩
     ·show H8 W=some (.lst ((inF p S ((sn,sw),sx)).2.map fun (p:Nat)=>V.int (p:Int)));unfold inF;rw[if_pos c];exact q8
     ·show Wys K H W H8 kv8 (inF p S ((sn,sw),sx)).1;unfold inF;rw[if_pos c];exact w8
    ·refine ifT (by rw[w8.isSome,decide_eq_false c];rfl) ?_;obtain⟨ap,xp,sp,ev,eg,nap,nwp,hap,fp⟩:=w8.some_ wj.kp;have lsp:=fp.length;have lsp2:sp.length<=20:=by
      obtain⟨pts,pt1,pt2⟩:=wj.pt p sp (gY eg);exact Xr hm hf h20 wj.nd wj.pt pt1 pt2
     refine⟨_,rfl,_,rfl,D,.ref ap,rfl,(by have:=jK.k (k:=Sum.inl (p:Int)) e8;rw[ev] at this;exact this),?_⟩;refine⟨_,rfl,tt,_,0,_,rfl,rfl,hT,rfl,zl9 1,fun L1 hL1=>?_⟩;have s9:=aG hL1 (.lst [.ref u]);have e9:upd H8 L1 (.lst [.ref u]) L1=some (.lst [.ref u]):=aB;generalize upd H8 L1 (.lst [.ref u])=H9 at s9 e9 ⊢;refine⟨ap,L1,_,_,rfl,rfl,s9 _ _ hap,e9,by rw[sizeLine_eq];simp only[length_cons,length_nil];lia,fun C hC=>?_⟩;have nC8:H8 C=none:=s9.free hC;have sA:=aG hC (.lst (xp++[.ref u]));have eA:upd H9 C (.lst (xp++[.ref u])) C=some (.lst (xp++[.ref u])):=aB;generalize upd H9 C (.lst (xp++[.ref u]))=HA at sA eA ⊢;have s8A:=s9.trans sA;have nCW:C≠W:=Ne.symm (bF q8 nC8);have nCD:C≠D:=Ne.symm (bF e8 nC8);have eDA:=s8A _ _ e8;refine⟨_,rfl,_,rfl,tt,_,1,_,rfl,rfl,s8A.seqT hT,rfl,D,_,rfl,Kg.k (k:=Sum.inl (sx:Int)) eDA (by rw[sizeLine_eq];lia),?_⟩;have put:lC kv8 (Sum.inl (sx:Int)) (.ref C)=kv8++[(Sum.inl (sx:Int),.ref C)]:=by unfold lC;rw[if_neg (by rw[(w8.none_ c).2];simp)]
     rw[put];have eB:upd HA D (.dK (kv8++[(Sum.inl (sx:Int),.ref C)])) D=some (.dK (kv8++[(Sum.inl (sx:Int),.ref C)])):=aB;have qB:upd HA D (.dK (kv8++[(Sum.inl (sx:Int),.ref C)])) W=some (.lst (S.2.map fun (p:Nat)=>V.int (p:Int))):=by rw[aU (Ne.symm nDW)];exact s8A _ _ q8
     have sB:aV H (upd HA D (.dK (kv8++[(Sum.inl (sx:Int),.ref C)]))):=(s8.trans s8A).change hD;have wB:Wys K H W (upd HA D (.dK (kv8++[(Sum.inl (sx:Int),.ref C)]))) (kv8++[(Sum.inl (sx:Int),.ref C)]) (S.1++[(sx,sp++[(sn,sw)])]):=
      Wys.snoc (s8.free nC8) nCW (by rw[aU nCD];exact eA) (((fp.same s8A).app (.cons (s8A.seqT hU) .nil)).updD eDA) ((w8.same s8A).updD eDA)
     have elB:upd HA D (.dK (kv8++[(Sum.inl (sx:Int),.ref C)])) l=some (.lst ys):=by rw[aU nlD];exact s8A _ _ el8
     have SB:=(S8.same s8A).updD (o:=.dK (kv8++[(Sum.inl (sx:Int),.ref C)])) eDA;have hTB:=SqT.updD (o:=.dK (kv8++[(Sum.inl (sx:Int),.ref C)])) (s8A.seqT hT) eDA;generalize upd HA D (.dK (kv8++[(Sum.inl (sx:Int),.ref C)]))=HB at eB qB sB wB elB SB hTB ⊢;refine⟨_,rfl,.inl ⟨rfl,_,SqL.of qB⟩,_,rfl,tt,_,1,_,rfl,rfl,hTB,rfl,W,_,_,rfl,rfl,qB,bA (by rw[length_map];lia),?_⟩;have inE:inF p S ((sn,sw),sx)=(S.1++[(sx,sp++[(sn,sw)])],S.2++[sx]):=by
      unfold inF;rw[if_neg c,eg];rfl
     rw[inE];refine⟨sB.change nW,by rw[aU nlW];exact elB,SB.upd qB,_,_,rfl,by rw[aU nDW];exact eB,?_,wB.updW qB⟩;rw[aB,map_append];rfl
   ·rintro σ H8 ⟨s8,el8,S8,kv8,z7',rfl,e8,q8,w8⟩;rw[lys,take_length,<- stp] at q8 w8;have lk8:=w8.length;refine⟨⟨s8,i+1,kv8,_,_,rfl,e8,q8,w8,by lia⟩,?_⟩;rw[mu0,Kr e8 q8,length_map,length_map,lk,lk8];unfold muF at iO;lia
 ·rintro σ H Q Q' mono ⟨v,h1,p',ys,h2,h3,i,j,h4,h5,k,h6,h7⟩;exact⟨v,h1,p',ys,h2,h3,i,j,h4,h5,k,h6,mono _ _ h7⟩
theorem Jv {ds:List RD}{i:Nat}{d:RD}(h:ds[i]?=some d):(skl ds)[i]?=some (d.1,d.2.1.toNat,d.2.2.1.toNat):=by unfold skl;rw[getElem?_map,h];rfl
theorem pV (ds:List RD):(skl ds).length=ds.length:=by unfold skl;rw[length_map]
theorem Nz {m:Nat}{ds:List RD}(pt:∀d∈ds,cK (m:Int) d.2.1 d.2.2.1):∀d∈skl ds,d.2.1 < m/\d.2.2 < m:=fun d hd=>by
 obtain⟨e,he,rfl⟩:=mem_map.mp hd;obtain⟨i0,i1,j0,j1⟩:=pt e he;exact⟨by show e.2.1.toNat < m;lia,by show e.2.2.1.toNat < m;lia⟩
theorem Ps {W:Kd->Bool}{m n:Nat}{ds:List RD}{s:RS}(pt:∀d∈ds,cK (m:Int) d.2.1 d.2.2.1)(h:RI W (skl ds) m n s):Vb ds s.1:=fun e he=>by
 obtain⟨k,hk⟩:=h.at_ e he;have hl:e.1 < ds.length:=by have:=(List.getElem?_eq_some_iff.mp hk).1;rwa [pV] at this
 have hd:ds[e.1]?=some ds[e.1]:=getElem?_eq_getElem hl;rw[Jv hd] at hk;obtain⟨i0,i1,j0,j1⟩:=pt _ (mem_of_getElem? hd);refine⟨_,hd,?_,?_⟩
 ·have:ds[e.1].2.1.toNat=e.2.1:=by injection hk with z;injection z with _ z;injection z
  lia
 ·have:ds[e.1].2.2.1.toNat=e.2.2:=by injection hk with z;injection z with _ z;injection z
  lia
theorem Ku {W:Kd->Bool}{sk:List Sk}:∀n,(cP W sk n).1.length<=n
 |0=>Nat.le_refl _
 |n+1=>by
  have ih:=Ku (W:=W) (sk:=sk) n
  cases h:sk[n]? with
  |none=>show (match sk[n]? with | none=>cP W sk n | some d=>iI W (cP W sk n) n d).1.length<=n+1;rw[h];show (cP W sk n).1.length<=n+1;lia
  |some d=>
   rw[gU h];generalize cP W sk n=s at ih;unfold iI;split
   ·split
    ·show (s.1++[(n,d.2.1,d.2.2)]).length<=n+1;rw[List.length_append];simp only[length_cons,length_nil];lia
    ·show s.1.length<=n+1;lia
   ·lia
def WdA (K:Frag)(H:Hp)(v:V)(W:Kd->Bool):Prop:=∃(p:Addr) (ws:List V),v=.ref p/\(SqL K H p ws\/SqT K H p ws)/\ws.all nA=true/\∀k:Kd,inV (.str k.wd) ws=W k
theorem WdA.same {K:Frag}{H H':Hp}{v:V}{W:Kd->Bool}(e:aV H H')(h:WdA K H v W):WdA K H' v W:=by
 obtain⟨p,ws,h1,h2,h3⟩:=h;refine⟨p,ws,h1,?_,h3⟩;rcases h2 with z | z
 ·exact .inl (e.seq z)
 ·exact .inr (e.seqT z)
theorem Yj (k:Kd):inV (.str k.wd) [.str "piece",.str "hold"]=decide (k≠.pu):=by cases k<;>decide
abbrev iD:Stmt:=top 30
theorem jC:aQ ["net","words","wanted","rows","branches","found","number","row","back"] ["net","words"] (aI iD):=sK9 rfl rfl rfl rfl (by decide +kernel)
theorem Me {dV:Value}(F:aY K "rings" "rings" iD dV f fd){CN aJ:Addr}(NTx:NT K mg CN)(T:RT K mg CR CK)(men:mg "enumerate"=none)(fJ:∀H,SqT K H aJ [.str "piece",.str "hold"])(mJO:mI9 mg "JOINING_WORDS" aJ)(GW:∀k,aL P w K mg base CX0 1 (fW k) (fdW k) ["self"] (jW k))(bW:∀k,aM K (fdW k) ["self"] [])(mW:∀k,gL K (CK k) "word" (fW k)){gRo:Addr}{gdRo:FuncData}(GRo:aL P w K mg base CX0 4 gRo gdRo ["self"] (pS CN K CK))(bRo:aM K gdRo ["self"] [])(mRo:gL K CN "rows" gRo)(G1:aL P w K mg base CX0 2 g1 gd1 ["rows","numbers","begin","end"] (Tx K CK))(b1:aM K gd1 ["rows","numbers","begin","end"] [])(k1:kI9 K g1)(m1:mI9 mg "way_along" g1) :
  aL P w K mg base CX 5 f fd ["net","words"] (rK CN K):=by
 refine F.ok jC (fun vs H Q E h=>?_) fun cdv A outer s H vs Q E hr h=>?_
 ·obtain⟨_,_,_,_,_,_,rfl,_⟩:=h;rfl
 obtain⟨n,l,v,m,ds,W,rfl,nt,pt,h20,h40,hW,q⟩:=h;have r1:=hr.mono (show 1<=4 by lia);have r2:=hr.mono (show 2<=4 by lia);refine⟨_,(aC (aR (i:=2) jC.nd rfl (Or.inl rfl) (sM (yK (Co (pv 1))) (dI (v:=.ref aJ) rfl mJO rfl) (pv 1)))
  (aC (aR (i:=3) jC.nd rfl (Or.inl rfl) (fX (pv 0) NTx.cl mRo GRo hr bRo .nil aK))
  (aC (aR (i:=4) jC.nd rfl (Or.inl rfl) (cZ aD))
  (aC (aR (i:=5) jC.nd rfl (Or.inl rfl) (cZ aD))
  (aC (dW PassesOwn.never rfl (zB rfl men rfl (aA (pv 3) aD)) (gK rfl (bO (aZ (i:=6) jC.nd rfl (Or.inl rfl)) (bO (aZ (i:=7) jC.nd rfl (Or.inl rfl)) fH)))
   (aF (cA (bG Hl (gA (pv 7) T.cl mW GW r1 bW .nil aK) (pv 2) rfl) (aC (aR (i:=8) jC.nd rfl (Or.inl rfl) (aH G1 r2 rfl m1 k1 b1 .nil aK (aA (pv 3) (aA (pv 4) (aA (bX (pv 7) rfl) (aA (bX (pv 7) rfl) aD))))))
  (aF (cA (yK (Co (pv 8))) (aF (bY (jP PySem.F.plainAttrs_list PySem.F.slot_list_append PySem.F.type_list_append fD (pv 4) (aA (pv 6) aD)))) (aF (bY (jP PySem.F.plainAttrs_list PySem.F.slot_list_append PySem.F.type_list_append fD (pv 5) (aA (aT xK (cZ (aA (dH (aA (pv 6) (aA aE aD))) aD)) (pv 8)) aD))))))) bH)))
  (aF (aX (pv 5)))))))),?_⟩
 refine gD (fun σ' H'=>H'=H/\∃wv,σ'=[some (.ref n),some v,some wv,none,none,none,none,none,none]/\WdA K H wv W) (fun X hX=>?_) ?_
 ·cases hW with
  |non=>exact⟨_,rfl,_,rfl,ifT rfl (hX _ _ ⟨rfl,_,rfl,aJ,_,rfl,.inr (fJ H),rfl,Yj⟩)⟩
  | @seq a ws h f=>exact⟨_,rfl,_,rfl,ifF rfl ⟨_,rfl,hX _ _ ⟨rfl,_,rfl,a,_,rfl,.inl h,f,fun _=>rfl⟩⟩⟩
 rintro σ' H' ⟨hH',wv,rfl,hw⟩;subst hH';obtain⟨dx,hn⟩:=nt.ob;refine⟨_,rfl,n,dx,_,rfl,hn,fQ _ _ (by decide +kernel) (by decide +kernel),n,l,_,ds,rfl,nt,by lia,fun a xs H1 s1 na ea Rb=>?_⟩;have lxs:=Rb.length;refine⟨zl9 0,fun B hB=>?_⟩;have nB:H' B=none:=s1.free hB;have sB:=aG hB (.lst []);have eB:upd H1 B (.lst []) B=some (.lst []):=aB;generalize upd H1 B (.lst [])=H2 at sB eB ⊢;refine⟨zl9 0,fun F hF=>?_⟩;have nF:H' F=none:=(s1.trans sB).free hF;have nBF:B≠F:=bF eB hF;have sF:=aG hF (.lst []);have eF:upd H2 F (.lst []) F=some (.lst []):=aB;generalize upd H2 F (.lst [])=H3 at sF eF ⊢;have s3:=s1.trans (sB.trans sF);have ea3:=(sB.trans sF) _ _ ea;have naB:a≠B:=bF ea hB;have naF:a≠F:=bF (sB _ _ ea) hF;have sk:=pV ds;have slt:=Nz pt;have s13:=sB.trans sF;refine⟨_,rfl,a,rfl,⟨_,SqL.of ea3⟩,?_⟩;have nB1:H1 B=none:=hB;have nF1:H1 F=none:=sB.free hF;refine Nv (xs:=xs) (fun i σ HH=>aV H1 HH/\∃(us:List V) (z6 z7 z8:Option V),σ=[some (.ref n),some v,some wv,some (.ref a),some (.ref B),some (.ref F),z6,z7,z8]/\HH B=some (.lst ((cP W (skl ds) i).1.map fun (e:Br)=>V.int ((e.1:Nat):Int)))/\HH F=some (.lst us)/\Rgs K H' HH us ((cP W (skl ds) i).2.map (·.2))/\∀x∈us,x≠.ref F/\x≠.ref B) ⟨s13,[],none,none,none,rfl,sF _ _ eB,eF,.nil,fun x hx=>(by cases hx)⟩ (fun i σ HH _ h=>h.1.seq (SqL.of ea)) ?_ ?_
 ·rintro i x σ H4 T2 hx ⟨s4,us,z6,z7,z8,rfl,eB4,eF4,G4,nx4⟩ hT;have hi:i < ds.length:=by
   have:=(List.getElem?_eq_some_iff.mp hx).1;lia
  obtain⟨⟨k0,u,v0,p0⟩,hd⟩:∃d,ds[i]?=some d:=⟨_,getElem?_eq_getElem hi⟩
  obtain⟨y,z,ey,rw0,fz0⟩:=Rb.at hd;have ex:x=.ref y:=by rw[ey] at hx;exact(Option.some.inj hx).symm
  subst ex;obtain⟨u0,u1,v1,v2⟩:cK (m:Int) u v0:=pt _ (mem_of_getElem? hd);obtain⟨uN,rfl⟩:∃n:Nat,u=(n:Int):=⟨u.toNat,by lia⟩
  obtain⟨vN,rfl⟩:∃n:Nat,v0=(n:Int):=⟨v0.toNat,by lia⟩
  have skd:(skl ds)[i]?=some (k0,uN,vN):=by
   have:=Jv hd
   rwa [show ((k0,(uN:Int),(vN:Int),p0):RD).2.1.toNat=uN from Int.toNat_natCast uN,show ((k0,(uN:Int),(vN:Int),p0):RD).2.2.1.toNat=vN from Int.toNat_natCast vN] at this
  have ri:=jM (W:=W) slt i (by lia);have bo:=Ps pt ri;have bl':=Ku (W:=W) (sk:=skl ds) i;have gl:=G4.l;rw[length_map] at gl;have rl:=ri.rl;have succ:=gU (W:=W) skd;generalize cP W (skl ds) i=S at eB4 G4 ri bo bl' gl rl succ;have sT:=aG hT (.tup [.int (i:Int),.ref y]);refine⟨T2,_,rfl,SqT.of aB,rfl,_,_,rfl,_,_,rfl,rfl,?_⟩;have nT1:H1 T2=none:=s4.free hT;generalize upd H4 T2 (.tup [.int (i:Int),.ref y])=H5 at sT ⊢;have s5:=s4.trans sT;have eB5:=sT _ _ eB4;have eF5:=sT _ _ eF4;have G5:=G4.same sT;obtain⟨dr,hy⟩:=id (rw0.same s5);obtain⟨pw,ws,ew,hws,fl,hinv⟩:=hw.same (s1.trans s5);refine⟨_,rfl,k0,y,dr,_,rfl,hy,(dZ _ _ _ (by decide +kernel) (by decide +kernel) (by decide +kernel)),_,rfl,_,rfl,pw,ws,ew,hws,rfl,fl,_,rfl,?_⟩;have hin:inV (.str k0.wd) ws=W k0:=hinv k0
  by_cases hk:W k0=true
  ·refine ifT (by show (if false=true then _ else inV (V.str k0.wd) ws)=true;rw[if_neg (by decide),hin];exact hk) ?_;refine⟨_,rfl,_,rfl,_,rfl,y,CK _,_,_,_,rfl,hy,T.cl _,T.nG _,dA _ _ _,_,rfl,y,CK _,_,_,_,rfl,hy,T.cl _,T.nS _,cQ _ _ _,a,B,xs,ds,S.1,m,vN,uN,rfl,s5.seq (SqL.of ea),Rb.same s5,SqL.of eB5,bo,by lia,ri.pt,h20,by lia,fun hnone H6 s6=>?_,fun st hst l' ys H6 s6 nl el S6=>?_⟩
   ·refine⟨_,rfl,_,rfl,ifT rfl ?_⟩;have eB6:=s6 _ _ eB5;have s06:=s5.trans s6;refine⟨_,rfl,.inl ⟨rfl,_,SqL.of eB6⟩,_,rfl,B,_,_,rfl,rfl,eB6,bA (by rw[length_map];lia),?_⟩;have eS:iI W S i (k0,uN,vN)=(S.1++[(i,uN,vN)],S.2):=by
     unfold iI;rw[if_pos hk,hnone]
    rw[succ,eS];refine⟨s06.change nB1,us,_,_,_,rfl,?_,by rw[aU (Ne.symm nBF)];exact s6 _ _ eF5,(G5.same s6).updO eB6 (fun x hx=>(nx4 x hx).2),nx4⟩;rw[aB,map_append];rfl
   ·refine⟨_,rfl,_,rfl,ifF rfl ?_⟩;have eF6:=s6 _ _ eF5;have s06:=s5.trans s6;refine⟨_,rfl,.inl ⟨rfl,_,SqL.of eF6⟩,_,rfl,zl9 2,fun t ht=>?_⟩;have st7:=aG ht (.tup [.int (i:Int),.int 1]);have et:SqT K (upd H6 t (.tup [.int (i:Int),.int 1])) t [.int (i:Int),.int 1]:=SqT.of aB;generalize upd H6 t (.tup [.int (i:Int),.int 1])=H7 at st7 et ⊢;refine⟨zl9 1,fun L1 hL1=>?_⟩;have s8:=aG hL1 (.lst [.ref t]);have e8:upd H7 L1 (.lst [.ref t]) L1=some (.lst [.ref t]):=aB;generalize upd H7 L1 (.lst [.ref t])=H8 at s8 e8 ⊢;have lst':=wD ri.pt (show vN < m by lia) hst;have lys:=S6.length;refine⟨_,rfl,L1,l',_,_,rfl,rfl,e8,(st7.trans s8) _ _ el,by rw[sizeLine_eq];simp only[length_cons,length_nil];lia,fun C hC=>?_⟩;have nC8:H8 C=none:=hC;have s9:=aG hC (.lst ([.ref t]++ys));have e9:upd H8 C (.lst ([.ref t]++ys)) C=some (.lst ([.ref t]++ys)):=aB;generalize upd H8 C (.lst ([.ref t]++ys))=H9 at s9 e9 ⊢;have s69:=st7.trans (s8.trans s9);have eF9:=s69 _ _ eF6;have s09:=s06.trans s69;have nCF:C≠F:=Ne.symm (bF ((st7.trans s8) _ _ eF6) nC8);have nCB:C≠B:=Ne.symm (bF ((st7.trans s8) _ _ (s6 _ _ eB5)) nC8);refine⟨F,_,_,rfl,rfl,eF9,bA (by lia),?_⟩;have eS:iI W S i (k0,uN,vN)=(S.1,S.2++[(i,(i,1) :: st)]):=by
     unfold iI;rw[if_pos hk,hst]
    rw[succ,eS];have SC:Sts K H9 ([.ref t]++ys) ((i,1) :: st):=.cons ((s8.trans s9).seqT et) (S6.same s69);refine⟨s09.change nF1,us++[.ref C],_,_,_,rfl,by rw[aU nBF];exact s69 _ _ (s6 _ _ eB5),aB,?_,fun x hx=>?_⟩
    ·rw[map_append];have G9:=((G5.same s6).same s69).snoc (((s1.trans s06).trans (st7.trans s8)).free nC8) e9 SC;refine G9.updO eF9 fun x hx=>?_;rcases mem_append.mp hx with z | z
     ·exact(nx4 x z).1
     ·have:x=.ref C:=by simpa using z
      rw[this];exact fun z=>nCF (by injection z)
    ·rcases mem_append.mp hx with z | z
     ·exact nx4 x z
     ·have:x=.ref C:=by simpa using z
      rw[this];exact⟨fun z=>nCF (by injection z),fun z=>nCB (by injection z)⟩
  ·refine ifF (by show (if false=true then _ else inV (V.str k0.wd) ws)=false;rw[if_neg (by decide),hin];simpa using hk) ?_;have eS:iI W S i (k0,uN,vN)=S:=by
    unfold iI;rw[if_neg hk]
   rw[succ,eS];exact⟨s5,us,_,_,_,rfl,eB5,eF5,G5,nx4⟩
 rintro σ H4 ⟨s4,us,z6,z7,z8,rfl,eB4,eF4,G4,nx4⟩;rw[lxs] at G4;exact⟨_,rfl,q F us H4 (s1.trans s4) nF eF4 G4 fun x hx=>(nx4 x hx).1⟩
abbrev qJ:Stmt:=dM (top 36) 1
theorem Bs:aQ ["self"] ["self"] (aI qJ):=sK9 rfl rfl rfl rfl (by decide +kernel)
theorem As {dV:Value}(F:aY K "joins" "Piece.joins" qJ dV f fd):aL P w K mg base CX 1 f fd ["self"] (oS .pc):=by
 refine F.ok Bs (fun vs H Q E h=>?_) fun cdv A outer s H vs Q E hr h=>?_
 ·obtain⟨_,rfl,_⟩:=h;rfl
 obtain⟨x,rfl,q⟩:=h;exact⟨_,(aF (aX iB)),q⟩
abbrev qA:Stmt:=dM (top 37) 1
theorem Dn:aQ ["self"] ["self"] (aI qA):=sK9 rfl rfl rfl rfl (by decide +kernel)
theorem Ac {dV:Value}(F:aY K "joins" "Push.joins" qA dV f fd):aL P w K mg base CX 1 f fd ["self"] (oS .pu):=by
 refine F.ok Dn (fun vs H Q E h=>?_) fun cdv A outer s H vs Q E hr h=>?_
 ·obtain⟨_,rfl,_⟩:=h;rfl
 obtain⟨x,rfl,q⟩:=h;exact⟨_,(aF (aX iB)),q⟩
abbrev pT:Stmt:=dM (top 38) 1
theorem Bz:aQ ["self"] ["self"] (aI pT):=sK9 rfl rfl rfl rfl (by decide +kernel)
theorem zR {dV:Value}(F:aY K "joins" "Hold.joins" pT dV f fd):aL P w K mg base CX 1 f fd ["self"] (oS .ho):=by
 refine F.ok Bz (fun vs H Q E h=>?_) fun cdv A outer s H vs Q E hr h=>?_
 ·obtain⟨_,rfl,_⟩:=h;rfl
 obtain⟨x,rfl,q⟩:=h;exact⟨_,(aF (aX iB)),q⟩
def Bj (K:Frag)(CK:Kd->Addr):Sp:=fun vs H Q _=>∃(a x:Addr) (ms:List Int) (k:Kd) (s g:Nat) (z:V),vs=[.ref a,.ref x]/\SqL K H a (ms.map V.int)/\Rw CK H x k (.int (s:Int)) (.int (g:Int)) z/\s < ms.length/\g < ms.length/\ms.length<=100/\∀l H',aV H H'->H l=none->H' l=some (.lst ((jn ms s g).map V.int))->Q (.ref l) H'
def Gg (CN:Addr)(K:Frag):Sp:=fun vs H Q _=>∃(n l:Addr) (m:Nat) (ds:List RD),vs=[.ref n]/\fC CN K H n l (m:Int) ds/\(∀d∈ds,cK (m:Int) d.2.1 d.2.2.1)/\m<=20/\ds.length<=100/\∀l' H',aV H H'->H l'=none->H' l'=some (.lst ((mks m ds).map V.int))->Q (.ref l') H'
def Hj (m:Nat)(ds:List RD):List Int:=((List.range m).filter fun p=>decide (mk m ds p≠mk m ds 0)).map fun (p:Nat)=>(p:Int)
def Gw (CN:Addr)(K:Frag):Sp:=fun vs H Q _=>∃(n l:Addr) (m:Nat) (ds:List RD),vs=[.ref n]/\fC CN K H n l (m:Int) ds/\(∀d∈ds,cK (m:Int) d.2.1 d.2.2.1)/\1<=m/\m<=20/\ds.length<=100/\∀l' H',aV H H'->H l'=none->H' l'=some (.lst ((Hj m ds).map V.int))->Q (.ref l') H'
theorem oT:(["mark","lost","kept"]:List Str).Nodup:=by decide +kernel
abbrev yW:Stmt:=top 29
theorem uO:aQ ["marks","row","kept","lost"] ["marks","row"] (aI yW):=sK9 rfl rfl rfl rfl (by decide +kernel)
theorem Ik {dV:Value}(F:aY K "joined" "joined" yW dV f fd)(T:RT K mg CR CK) :
  aL P w K mg base CX 1 f fd ["marks","row"] (Bj K CK):=by
 refine F.ok uO (fun vs H Q E h=>?_) fun cdv A outer s H vs Q E hr h=>?_
 ·obtain⟨_,_,_,_,_,_,_,rfl,_⟩:=h;rfl
 obtain⟨a,x,ms,k,s0,g0,z,rfl,hS,rw,hs,hg,h100,q⟩:=h;refine⟨_,(aC (aR (i:=2) uO.nd rfl (Or.inr rfl) (aS bQ (pv 0) (bX (pv 1) rfl) (fun _ _=>rfl)))
  (aC (aR (i:=3) uO.nd rfl (Or.inr rfl) (aS bQ (pv 0) (bX (pv 1) rfl) (fun _ _=>rfl)))
  (aF (aX (eU (nl:=1) (fr:=[3,2]) (Nc:=["mark","lost","kept"]) (cl:=[("lost",s.heap.objs.size+2),("kept",s.heap.objs.size+1)]) rfl ⟨rfl,rfl,by decide +kernel,by decide +kernel,(dG rfl (dG rfl (jU))),eP rfl,rfl,fun i n h=>match i,h with | 0,h=>by cases h;exact⟨3,rfl,rfl,rfl,rfl,.inl rfl⟩ | 1,h=>by cases h;exact⟨2,rfl,rfl,rfl,rfl,.inl rfl⟩ | k+2,h=>by rw[show 1+(k+2)=k+3 by lia] at h;cases h⟩
    (cU (pv 0)) (fun C s3 H3 fp pins=>(aZ (i:=0) oT rfl (Or.inl rfl))) (fun C s3 H3 fp pins=>dL)
    (fun C s3 H3 fp pins=>(sM (bG eZ (pv 0) (pv 1) (bK _)) (pv 2) (pv 0)))))))),?_⟩
 obtain⟨dx,hx⟩:=id rw;have gi:∀{j:Nat},j < ms.length->atI (ms.map V.int) (j:Int)=some (.int (ms.getD j 0)):=fun h=>bU (by rw[getElem?_map,getElem?_eq_getElem h,getD_eq_getElem?_getD,getElem?_eq_getElem h];rfl);refine⟨_,rfl,_,rfl,x,CK _,_,_,_,rfl,hx,T.cl _,T.nS _,cQ _ _ _,a,_,_,_,rfl,rfl,hS,gi hs,?_⟩;refine⟨_,rfl,_,rfl,x,CK _,_,_,_,rfl,hx,T.cl _,T.nG _,dA _ _ _,a,_,_,_,rfl,rfl,hS,gi hg,?_⟩;refine⟨_,rfl,a,rfl,⟨_,hS⟩,fun D hD=>?_⟩;have sD:=aG hD (.lst []);refine dE (xs:=ms.map V.int) (fun i zs H'=>aV H H'/\H' D=some (.lst zs)/\zs=((jn ms s0 g0).take i).map V.int) ⟨sD,aB,rfl⟩ (fun i zs H' h=>h.2.1) (fun i zs H' _ h=>h.1.seq hS) ?_ ?_
 ·rintro i zs x H1 hx' ⟨s1,e1,rfl⟩ C hC;rw[getElem?_map] at hx';obtain⟨c,hc,rfl⟩:=Option.map_eq_some_iff.mp hx';have hi:i < ms.length:=(List.getElem?_eq_some_iff.mp hc).1;have ej:(jn ms s0 g0)[i]?=some (if c=ms.getD g0 0 then ms.getD s0 0 else c):=by unfold jn;rw[getElem?_map,hc];rfl
  have lj:(jn ms s0 g0).length=ms.length:=by unfold jn;rw[length_map]
  refine⟨dD.1,dD.2,fI ?_⟩;refine⟨_,rfl,_,rfl,rfl,_,rfl,?_⟩
  by_cases h:c=ms.getD g0 0
  ·rw[if_pos h] at ej;refine ifT (decide_eq_true (by rw[h])) ⟨_,rfl,e1,bA (by rw[length_map,length_take];lia),hC _ _ ⟨s1.change hD,aB,?_⟩⟩;rw[take_add_one,ej,map_append];rfl
  ·rw[if_neg h] at ej;refine ifF (decide_eq_false (fun z=>h (by injection z))) ⟨_,rfl,e1,bA (by rw[length_map,length_take];lia),hC _ _ ⟨s1.change hD,aB,?_⟩⟩;rw[take_add_one,ej,map_append];rfl
 ·rintro zs H1 ⟨s1,e1,rfl⟩;have lj:(jn ms s0 g0).length=ms.length:=by unfold jn;rw[length_map]
  rw[length_map,<- lj,take_length] at e1;exact q D H1 s1 hD e1
abbrev Eg:Stmt:=top 28
theorem rJ:aQ ["net","marks","row"] ["net"] (aI Eg):=sK9 rfl rfl rfl rfl (by decide +kernel)
theorem Ls {dV:Value}(F:aY K "marks_of" "marks_of" Eg dV f fd){CN:Addr}(mli:mg "list"=none)(mra:mg "range"=none)(NTx:NT K mg CN)(T:RT K mg CR CK){fJ:Kd->Addr}{fdJ:Kd->FuncData}(GJ:∀k,aL P w K mg base CX0 1 (fJ k) (fdJ k) ["self"] (oS k))(bJ:∀k,aM K (fdJ k) ["self"] [])(mJ:∀k,gL K (CK k) "joins" (fJ k)){gMa:Addr}{gdMa:FuncData}(GMa:aL P w K mg base CX0 1 gMa gdMa ["self"] (tF CN K))(bMa:aM K gdMa ["self"] [])(mMa:gL K CN "many" gMa){gRo:Addr}{gdRo:FuncData}(GRo:aL P w K mg base CX0 4 gRo gdRo ["self"] (pS CN K CK))(bRo:aM K gdRo ["self"] [])(mRo:gL K CN "rows" gRo)(G1:aL P w K mg base CX0 1 g1 gd1 ["marks","row"] (Bj K CK))(b1:aM K gd1 ["marks","row"] [])(k1:kI9 K g1)(m1:mI9 mg "joined" g1) :
  aL P w K mg base CX 5 f fd ["net"] (Gg CN K):=by
 refine F.ok rJ (fun vs H Q E h=>?_) fun cdv A outer s H vs Q E hr h=>?_
 ·obtain⟨_,_,_,_,rfl,_⟩:=h;rfl
 obtain⟨n,l,m,ds,rfl,nt,pt,hm,h100,q⟩:=h;have r1:=hr.mono (show 1<=4 by lia);refine⟨_,(aC (aR (i:=1) rJ.nd rfl (Or.inl rfl) (zF rfl rfl mli rfl mra (aA (fX (pv 0) NTx.cl mMa GMa r1 bMa .nil aK) aD)))
  (aC (dW PassesOwn.never rfl (cU (fX (pv 0) NTx.cl mRo GRo hr bRo .nil aK)) (aZ (i:=2) rJ.nd rfl (Or.inl rfl))
   (aF (cA (dU (gA (pv 2) T.cl mJ GJ r1 bJ .nil aK)) (aF (aR (i:=1) rJ.nd rfl (Or.inl rfl) (aH G1 r1 rfl m1 k1 b1 .nil aK (aA (pv 1) (aA (pv 2) aD))))) bH)))
  (aF (aX (pv 1))))),?_⟩
 obtain⟨dx,hn⟩:=nt.ob;refine⟨_,rfl,n,dx,_,rfl,hn,fQ _ _ (by decide +kernel) (by decide +kernel),n,l,_,ds,rfl,nt,m,rfl,by lia,fun D hD=>?_⟩;have sD:=aG hD (.lst ((List.range m).map fun (i:Nat)=>V.int (i:Int)));have eD:upd H D (.lst ((List.range m).map fun (i:Nat)=>V.int (i:Int))) D=some (.lst ((mks m (ds.take 0)).map V.int)):=by
  rw[aB];show some (HO.lst _)=some (HO.lst ((yX m).map V.int));unfold yX;rw[map_map];rfl
 generalize upd H D (.lst ((List.range m).map fun (i:Nat)=>V.int (i:Int)))=H1 at sD eD ⊢;refine⟨_,rfl,n,dx,_,rfl,sD _ _ hn,fQ _ _ (by decide +kernel) (by decide +kernel),n,l,_,ds,rfl,nt.same sD,h100,fun a xs H2 s2 na ea Rb=>?_⟩;have lxs:=Rb.length;refine⟨a,rfl,⟨_,SqL.of ea⟩,?_⟩;refine gP (xs:=xs) (fun i σ H'=>aV H2 H'/\∃(c:Addr) (z:Option V),σ=[some (.ref n),some (.ref c),z]/\H c=none/\H' c=some (.lst ((mks m (ds.take i)).map V.int))) ⟨aV.refl _,D,none,rfl,hD,s2 _ _ eD⟩ (fun i σ H' _ h=>h.1.seq (SqL.of ea)) ?_ ?_
 ·rintro i x σ H3 hx ⟨s3,c,z,rfl,nc,ec⟩;have hi:i < ds.length:=by
   have:=(List.getElem?_eq_some_iff.mp hx).1;lia
  obtain⟨⟨k,u,v,p⟩,hd⟩:∃d,ds[i]?=some d:=⟨_,getElem?_eq_getElem hi⟩
  obtain⟨y,z',ey,rw,fz⟩:=Rb.at hd;have ex:x=.ref y:=by rw[ey] at hx;exact(Option.some.inj hx).symm
  subst ex;have rw3:=rw.same s3;obtain⟨dr,hy⟩:=id rw3;have et:ds.take (i+1)=ds.take i++[(k,u,v,p)]:=by rw[take_add_one,hd];rfl
  obtain⟨u0,u1,v0,v1⟩:cK (m:Int) u v:=pt _ (mem_of_getElem? hd);refine⟨_,rfl,k,y,dr,_,rfl,hy,(dZ _ _ _ (by decide +kernel) (by decide +kernel) (by decide +kernel)),_,rfl,_,rfl,?_⟩
  by_cases hk:k=.pu
  ·refine ifF (decide_eq_false (fun z=>z hk)) ⟨s3,c,_,rfl,nc,?_⟩;rw[et,lP];unfold iO;rw[if_pos hk];exact ec
  ·refine ifT (decide_eq_true hk) ⟨_,rfl,_,rfl,c,y,mks m (ds.take i),k,u.toNat,v.toNat,.ref z',rfl,SqL.of ec,?_,by rw[iM];lia,by rw[iM];lia,by rw[iM];lia,fun c' H4 s4 nc' ec'=>⟨s3.trans s4,c',_,rfl,?_,?_⟩⟩
   ·rw[show ((u.toNat:Nat):Int)=u by lia,show ((v.toNat:Nat):Int)=v by lia];exact rw3
   ·exact((sD.trans s2).trans s3).free nc'
   ·rw[et,lP];unfold iO;rw[if_neg hk];exact ec'
 ·rintro σ H3 ⟨s3,c,z,rfl,nc,ec⟩;rw[show ds.take xs.length=ds by rw[lxs,take_length]] at ec;exact⟨_,rfl,q c H3 ((sD.trans s2).trans s3) nc ec⟩
theorem iH:(["point","mark","marks"]:List Str).Nodup:=by decide +kernel
abbrev Dh:Stmt:=top 27
theorem Fe:aQ ["net","marks"] ["net"] (aI Dh):=sK9 rfl rfl rfl rfl (by decide +kernel)
theorem Pm {dV:Value}(F:aY K "floating" "floating" Dh dV f fd){CN:Addr}(men:mg "enumerate"=none)(G1:aL P w K mg base CX0 5 g1 gd1 ["net"] (Gg CN K))(b1:aM K gd1 ["net"] [])(k1:kI9 K g1)(m1:mI9 mg "marks_of" g1) :
  aL P w K mg base CX 6 f fd ["net"] (Gw CN K):=by
 refine F.ok Fe (fun vs H Q E h=>?_) fun cdv A outer s H vs Q E hr h=>?_
 ·obtain⟨_,_,_,_,rfl,_⟩:=h;rfl
 obtain⟨n,l,m,ds,rfl,nt,pt,h1,hm,h100,q⟩:=h;refine⟨_,(aC (aR (i:=1) Fe.nd rfl (Or.inr rfl) (aH G1 hr rfl m1 k1 b1 .nil aK (aA (pv 0) aD)))
  (aF (aX (eU (nl:=2) (fr:=[1]) (Nc:=["point","mark","marks"]) (cl:=[("marks",s.heap.objs.size+1)]) (g:=(Jq K 2 (kU (jO 0) (kU (jO 1) Jk)))) rfl ⟨rfl,rfl,by decide +kernel,by decide +kernel,fun x c h=>h,eP rfl,rfl,fun i n h=>match i,h with | 0,h=>by cases h;exact⟨1,rfl,rfl,rfl,rfl,.inl rfl⟩ | k+1,h=>by rw[show 2+(k+1)=k+3 by lia] at h;cases h⟩
    (zB rfl men rfl (aA (pv 1) aD)) (fun C s3 H3 fp pins=>(gK rfl (bO (aZ (i:=0) iH rfl (Or.inl rfl)) (bO (aZ (i:=1) iH rfl (Or.inl rfl)) fH)))) (fun C s3 H3 fp pins=>(yN (bG nQ (pv 1) (aS (jQ (K:=K) rfl) (pv 2) aE (fun _ _=>rfl)) (bK _))))
    (fun C s3 H3 fp pins=>(pv 0)))))),?_⟩
 refine⟨_,rfl,n,l,m,ds,rfl,nt,pt,hm,h100,fun M H1 s1 nM eM=>?_⟩;have mlen:=iM m ds;have hS:SqL K H1 M ((mks m ds).map V.int):=SqL.of eM;refine⟨_,rfl,M,rfl,⟨_,hS⟩,fun D hD=>?_⟩;have sD:=aG hD (.lst []);refine vG (xs:=(mks m ds).map V.int) (fun i zs H'=>aV H1 H'/\H' D=some (.lst zs)/\zs=(((List.range i).filter fun p=>decide (mk m ds p≠mk m ds 0)).map fun (p:Nat)=>V.int (p:Int))) ⟨sD,aB,rfl⟩ (fun i zs H' h=>h.2.1) (fun i zs H' _ h=>h.1.seq hS) ?_ ?_
 ·rintro i zs x H2 T2 hx ⟨s2,e2,rfl⟩ hT C hC;rw[getElem?_map] at hx;obtain⟨c,hc,rfl⟩:=Option.map_eq_some_iff.mp hx;have hi:i < m:=by have:=(List.getElem?_eq_some_iff.mp hc).1;lia
  have ec:c=mk m ds i:=by unfold mk;rw[getD_eq_getElem?_getD,hc];rfl
  have g0:atI ((mks m ds).map V.int) 0=some (.int (mk m ds 0)):=bU (j:=0) (by unfold mk;rw[getElem?_map,getElem?_eq_getElem (by lia),getD_eq_getElem?_getD,getElem?_eq_getElem (by lia)];rfl);have ll:(((List.range i).filter fun p=>decide (mk m ds p≠mk m ds 0)).map fun (p:Nat)=>V.int (p:Int)).length<=20:=by
   rw[length_map];have:=length_filter_le (fun p=>decide (mk m ds p≠mk m ds 0)) (List.range i);rw[length_range] at this;lia
  have sT:=aG hT (.tup [.int (i:Int),.int c]);refine⟨T2,_,rfl,SqT.of aB,rfl,_,_,rfl,_,_,rfl,rfl,nH.1,nH.2,?_⟩;generalize upd H2 T2 (.tup [.int (i:Int),.int c])=H3 at sT ⊢;have s3:=s2.trans sT;have e3:=sT _ _ e2;refine⟨_,rfl,_,rfl,M,_,_,_,rfl,rfl,s3.seq hS,g0,rfl,_,rfl,?_⟩;subst ec
  by_cases h:mk m ds i=mk m ds 0
  ·refine ifF (by rw[h];simp) (hC _ _ ⟨s3,e3,?_⟩);rw[range_succ,filter_append,filter_cons_of_neg (by simp[h])];simp
  ·refine ifT (by simp[h]) ⟨_,rfl,e3,bA (by lia),hC _ _ ⟨s3.change hD,aB,?_⟩⟩;rw[range_succ,filter_append,filter_cons_of_pos (by simp[h]),map_append];rfl
 ·rintro zs H2 ⟨s2,e2,rfl⟩;refine q D H2 (s1.trans s2) (s1.free hD) ?_;rw[length_map,mlen] at e2;rw[e2];unfold Hj;rw[map_map];rfl
open Shp
theorem uV:(["one","bottom"]:List Str).Nodup:=by decide +kernel
abbrev sIW:Stmt:=top 51
theorem Qg:aQ ["some","bottom","one"] ["some"] (aI sIW):=sK9 rfl rfl rfl rfl (by decide +kernel)
theorem Zc {dV:Value}(F:aY K "in_wholes" "in_wholes" sIW dV f fd)(G1:aL P w K mg base CX0 1 g1 gd1 ["one","other"] Rh)(b1:aM K gd1 ["one","other"] [])(k1:kI9 K g1)(m1:mI9 mg "greatest_common" g1) :
  aL P w K mg base CX 2 f fd ["some"] (Tz K):=by
 refine F.ok Qg (fun vs H Q E h=>?_) fun cdv A outer s H vs Q E hr h=>?_
 ·obtain⟨_,_,_,_,rfl,_⟩:=h;rfl
 obtain⟨a,xs,ps,n,rfl,hS,hF,hP,hB,h100,hn,q⟩:=h;refine⟨_,(aC (aR (i:=1) Qg.nd rfl (Or.inr rfl) aE)
  (aC (dW PassesOwn.never rfl (cU (pv 0)) (aZ (i:=2) Qg.nd rfl (Or.inl rfl))
   (aF (aR (i:=1) Qg.nd rfl (Or.inr rfl) (aT cF (aT iQ (pv 1) (aH G1 hr rfl m1 k1 b1 .nil aK (aA (pv 1) (aA (aS aW (pv 2) aE (fun _ _=>rfl)) aD)))) (aS aW (pv 2) aE (fun _ _=>rfl))))))
  (aF (aX (dH (aA (eU (nl:=1) (fr:=[1]) (Nc:=["one","bottom"]) (cl:=[("bottom",s.heap.objs.size+1)]) rfl ⟨rfl,rfl,by decide +kernel,by decide +kernel,fun x c h=>h,eP rfl,rfl,fun i n h=>match i,h with | 0,h=>by cases h;exact⟨1,rfl,rfl,rfl,rfl,.inl rfl⟩ | k+1,h=>by rw[show 1+(k+1)=k+2 by lia] at h;cases h⟩
    (cU (pv 0)) (fun C s3 H3 fp pins=>(aZ (i:=0) uV rfl (Or.inl rfl))) (fun C s3 H3 fp pins=>dL)
    (fun C s3 H3 fp pins=>(aT cF (aS (oW (K:=K) rfl) (pv 0) aE (fun _ _=>rfl)) (aT iQ (pv 1) (aS (oW (K:=K) rfl) (pv 0) aE (fun _ _=>rfl)))))) (aA (pv 1) aD))))))),?_⟩
 have lx:=hF.length;refine⟨_,rfl,a,rfl,⟨_,hS⟩,?_⟩;refine gP (xs:=xs) (fun i σ H'=>H'=H/\i<=ps.length/\∃z,σ=[some (.ref a),some (.int (eK (ps.take i))),z]) ⟨rfl,Nat.zero_le _,none,rfl⟩ (fun i σ H' _ h=>by rw[h.1];exact hS) ?_ ?_
 ·rintro i x σ H' hx ⟨rfl,hi,z,rfl⟩;obtain⟨u,p,rfl,ep,fu⟩:=hF.get hx;have hi':i < ps.length:=(List.getElem?_eq_some_iff.mp ep).1;obtain⟨f1,f2,_⟩:=oE hP hB i hi;have mono:=Nat.mul_le_mul_left n hi;have hp:=hP p (mem_of_getElem? ep);have pb:=(hB p (mem_of_getElem? ep)).b;have g0:gc (eK (ps.take i)) p.2≠0:=by have:=Mq.sU (a:=eK (ps.take i)) (show p.2≠0 by lia);lia
  have gb:Mq.B n (gc (eK (ps.take i)) p.2):=by
   have:=Bu (t:=eK (ps.take i)) (show p.2≠0 by lia);rw[Sa (by lia)] at this;exact pb.le this
  have qb:Mq.B (1+n*i) (Int.fdiv (eK (ps.take i)) (gc (eK (ps.take i)) p.2)):=by
   have d1:gc (eK (ps.take i)) p.2 ∣ eK (ps.take i):=by unfold gc;exact Int.gcd_dvd_left ..
   obtain⟨k,hk⟩:=d1;have:=Mq.iR g0 hk;rw[fR g0 hk];exact f2.le this
  refine⟨_,rfl,_,rfl,cI rfl fu ⟨_,_,rfl,fP g0 gb (by lia) (cI rfl fu (cH qb pb (by lia) (by lia) ?_))⟩⟩;refine⟨rfl,hi',some (.ref u),?_⟩;rw[Mq.mI ep];rfl
 rintro σ H' ⟨rfl,_,z,rfl⟩;rw[lx,take_length];obtain⟨f1,f2,f3⟩:=oE hP hB ps.length (Nat.le_refl _);rw[take_length] at f1 f2 f3;refine⟨_,rfl,a,rfl,⟨_,hS⟩,fun D hD=>?_⟩;have sD:=aG hD (.lst []);refine dE (xs:=xs) (fun i zs H1=>aV H' H1/\H1 D=some (.lst zs)/\zs=((ps.take i).map (zV (eK ps))).map V.int) ⟨sD,aB,rfl⟩ (fun i zs H1 h=>h.2.1) (fun i zs H1 _ h=>h.1.seq hS) ?_ ?_
 ·rintro i zs x H1 hx ⟨s1,e1,rfl⟩ C hC;obtain⟨u,p,rfl,ep,fu⟩:=hF.get hx;have hi':i < ps.length:=(List.getElem?_eq_some_iff.mp ep).1;have mem:=mem_of_getElem? ep;have hp:=hP p mem;obtain⟨k,hk⟩:=f3 p mem;have fu1:=s1.fq fu;have kb:Mq.B (1+n*ps.length) (Int.fdiv (eK ps) p.2):=by
   have e:=fR (show p.2≠0 by lia) (show eK ps=p.2*k by rw[hk,Int.mul_comm]);rw[e];refine f2.le ?_;rw[hk,Int.natAbs_mul];exact Nat.le_mul_of_pos_right _ (by lia)
  refine⟨dD.1,dD.2,fI ?_⟩;refine dR rfl fu1 ⟨_,rfl,cI rfl fu1 (fP (show p.2≠0 by lia) (hB p mem).b (by lia) (cH (hB p mem).a kb (by lia) (by lia) ?_))⟩;refine⟨e1,bA (by rw[length_map,length_map,length_take];lia),hC _ _ ⟨s1.change hD,aB,?_⟩⟩;rw[take_add_one,ep,map_append,map_append];rfl
 rintro zs H1 ⟨s1,e1,rfl⟩;rw[lx,take_length] at e1;refine⟨_,rfl,zl9 2,fun t ht=>?_⟩;have s2:=aG ht (.tup [.ref D,.int (eK ps)]);exact q t D _ (s1.trans s2) hD (SqT.of aB) (s2 _ _ e1)
abbrev Vs:Stmt:=top 55
theorem Uk:aQ ["rows","rank","column","place"] ["rows","rank","column"] (aI Vs):=sK9 rfl rfl rfl rfl (by decide +kernel)
theorem Xn {dV:Value}(F:aY K "pivot_place" "pivot_place" Vs dV f fd)(ml:mg "len"=none)(mr:mg "range"=none) :
  aL P w K mg base CX 1 f fd ["rows","rank","column"] (Uc K):=by
 refine F.ok Uk (fun vs H Q E h=>?_) fun cdv A outer s H vs Q E hr h=>?_
 ·obtain⟨_,_,_,_,_,_,_,_,rfl,_⟩:=h;rfl
 obtain⟨l,D,zs,R,r,c,m,w',rfl,hS,hI,hm,hw,hc,hr',h100,q1,q2⟩:=h;refine⟨_,(aC (dW PassesOwn.never rfl (pU rfl mr (aA (pv 1) (aA (bN bC rfl ml PySem.boot_len (aA (pv 0) aD)) aD))) (aZ (i:=3) Uk.nd rfl (Or.inl rfl))
   (aF (cA (bG nQ (aS bQ (aS bQ (pv 0) (pv 3) (fun _ _=>rfl)) (pv 2) (fun _ _=>rfl)) aE (bK _)) (aF (aX (pv 3))) bH)))
  (aF (aX Ww))),?_⟩
 have lz:=hI.length;obtain⟨k,hk⟩:∃k,m=r+k:=⟨m - r,by lia⟩
 refine⟨_,rfl,_,rfl,l,zs,rfl,.inl hS,(r:Int),(zs.length:Int),rfl,⟨by lia,by lia,by lia,by lia⟩,?_⟩;rw[show ((zs.length:Int) - (r:Int)).toNat=k by lia];refine gR (lo:=(r:Int)) (n:=k) (fun i σ H'=>H'=H/\(∀j,r<=j->j < r+i->ent R j c=0)/\∃z,σ=[some (.ref l),some (.int (r:Int)),some (.int (c:Int)),z]) ⟨rfl,fun j h1 h2=>absurd h1 (by lia),none,rfl⟩ ?_ ?_
 ·rintro i σ H' hi ⟨rfl,hz,z,rfl⟩;obtain⟨u,eu,nu,hu⟩:=hI.at (i:=r+i) (by lia);have eu':atI zs ((r:Int)+(i:Int))=some (.ref u):=by have:=bU eu;rwa [Int.natCast_add] at this
  have ec:=bU (kE (l:=R.getD (r+i) []) (i:=c) (by rw[hw _ (by lia)];exact hc));refine⟨_,rfl,_,rfl,l,zs,_,_,rfl,rfl,hS,eu',_,rfl,u,_,_,_,rfl,rfl,SqL.of hu,ec,rfl,_,rfl,oM (fun e=>?_) (fun e=>?_)⟩
  ·refine⟨_,rfl,?_⟩;have ne:ent R (r+i) c≠0:=fun z=>by
    have z':(R.getD (r+i) []).getD c 0=0:=z;rw[z'] at e;simp at e
   have:=q1 (r+i) (by lia) (by lia) ne
   rwa [Int.natCast_add] at this
  ·refine⟨rfl,fun j h1 h2=>?_,_,rfl⟩
   by_cases hj:j=r+i
   ·rw[hj];simp at e;exact e
   ·exact hz j h1 (by lia)
 ·rintro σ H' ⟨rfl,hz,z,rfl⟩;exact q2 fun i h1 h2=>hz i h1 (by lia)
theorem eQ:(["here","above","own","other","divisor"]:List Str).Nodup:=by decide +kernel
abbrev Vl:Stmt:=top 57
theorem Kq:aQ ["row","upper","column","divisor","own","other"] ["row","upper","column","divisor"] (aI Vl):=sK9 rfl rfl rfl rfl (by decide +kernel)
theorem Uz {dV:Value}(F:aY K "cleared" "cleared" Vl dV f fd)(mz:mg "zip"=none) :
  aL P w K mg base CX 1 f fd ["row","upper","column","divisor"] (wQ K):=by
 refine F.ok Kq (fun vs H Q E h=>?_) fun cdv A outer s H vs Q E hr h=>?_
 ·obtain⟨_,_,_,_,_,_,_,rfl,_⟩:=h;rfl
 obtain⟨u,v,row,upper,c,n,dv,rfl,hu,hv,hl,h100,hc,hd,b1,b2,bd,hn,q⟩:=h;refine⟨_,(aC (aR (i:=4) Kq.nd rfl (Or.inr rfl) (aS bQ (pv 1) (pv 2) (fun _ _=>rfl)))
  (aC (aR (i:=5) Kq.nd rfl (Or.inr rfl) (aS bQ (pv 0) (pv 2) (fun _ _=>rfl)))
  (aF (aX (eU (nl:=2) (fr:=[4,5,3]) (Nc:=["here","above","own","other","divisor"]) (cl:=[("own",s.heap.objs.size+2),("other",s.heap.objs.size+3),("divisor",s.heap.objs.size+1)]) (g:=(Jq K 2 (kU (jO 0) (kU (jO 1) Jk)))) rfl ⟨rfl,rfl,by decide +kernel,by decide +kernel,(dG rfl (dG rfl (dG rfl (jU)))),eP rfl,rfl,fun i n h=>match i,h with | 0,h=>by cases h;exact⟨4,rfl,rfl,rfl,rfl,.inl rfl⟩ | 1,h=>by cases h;exact⟨5,rfl,rfl,rfl,rfl,.inl rfl⟩ | 2,h=>by cases h;exact⟨3,rfl,rfl,rfl,rfl,.inl rfl⟩ | k+3,h=>by rw[show 2+(k+3)=k+5 by lia] at h;cases h⟩
    (nU rfl mz rfl (aA (pv 0) (aA (pv 1) aD))) (fun C s3 H3 fp pins=>(gK rfl (bO (aZ (i:=0) eQ rfl (Or.inl rfl)) (bO (aZ (i:=1) eQ rfl (Or.inl rfl)) fH)))) (fun C s3 H3 fp pins=>dL)
    (fun C s3 H3 fp pins=>(aT iQ (aT jD (aT cF (pv 2) (pv 0)) (aT cF (pv 3) (pv 1))) (pv 4)))))))),?_⟩
 have e1:=bU (kE (l:=upper) (i:=c) (by lia));have e2:=bU (kE (l:=row) (i:=c) (by lia));refine⟨_,rfl,_,rfl,v,_,_,_,rfl,rfl,hv,e1,?_⟩;refine⟨_,rfl,_,rfl,u,_,_,_,rfl,rfl,hu,e2,?_⟩;refine⟨_,rfl,_,rfl,u,v,rfl,⟨_,hu⟩,⟨_,hv⟩,fun D hD=>?_⟩;have sD:=aG hD (.lst []);refine sI (xs:=row.map V.int) (ys:=upper.map V.int) (fun i zs H'=>aV H H'/\H' D=some (.lst zs)/\zs=((gJ upper row c dv).take i).map V.int) ⟨sD,aB,rfl⟩ (fun i zs H' h=>h.2.1) (fun i zs H' _ h=>⟨h.1.seq hu,h.1.seq hv⟩) ?_ ?_
 ·rintro i zs x y H1 T1 ex ey ⟨s1,e1',rfl⟩ hT C hC;have hi:i < row.length:=by have:=(List.getElem?_eq_some_iff.mp ex).1;simpa using this
  have ex':x=.int (row.getD i 0):=by rw[kE hi] at ex;cases ex;rfl
  have ey':y=.int (upper.getD i 0):=by rw[kE (by lia)] at ey;cases ey;rfl
  subst ex' ey';have sT:=aG hT (.tup [.int (row.getD i 0),.int (upper.getD i 0)]);refine⟨T1,_,rfl,SqT.of aB,rfl,_,_,rfl,_,_,rfl,rfl,nH.1,nH.2,fI ?_⟩;have mm:Mq.B (n+n+1) (upper.getD c 0*row.getD i 0 - row.getD c 0*upper.getD i 0):=Mq.B.sub ((b2 c).mul (b1 i)) ((b1 c).mul (b2 i));refine⟨_,rfl,_,rfl,cH (b2 c) (b1 i) (by lia) (by lia) ⟨_,rfl,_,rfl,cH (b1 c) (b2 i) (by lia) (by lia) ⟨_,_,rfl,rfl,_,rfl,fP hd bd (by lia) ?_⟩⟩⟩;have ll:(gJ upper row c dv).length=row.length:=by unfold gJ;rw[length_zipWith];lia
  have eA:=sT _ _ e1';refine⟨eA,bA (by rw[length_map,length_take];lia),hC _ _ ⟨(s1.trans sT).change hD,aB,?_⟩⟩;have eg:(gJ upper row c dv)[i]?=some (Int.fdiv (upper.getD c 0*row.getD i 0 - row.getD c 0*upper.getD i 0) dv):=by
   unfold gJ;rw[getElem?_zipWith,kZ hi,kZ (show i < upper.length by lia)]
  rw[take_add_one,eg,map_append];rfl
 rintro zs H1 ⟨s1,e1',rfl⟩;have ll:(gJ upper row c dv).length=row.length:=by unfold gJ;rw[length_zipWith];lia
 rw[length_map,length_map,take_of_length_le (by rw[ll];lia)] at e1';exact q D H1 s1 hD e1'
theorem cY:(["place","row","upper","rank","divisor","column"]:List Str).Nodup:=by decide +kernel
abbrev tU:Stmt:=top 56
theorem wH:aQ ["rows","rank","column","divisor","upper"] ["rows","rank","column","divisor"] (aI tU):=sK9 rfl rfl rfl rfl (by decide +kernel)
theorem Bo {dV:Value}(F:aY K "cleared_rows" "cleared_rows" tU dV f fd)(men:mg "enumerate"=none)(G1:aL P w K mg base CX0 1 g1 gd1 ["row","upper","column","divisor"] (wQ K))(b1:aM K gd1 ["row","upper","column","divisor"] [])(k1:kI9 K g1)(m1:mI9 mg "cleared" g1) :
  aL P w K mg base CX 2 f fd ["rows","rank","column","divisor"] (wZ K):=by
 refine F.ok wH (fun vs H Q E h=>?_) fun cdv A outer s H vs Q E hr h=>?_
 ·obtain⟨_,_,_,_,_,_,_,_,_,_,rfl,_⟩:=h;rfl
 obtain⟨l,D0,zs,R,r,c,m,w',n,dv,rfl,hS,hI,hm,hw,hc,hw100,hr',h100,hd,hB,bd,hn,q⟩:=h;refine⟨_,(aC (aR (i:=4) wH.nd rfl (Or.inr rfl) (aS bQ (pv 0) (pv 1) (fun _ _=>rfl)))
  (aF (aX (eU (nl:=2) (fr:=[4,1,3,2]) (Nc:=["place","row","upper","rank","divisor","column"]) (cl:=[("upper",s.heap.objs.size+4),("rank",s.heap.objs.size+1),("divisor",s.heap.objs.size+3),("column",s.heap.objs.size+2)]) (g:=(Jq K 2 (kU (jO 0) (kU (jO 1) Jk)))) rfl ⟨rfl,rfl,by decide +kernel,by decide +kernel,(dG rfl (dG rfl (dG rfl (dG rfl (jU))))),eP rfl,rfl,fun i n h=>match i,h with | 0,h=>by cases h;exact⟨4,rfl,rfl,rfl,rfl,.inl rfl⟩ | 1,h=>by cases h;exact⟨1,rfl,rfl,rfl,rfl,.inl rfl⟩ | 2,h=>by cases h;exact⟨3,rfl,rfl,rfl,rfl,.inl rfl⟩ | 3,h=>by cases h;exact⟨2,rfl,rfl,rfl,rfl,.inl rfl⟩ | k+4,h=>by rw[show 2+(k+4)=k+6 by lia] at h;cases h⟩
    (zB rfl men rfl (aA (pv 0) aD)) (fun C s3 H3 fp pins=>(gK rfl (bO (aZ (i:=0) cY rfl (Or.inl rfl)) (bO (aZ (i:=1) cY rfl (Or.inl rfl)) fH)))) (fun C s3 H3 fp pins=>dL)
    (fun C s3 H3 fp pins=>(sM (bG eZ (pv 0) (pv 3) (bK _)) (pv 1) (aH G1 hr rfl m1 k1 b1 .nil aK (aA (pv 1) (aA (pv 2) (aA (pv 5) (aA (pv 4) aD))))))))))),?_⟩
 have lz:=hI.length;obtain⟨v,ev,nv,hv⟩:=hI.at (i:=r) (by lia);refine⟨_,rfl,_,rfl,l,zs,_,_,rfl,rfl,hS,bU ev,?_⟩;refine⟨_,rfl,l,rfl,⟨_,hS⟩,fun D hD=>?_⟩;have sD:=aG hD (.lst []);have ll:=Mq.Ew R r c dv;refine vG (xs:=zs) (fun i ys H'=>aV H H'/\H' D=some (.lst ys)/\Imx D H' ys ((cG R r c dv).take i)) ⟨sD,aB,.nil⟩ (fun i ys H' h=>h.2.1) (fun i ys H' _ h=>h.1.seq hS) ?_ ?_
 ·rintro i ys x H1 T1 ex ⟨s1,e1,I1⟩ hT C hC;have hi:i < m:=by have:=(List.getElem?_eq_some_iff.mp ex).1;lia
  obtain⟨u,eu,nu,hu⟩:=hI.at (i:=i) (by lia);have exu:x=.ref u:=by rw[eu] at ex;cases ex;rfl
  subst exu;have lI:=I1.length;rw[length_take] at lI;have cg:=pB (R:=R) (i:=i) (by lia) r c dv;have cs:(cG R r c dv).take (i+1)=(cG R r c dv).take i++[(cG R r c dv).getD i []]:=by
   rw[take_add_one,getD_eq_getElem?_getD,getElem?_eq_getElem (show i < (cG R r c dv).length by lia)];rfl
  have sT:=aG hT (.tup [.int (i:Int),.ref u]);have uD:∀{x:Addr} {o:HO},H x=some o->x≠D:=fun h z=>by rw[z,hD] at h;cases h
  refine⟨T1,_,rfl,SqT.of aB,rfl,_,_,rfl,_,_,rfl,rfl,nH.1,nH.2,fI ?_⟩;generalize upd H1 T1 (.tup [.int (i:Int),.ref u])=H2 at sT ⊢;have sA:=s1.trans sT;have eA:=sT _ _ e1;refine⟨_,rfl,_,rfl,rfl,_,rfl,oM (fun e=>?_) (fun e=>?_)⟩
  ·have ei:i=r:=by simp at e;lia
   refine⟨_,rfl,eA,bA (by lia),hC _ _ ⟨sA.change hD,aB,?_⟩⟩;rw[cs,cg,if_pos ei];exact((I1.same sT).app (.cons (uD hu) (sA _ _ hu) .nil)).upd
  ·have ei:i≠r:=by simp at e;lia
   refine⟨_,rfl,_,rfl,_,rfl,_,rfl,u,v,R.getD i [],R.getD r [],c,n,dv,rfl,SqL.of (sA _ _ hu),SqL.of (sA _ _ hv),by rw[hw i hi,hw r hr'],by rw[hw i hi];exact hw100,by rw[hw i hi];exact hc,hd,fun j=>hB i j,fun j=>hB r j,bd,hn,fun l3 H3 s3 n3 e3=>?_⟩;have eB:=s3 _ _ eA;have n3':l3≠D:=fun z=>by rw[z,eA] at n3;cases n3
   refine⟨eB,bA (by lia),hC _ _ ⟨(sA.trans s3).change hD,aB,?_⟩⟩;rw[cs,cg,if_neg ei];exact((I1.same (sT.trans s3)).app (.cons n3' e3 .nil)).upd
 rintro ys H1 ⟨s1,e1,I1⟩;rw[lz,take_of_length_le (by lia)] at I1;exact q D ys H1 s1 hD e1 I1
abbrev Pl:Stmt:=top 54
theorem iC:aQ ["rows","width","rank","pivot","sign","column","place","lifted"] ["rows","width"] (aI Pl):=sK9 rfl rfl rfl rfl (by decide +kernel)
theorem Sh {dV:Value}(F:aY K "eliminated" "eliminated" Pl dV f fd)(mr:mg "range"=none)(mli:mg "list"=none)(G1:aL P w K mg base CX0 1 g1 gd1 ["rows","rank","column"] (Uc K))(b1:aM K gd1 ["rows","rank","column"] [])(k1:kI9 K g1)(m1:mI9 mg "pivot_place" g1)(G2:aL P w K mg base CX0 2 g2 gd2 ["rows","rank","column","divisor"] (wZ K))(b2:aM K gd2 ["rows","rank","column","divisor"] [])(k2:kI9 K g2)(m2:mI9 mg "cleared_rows" g2) :
  aL P w K mg base CX 3 f fd ["rows","width"] (Gf K):=by
 refine F.ok iC (fun vs H Q E h=>?_) fun cdv A outer s H vs Q E hr h=>?_
 ·obtain⟨_,_,_,_,_,_,_,_,rfl,_⟩:=h;rfl
 obtain⟨l,D0,zs,R,m,w',n,Pr,rfl,hS,hI,hm,hw,hmw,hw100,hB,hn1,hn,hm31,hPr,hSt,q⟩:=h;have r1:=hr.mono (show 1<=2 by lia);refine⟨_,(aC (aR (i:=0) iC.nd rfl (Or.inl rfl) (gX fB rfl mli PyProof.Rows.boot_list (aA (pv 0) aD)))
  (aC (aR (i:=2) iC.nd rfl (Or.inl rfl) aE)
  (aC (aR (i:=3) iC.nd rfl (Or.inl rfl) aE)
  (aC (aR (i:=4) iC.nd rfl (Or.inl rfl) aE)
  (aC (dW PassesOwn.never rfl (gW rfl mr (aA (pv 1) aD)) (aZ (i:=5) iC.nd rfl (Or.inl rfl))
   (aC (aR (i:=6) iC.nd rfl (Or.inl rfl) (aH G1 r1 rfl m1 k1 b1 .nil aK (aA (pv 0) (aA (pv 2) (aA (pv 5) aD)))))
  (aC (cA (yK (Co (pv 6))) (aF Bi) bH)
  (aC (cA (bG nQ (pv 6) (pv 2) (bK _)) (aC (aR (i:=7) iC.nd rfl (Or.inl rfl) (aS bQ (pv 0) (pv 6) (fun _ _=>rfl)))
  (aC (gV (aS bQ (pv 0) (pv 2) (fun _ _=>rfl)) (jI (pv 0) (pv 6) gB))
  (aC (gV (pv 7) (jI (pv 0) (pv 2) gB))
  (aF (aR (i:=4) iC.nd rfl (Or.inl rfl) (Nh Cv (pv 4))))))) bH)
  (aC (aR (i:=0) iC.nd rfl (Or.inl rfl) (aH G2 hr rfl m2 k2 b2 .nil aK (aA (pv 0) (aA (pv 2) (aA (pv 5) (aA (pv 3) aD))))))
  (aC (aR (i:=3) iC.nd rfl (Or.inl rfl) (aS bQ (aS bQ (pv 0) (pv 2) (fun _ _=>rfl)) (pv 5) (fun _ _=>rfl)))
  (aF (Dj (i:=2) iC.nd rfl (Or.inl rfl) aE Eb))))))))
  (aF (aX (Fl (lL cL (pv 0) (lL cL (pv 2) (lL cL (pv 3) (lL cL (pv 4) Gb)))) rfl rfl (by simp) (by decide))))))))),?_⟩
 refine⟨_,rfl,l,zs,rfl,.inl hS,fun l0 hl0=>?_⟩;have s0:=aG hl0 (.lst zs);have e0:upd H l0 (.lst zs) l0=some (.lst zs):=aB;generalize upd H l0 (.lst zs)=H0 at s0 e0 ⊢;refine⟨_,rfl,(m:Int),rfl,by lia,by lia,?_⟩;rw[Int.toNat_natCast];have b1:Mq.B n 1:=by
  show 1 < 2 ^ n;exact Nat.one_lt_two_pow (by lia)
 refine gR (lo:=0) (n:=m) (fun i σ H'=>aV H H'/\∃(lR:Addr) (zs':List V) (R':List (List Int)) (rank:Nat) (pivot sign:Int) (z5 z6 z7:Option V),σ=[some (.ref lR),some (.int (m:Int)),some (.int (rank:Int)),some (.int pivot),some (.int sign),z5,z6,z7]/\H lR=none/\H' lR=some (.lst zs')/\Imx lR H' zs' R'/\SI m w' (Mq.at2 R) R' rank i pivot sign/\Mq.SB n m R' rank i pivot/\Pr R') ⟨s0,l0,zs,R,0,1,1,none,none,none,rfl,hl0,e0,(hI.other hl0).same s0,.start hm hw,.start hB,hPr⟩ ?_ ?_
 ·rintro i σ H1 hi ⟨s1,lR,zs',R',rank,pivot,sign,z5,z6,z7,rfl,nR,eR,I1,S1,sb,p1⟩;rw[Int.zero_add];obtain⟨bR,bP⟩:=sb.bd5 S1 hm31;obtain⟨A1,c1,B1,_⟩:=S1.bar;have rm:=B1.rm;have rc:=B1.rc;have dn:pivot≠0:=fun z=>B1.dne (by rw[z];simp);clear B1;refine⟨_,rfl,_,rfl,_,rfl,lR,lR,zs',R',rank,i,m,w',rfl,SqL.of eR,I1,S1.len,S1.wid,by lia,rm,by lia,fun p h1 h2 ne=>?_,fun hz=>?_⟩
  ·refine⟨_,rfl,_,rfl,eY ?_⟩;have hrm:rank < m:=by lia
   refine(fun (hrest:∀(sg:Int) (z:Option V) (Hx:Hp) (zs2:List V) (R2:List (List Int)),aV H Hx->Hx lR=some (.lst zs2)->Imx lR Hx zs2 R2->SI m w' (Mq.at2 R) R2 rank i pivot sg->ent R2 rank i≠0->Mq.SB n m R2 rank i pivot->Pr R2->W.KIN.Hid ((?T:Int->Option V->Hp->Prop) sg z Hx))=>?main) ?rest
   case main=>
    refine⟨_,rfl,_,rfl,rfl,_,rfl,oM (fun e=>?c1) (fun e=>?c2)⟩
    case c1=>
     have npr:p≠rank:=by simp at e;lia
     obtain⟨up,eup,nup,hup⟩:=I1.at (i:=p) (by rw[S1.len];lia);obtain⟨ur,eur,nur,hur⟩:=I1.at (i:=rank) (by rw[S1.len];lia);have lz:zs'.length=m:=I1.length.trans S1.len;refine⟨_,rfl,_,rfl,lR,zs',_,_,rfl,rfl,SqL.of eR,bU eup,?_⟩;refine⟨_,rfl,_,rfl,lR,zs',_,_,rfl,rfl,SqL.of eR,bU eur,_,rfl,_,rfl,lR,zs',_,p,rfl,rfl,eR,gZ (by lia),?_⟩;have e2:upd H1 lR (.lst (zs'.set p (.ref ur))) lR=some (.lst (zs'.set p (.ref ur))):=aB;have I2:=(Imx.set nur hur p I1).upd (o:=.lst (zs'.set p (.ref ur)));have s2:aV H (upd H1 lR (.lst (zs'.set p (.ref ur)))):=s1.change nR;have hup2:upd H1 lR (.lst (zs'.set p (.ref ur))) up=some (.lst ((R'.getD p []).map V.int)):=by rw[aU nup];exact hup
     generalize upd H1 lR (.lst (zs'.set p (.ref ur)))=H2 at e2 I2 s2 hup2 ⊢;refine⟨_,rfl,_,rfl,_,rfl,lR,_,_,rank,rfl,rfl,e2,gZ (by rw[length_set];lia),?_⟩;have e3:upd H2 lR (.lst ((zs'.set p (.ref ur)).set rank (.ref up))) lR=some (.lst ((zs'.set p (.ref ur)).set rank (.ref up))):=aB;have I3:=(Imx.set nup hup2 rank I2).upd (o:=.lst ((zs'.set p (.ref ur)).set rank (.ref up)));have s3:aV H (upd H2 lR (.lst ((zs'.set p (.ref ur)).set rank (.ref up)))):=s2.change nR;generalize upd H2 lR (.lst ((zs'.set p (.ref ur)).set rank (.ref up)))=H3 at e3 I3 s3 ⊢;refine⟨_,rfl,_,rfl,?_⟩;show gE _ _ _ [some (.ref lR),some (.int (m:Int)),some (.int (rank:Int)),some (.int pivot),some (.int (-sign)),some (.int (i:Int)),some (.int (p:Int)),some (.ref up)] H3;have S3:=S1.swap (p:=p) (by lia) h2;have bR3:=sb.swap S1 (p:=p) (by lia) h2;have ne3:ent (fE R' p rank) rank i≠0:=by
      unfold ent;rw[xJ (by rw[S1.len];lia) (by rw[S1.len];lia)];have:Mq.sw p rank rank=p:=by unfold Mq.sw;rw[if_pos rfl]
      rw[this];exact ne
     have I3':Imx lR H3 ((zs'.set p (.ref ur)).set rank (.ref up)) (fE R' p rank):=I3;clear I3 hup2;have p3:=hSt.sw _ _ _ _ _ _ S1 (show rank < p by lia) h2 p1;generalize -sign=sg at S3 ⊢;generalize some (V.ref up)=zz at ⊢;exact(hrest sg zz H3 _ _ s3 e3 I3' S3 ne3 bR3 p3).out
    case c2=>
     have epr:p=rank:=by simp at e;lia
     show gE _ _ _ [some (.ref lR),some (.int (m:Int)),some (.int (rank:Int)),some (.int pivot),some (.int sign),some (.int (i:Int)),some (.int (p:Int)),z7] H1;exact(hrest sign z7 H1 _ _ s1 eR I1 S1 (by rw[<- epr];exact ne) sb p1).out
   case rest=>
   intro sg z Hx zs2 R2 sx ex Ix Sx nx bx px;refine⟨?_⟩;have bxx:=bx.bd5 Sx hm31;refine⟨_,rfl,_,rfl,_,rfl,_,rfl,lR,lR,zs2,R2,rank,i,m,w',bw n m,pivot,rfl,SqL.of ex,Ix,Sx.len,Sx.wid,by lia,hw100,hrm,by lia,dn,bxx.1,bxx.2,hn,fun l3 zs3 H3 s3 n3 e3 I3=>?_⟩;have S3:=Sx.clear hrm (by lia) nx;have b3:=bx.clear Sx hrm (by lia) nx;obtain⟨u,eu,nu,hu⟩:=I3.at (i:=rank) (by rw[S3.len];lia);have ec:=bU (kE (l:=(cG R2 rank i pivot).getD rank []) (i:=i) (by rw[S3.wid _ hrm];lia));refine⟨_,rfl,_,rfl,l3,zs3,_,_,rfl,rfl,SqL.of e3,bU eu,_,rfl,u,_,_,_,rfl,rfl,SqL.of hu,ec,?_⟩;refine⟨_,rfl,_,_,rfl,rfl,?_⟩;have ev:((cG R2 rank i pivot).getD rank []).getD i 0=ent R2 rank i:=by rw[pB (by rw[Sx.len];lia),if_pos rfl];rfl
   refine⟨sx.trans s3,l3,zs3,_,rank+1,ent R2 rank i,sg,some (.int (i:Int)),some (.int (p:Int)),z,?_,sx.free n3,e3,I3,S3,b3,hSt.cl _ _ _ _ _ Sx hrm (by lia) nx px⟩;rw[ev];rfl
  ·refine⟨_,rfl,_,rfl,fI ?_⟩;exact⟨s1,lR,zs',R',rank,pivot,sign,_,_,_,rfl,nR,eR,I1,S1.skip hz,sb.skip hz,p1⟩
 ·rintro σ H1 ⟨s1,lR,zs',R',rank,pivot,sign,z5,z6,z7,rfl,nR,eR,I1,S1,sb,p1⟩;obtain⟨bR,bP⟩:=sb.bd5 S1 hm31;obtain⟨A1,c1,B1,_⟩:=S1.bar;have rm:=B1.rm;intro d hd;have nd:lR≠d:=fun z=>by rw[z,hd] at eR;cases eR
  refine⟨_,rfl,_,rfl,_,rfl,_,rfl,aB,[(.inr "rows",.ref lR),(.inr "rank",.int (rank:Int)),(.inr "pivot",.int pivot),(.inr "sign",.int sign)],rfl,by show 4<=15;decide,?_⟩;have sd:aV H1 (upd (upd H1 d (.dK [])) d (Ot lR rank pivot sign)):=(aG hd _).change hd;exact q d lR zs' R' rank pivot sign _ (s1.trans sd) (s1.free hd) nR aB (sd _ _ eR) (I1.same sd) S1 bR bP p1
theorem qR:(["row","side"]:List Str).Nodup:=by decide +kernel
theorem qX:(["row","many","end"]:List Str).Nodup:=by decide +kernel
abbrev xX:Stmt:=top 50
theorem pE:aQ ["matrix","right","many","rows","end"] ["matrix","right"] (aI xX):=sK9 rfl rfl rfl rfl (by decide +kernel)
theorem Hk {dV:Value}(F:aY K "solved" "solved" xX dV f fd)(ml:mg "len"=none)(mz:mg "zip"=none)(G1:aL P w K mg base CX0 2 g1 gd1 ["some"] (Tz K))(b1:aM K gd1 ["some"] [])(k1:kI9 K g1)(m1:mI9 mg "in_wholes" g1)(G2:aL P w K mg base CX0 3 g2 gd2 ["rows","width"] (Gf K))(b2:aM K gd2 ["rows","width"] [])(k2:kI9 K g2)(m2:mI9 mg "eliminated" g2)(G3:aL P w K mg base CX0 2 g3 gd3 ["top","bottom"] gM)(b3:aM K gd3 ["top","bottom"] [])(k3:kI9 K g3)(m3:mI9 mg "fraction" g3) :
  aL P w K mg base CX 5 f fd ["matrix","right"] (wW K):=by
 refine F.ok pE (fun vs H Q E h=>?_) fun cdv A outer s H vs Q E hr h=>?_
 ·obtain⟨_,_,_,_,_,_,_,_,_,_,rfl,_⟩:=h;rfl
 obtain⟨g,bR,D0,H00,us,bs,X,qs,k,n,rfl,hU,hX,hB,hQ,ql,qL,qB,xP,xB,x4,hk,hBd,hn1,hnb,hz0,q⟩:=h;have hu:=zL hr;have r3:=hr.mono (show 3<=4 by lia);have r2:=hr.mono (show 2<=4 by lia);refine⟨_,(aC (aR (i:=2) pE.nd rfl (Or.inr rfl) (bN bC rfl ml PySem.boot_len (aA (pv 0) aD)))
  (aC (oQ (i:=3) (nl:=2) (fr:=[]) (Nc:=["row","side"]) (cl:=[]) (g:=(Jq K 2 (kU (jO 0) (kU (jO 1) Jk)))) pE.nd rfl rfl rfl ⟨rfl,rfl,by decide +kernel,by decide +kernel,fun x c h=>(by cases h),eP rfl,rfl,fun i n h=>(by simp at h)⟩
    (nU rfl mz rfl (aA (pv 0) (aA (pv 1) aD))) (fun C s3 H3 fp pins=>(gK rfl (bO (aZ (i:=0) qR rfl (Or.inl rfl)) (bO (aZ (i:=1) qR rfl (Or.inl rfl)) fH)))) (fun C s3 H3 fp pins=>dL)
    (fun C s3 H3 fp pins=>(aS (oW (K:=K) rfl) (aH G1 r2 rfl m1 k1 b1 .nil aK (aA (aT xK (pv 0) (cZ (aA (pv 1) aD))) aD)) aE (fun _ _=>rfl))) rfl)
  (aC (aR (i:=4) pE.nd rfl (Or.inr rfl) (aH G2 r3 rfl m2 k2 b2 .nil aK (aA (pv 3) (aA (pv 2) aD))))
  (aC (cA (bG wM (rG hu (pv 4) cL (fun _ _=>rfl)) (pv 2) (bK _)) (aF fY) bH)
  (aF (aX (eU (nl:=1) (fr:=[2,4]) (Nc:=["row","many","end"]) (cl:=[("many",s.heap.objs.size+1),("end",s.heap.objs.size+2)]) rfl ⟨rfl,rfl,by decide +kernel,by decide +kernel,(dG rfl (dG rfl (jU))),eP rfl,rfl,fun i n h=>match i,h with | 0,h=>by cases h;exact⟨2,rfl,rfl,rfl,rfl,.inl rfl⟩ | 1,h=>by cases h;exact⟨4,rfl,rfl,rfl,rfl,.inl rfl⟩ | k+2,h=>by rw[show 1+(k+2)=k+3 by lia] at h;cases h⟩
    (cU (rG hu (pv 4) cL (fun _ _=>rfl))) (fun C s3 H3 fp pins=>(aZ (i:=0) qX rfl (Or.inl rfl))) (fun C s3 H3 fp pins=>dL)
    (fun C s3 H3 fp pins=>(aH G3 r2 rfl m3 k3 b3 .nil aK (aA (aS (jQ (K:=K) rfl) (pv 0) (pv 1) (fun _ _=>rfl)) (aA (rG hu (pv 2) cL (fun _ _=>rfl)) aD))))))))))),?_⟩
 have lu:=hX.length;have lb:=hQ.length;have hw:∀row∈X,row.length=X.length:=fun row h=>(xB row h).2;have qP:=qL.pos;have lA:=Ax ql;refine⟨_,rfl,g,us,rfl,.inl hU,?_⟩;refine⟨_,rfl,_,rfl,g,bR,rfl,⟨_,hU⟩,⟨_,hB⟩,fun D hD=>?_⟩;have sD:=aG hD (.lst []);refine sI (xs:=us) (ys:=bs) (fun i zs H'=>aV H H'/\H' D=some (.lst zs)/\Imx D H' zs ((iG X qs).take i)) ⟨sD,aB,.nil⟩ (fun i zs H' h=>h.2.1) (fun i zs H' _ h=>⟨h.1.seq hU,h.1.seq hB⟩) ?_ ?_
 ·rintro i zs x y H1 T1 ex ey ⟨s1,e1,I1⟩ hT C hC;obtain⟨u,ys,row,rfl,er,_,_,hu',fu⟩:=hX.get ex;obtain⟨v,qv,rfl,eq,fv⟩:=hQ.get ey;have hi:i < X.length:=(List.getElem?_eq_some_iff.mp er).1;have mem:=mem_of_getElem? er;have memq:=mem_of_getElem? eq;obtain⟨rb,rl⟩:=xB row mem;have lys:=fu.length;have sT:=aG hT (.tup [.ref u,.ref v]);refine⟨T1,_,rfl,SqT.of aB,rfl,_,_,rfl,_,_,rfl,rfl,nH.1,nH.2,fI ?_⟩;generalize upd H1 T1 (.tup [.ref u,.ref v])=H2 at sT ⊢;have s2:=s1.trans sT;refine⟨_,rfl,_,rfl,zl9 1,fun lo hlo=>?_⟩;have s3:=aG hlo (.lst [.ref v]);have e3:upd H2 lo (.lst [.ref v]) lo=some (.lst [.ref v]):=aB;generalize upd H2 lo (.lst [.ref v])=H3 at s3 e3 ⊢;have s03:=s2.trans s3;refine⟨u,lo,_,_,rfl,rfl,s03 _ _ hu',e3,Nat.le_of_lt (bA (by simp only[length_cons,length_nil];lia)),fun p hp=>?_⟩;have s4:=aG hp (.lst (ys++[.ref v]));have e4:upd H3 p (.lst (ys++[.ref v])) p=some (.lst (ys++[.ref v])):=aB;generalize upd H3 p (.lst (ys++[.ref v]))=H4 at s4 e4 ⊢;have s04:=s03.trans s4;have s14:=sT.trans (s3.trans s4);refine⟨p,_,row++[qv],k,rfl,SqL.of e4,(fu.same s04).app (.cons (s04.fq fv) .nil),fun z hz=>?_,fun z hz=>?_,by rw[List.length_append];simp only[length_cons,length_nil];lia,by rw[List.length_append,rl];simp only[length_cons,length_nil];rw[show X.length+(0+1)=X.length+1 by lia];lia,fun t l H5 s5 nl ht hl=>?_⟩
  ·rcases mem_append.mp hz with z1 | z1
   ·exact xP row mem z z1
   ·have:z=qv:=by simpa using z1
    rw[this];exact qP qv memq
  ·rcases mem_append.mp hz with z1 | z1
   ·exact rb z z1
   ·have:z=qv:=by simpa using z1
    rw[this];exact qB qv memq
  have s15:=s14.trans s5;have e5:=s15 _ _ e1;have ne:l≠D:=fun z=>by rw[z,s14 _ _ e1] at nl;cases nl
  have lz:=I1.length;rw[length_take,lA] at lz;refine⟨t,_,_,_,rfl,rfl,ht,rfl,e5,bA (by lia),hC _ _ ⟨(s1.trans s15).change hD,aB,?_⟩⟩;have ee:(iG X qs).take (i+1)=(iG X qs).take i++[iw (row++[qv])]:=by
   rw[take_add_one];unfold iG lU;rw[getElem?_map,getElem?_zipWith,er,eq];rfl
  rw[ee];exact((I1.same s15).app (.cons ne hl .nil)).upd
 rintro zs H1 ⟨s1,e1,I1⟩;rw[show min us.length bs.length=(iG X qs).length by lia,take_length] at I1;have bits4:bw n X.length<=9000:=Nat.le_trans hnb (by decide);have wA:∀i,i < X.length->((iG X qs).getD i []).length=X.length+1:=fun i hi=>by
  rw[uM ql hi,uJ,List.length_append,hw _ (mem_of_getElem? (uU hi))];rfl
 refine⟨_,rfl,_,rfl,D,D,zs,iG X qs,X.length,X.length+1,n,fun R=>Mq.KI X.length (Mq.at2 (iG X qs)) R/\Mq.KJ X.length (Mq.at2 (iG X qs)) R,by rw[lu];rfl,SqL.of e1,I1,lA,wA,by lia,by lia,hBd,hn1,by lia,by lia,⟨fun Φ _ hz=>hz,fun Φ _ hz=>hz⟩,Od,fun d lE zE R' rank pivot sign H2 s2 nd nlE ed el IE SE bE bp LE=>?_⟩;obtain⟨g1',g2',g3',g4'⟩:=Au ed;have s02:=s1.trans s2;have wr:=Oj xP qP ql hw SE;refine⟨_,rfl,d,_,rfl,g2',_,rfl,_,_,rfl,rfl,_,rfl,oM (fun e=>?_) (fun e=>?_)⟩
 ·-- lame
  have hr':rank < X.length:=by simp at e;lia
  have hz:wgt X=0:=by
   rcases wr with z | z
   ·exact z.2
   ·lia
  exact absurd hz hz0
 ·-- whole
  have hr':rank=X.length:=by
   rcases wr with z | z
   ·simp at e;lia
   ·exact z.1
  have hz:wgt X≠0:=by
   rcases wr with z | z
   ·lia
   ·exact z.2
  subst hr';have dn:=SE.dne;have pn:pivot≠0:=fun z=>dn (by rw[z];simp);have lzE:=IE.length;rw[SE.len] at lzE;refine⟨_,rfl,d,_,rfl,g1',lE,rfl,⟨_,SqL.of el⟩,fun D2 hD2=>?_⟩;have sD2:=aG hD2 (.lst []);refine dE (xs:=zE) (fun i ws H'=>aV H2 H'/\H' D2=some (.lst ws)/\Fqs K H' ws ((List.range i).map fun i=>red (ent R' i X.length) pivot)) ⟨sD2,aB,.nil⟩ (fun i ws H' h=>h.2.1) (fun i ws H' _ h=>h.1.seq (SqL.of el)) ?_ ?_
  ·rintro i ws x H3 hx ⟨s3,e3,F3⟩ C hC;have hi:i < X.length:=by have:=(List.getElem?_eq_some_iff.mp hx).1;lia
   obtain⟨u,eu,nu,hu2⟩:=IE.at (i:=i) (by rw[SE.len];exact hi);have exu:x=.ref u:=by rw[eu] at hx;cases hx;rfl
   subst exu;have wid:=SE.wid i hi;have lz:=F3.length;rw[length_map,length_range] at lz;have ea:=bU (kE (l:=R'.getD i []) (i:=X.length) (by lia));rw[<- lu] at ea;refine⟨dD.1,dD.2,fI ?_⟩;refine⟨_,rfl,_,rfl,u,_,_,_,rfl,rfl,SqL.of (s3 _ _ hu2),ea,?_⟩;rw[lu];refine⟨_,rfl,d,_,rfl,Au (s3 _ _ ed) |>.2.2.1,_,_,bw n X.length,rfl,pn,bp,bits4,fun r H4 s4 e4=>?_⟩;have eD:=s4 _ _ e3;refine⟨eD,bA (by lia),hC _ _ ⟨(s3.trans s4).change hD2,aB,?_⟩⟩;rw[range_succ,map_append];exact((F3.same s4).app (.cons (Fq.of e4) .nil)).upd eD
  rintro ws H3 ⟨s3,e3,F3⟩;rw[lzE] at F3;have gd:∀j,j < X.length->((List.range X.length).map fun i=>red (ent R' i X.length) pivot).getD j Mq.z0=red (ent R' j X.length) pivot:=fun j hj=>by
   rw[getD_eq_getElem?_getD,getElem?_map,getElem?_range hj];rfl
  refine q D2 ws _ H3 (s02.trans s3) (s02.free hD2) e3 F3 ⟨⟨by simp,fun p hp=>?_,fun p hp=>?_,fun i hi=>?_⟩,fun v hv j hj=>?_⟩ (Rz pn bp fun p hp=>by obtain⟨i,hi,rfl⟩:=mem_map.mp hp;exact⟨_,bE i X.length,rfl⟩)
  ·obtain⟨i,_,rfl⟩:=mem_map.mp hp;exact iJ pn
  ·obtain⟨i,hi,rfl⟩:=mem_map.mp hp;have le:=oB (t:=ent R' i X.length) pn;exact⟨((bE i X.length).le le.1).mono bits4,(bp.le le.2).mono bits4⟩
  ·rw[<- Uu xP qP ql hw LE.1 SE hi];refine aP fun j hj=>?_;rw[gd j hj,jZ pn];rfl
  ·rw[gd j hj,jZ pn,<- Xk xP qP ql hw LE.2 SE hv hj];rfl
abbrev wHo:Kd->Bool:=fun k=>inV (.str k.wd) [.str "hold"]
def Ud (CN:Addr)(K:Frag):Sp:=fun vs H Q _=>∃(n l:Addr) (m:Nat) (ds:List RD),vs=[.ref n]/\fC CN K H n l (m:Int) ds/\(∀d∈ds,cK (m:Int) d.2.1 d.2.2.1)/\1<=m/\m<=20/\ds.length<=40/\(cP wHo (skl ds) ds.length).2=[]/\Hj m ds=[]/\∀H',aV H H'->Q .non H'
abbrev Wt:Stmt:=top 66
theorem Ox:aQ ["net","held","points"] ["net"] (aI Wt):=sK9 rfl rfl rfl rfl (by decide +kernel)
theorem Wc {dV:Value}(F:aY K "refuse_unanswered" "refuse_unanswered" Wt dV f fd){CN:Addr}(ml:mg "len"=none)(G1:aL P w K mg base CX0 5 g1 gd1 ["net","words"] (rK CN K))(b1:aM K gd1 ["net","words"] [])(k1:kI9 K g1)(m1:mI9 mg "rings" g1)(G2:aL P w K mg base CX0 6 g2 gd2 ["net"] (Gw CN K))(b2:aM K gd2 ["net"] [])(k2:kI9 K g2)(m2:mI9 mg "floating" g2) :
  aL P w K mg base CX 7 f fd ["net"] (Ud CN K):=by
 refine F.ok Ox (fun vs H Q E h=>?_) fun cdv A outer s H vs Q E hr h=>?_
 ·obtain⟨_,_,_,_,rfl,_⟩:=h;rfl
 obtain⟨n,l,m,ds,rfl,nt,pt,mo,m20,h40,hR,hF,q⟩:=h;have r5:=hr.mono (show 5<=6 by lia);refine⟨_,(aC (aR (i:=1) Ox.nd rfl (Or.inl rfl) (aH G1 r5 rfl m1 k1 b1 .nil aK (aA (pv 0) (aA (cZ (aA cL aD)) aD))))
  (aC (cA (bG zW (bN bC rfl ml PySem.boot_len (aA (pv 1) aD)) aE (bK _)) (aF fY) bH)
  (aC (aR (i:=2) Ox.nd rfl (Or.inl rfl) (aH G2 hr rfl m2 k2 b2 .nil aK (aA (pv 0) aD)))
  (aF (cA (bG zW (bN bC rfl ml PySem.boot_len (aA (pv 2) aD)) aE (bK _)) (aF fY) bH))))),?_⟩
 refine⟨_,rfl,zl9 1,fun L hL=>?_⟩;have s1:=aG hL (.lst [.str "hold"]);have e1:upd H L (.lst [.str "hold"]) L=some (.lst [.str "hold"]):=aB;generalize upd H L (.lst [.str "hold"])=H1 at s1 e1 ⊢;refine⟨n,l,.ref L,m,ds,wHo,rfl,nt.same s1,pt,m20,h40,.seq (SqL.of e1) rfl,fun r us H2 s2 nr er G nx=>?_⟩;rw[hR] at G;have lu:us=[]:=eq_nil_of_length_eq_zero (by have:=G.l;simpa using this);subst lu;refine⟨_,rfl,r,_,rfl,.inl (SqL.of er),_,_,rfl,rfl,_,rfl,L2.ifF rfl ?_⟩;have s02:=s1.trans s2;refine⟨_,rfl,n,l,m,ds,rfl,nt.same s02,pt,mo,m20,by lia,fun l' H3 s3 nl e3=>?_⟩;rw[hF] at e3;refine⟨_,rfl,l',_,rfl,.inl (SqL.of e3),_,_,rfl,rfl,_,rfl,L2.ifF rfl ?_⟩;exact q H3 (s02.trans s3)
def tL (K:Frag)(CK:Kd->Addr)(k:Kd):Sp:=fun vs H Q _=>∃(x z a h:Addr) (s g:V) (p u v:Q2) (n m:Nat),vs=[.ref x,.ref a,.ref h]/\Rw CK H x k s g (.ref z)/\Fq K H z p/\Fq K H a u/\Fq K H h v/\1<=p.2/\1<=u.2/\Bd n p/\Bd m u/\n+m+1<=9000/\(k=.pc->0 < p.1)/\
 ∀r H',aV H H'->Fq K H' r (Iu k u v p)->Q (.ref r) H'
abbrev nY:Stmt:=dM (top 36) 3
theorem Bf:aQ ["self","fall","held"] ["self","fall","held"] (aI nY):=sK9 rfl rfl rfl rfl (by decide +kernel)
theorem zJ {dV:Value}(F:aY K "stream" "Piece.stream" nY dV f fd)(T:RT K mg CR CK)(G1:aL P w K mg base CX0 3 g1 gd1 ["one","other"] (rZ K))(b1:aM K gd1 ["one","other"] [])(k1:kI9 K g1)(m1:mI9 mg "over" g1):aL P w K mg base CX 4 f fd ["self","fall","held"] (tL K CK .pc):=by
 refine F.ok Bf (fun vs H Q E h=>?_) fun cdv A outer s H vs Q E hr h=>?_
 ·obtain⟨_,_,_,_,_,_,_,_,_,_,_,rfl,_⟩:=h;rfl
 obtain⟨x,z,a,h,s,g,p,u,v,n,m,rfl,⟨dx,hx⟩,fz,fa,fh,hp,hu,bp,bu,hn,h0,q⟩:=h;refine⟨_,(aF (aX (aH G1 hr rfl m1 k1 b1 .nil aK (aA (pv 1) (aA (bX (pv 0) rfl) aD))))),?_⟩;exact⟨_,rfl,_,rfl,x,CK .pc,dx,_,_,rfl,hx,T.cl _,T.nZ _,fZ _ _ _,a,z,u,p,m,n,rfl,fa,fz,hu,hp,h0 rfl,bu,bp,by lia,fun r H1 s1 e1=>q r H1 s1 (Fq.of e1)⟩
abbrev oC:Stmt:=dM (top 37) 3
theorem Am:aQ ["self","fall","held"] ["self","fall","held"] (aI oC):=sK9 rfl rfl rfl rfl (by decide +kernel)
theorem xW {dV : Value}(F : aY K "stream" "Push.stream" oC dV f fd)(T : RT K mg CR CK)
     : aL P w K mg base CX 4 f fd ["self", "fall", "held"] (tL K CK .pu) := by
  refine F.ok Am (fun vs H Q E h => ?_) (fun cdv A outer s H vs Q E hr h => ?_)
  · obtain ⟨x, z, a, h, s, g, p, u, v, n, m, rfl, _⟩ := h
    rfl
  obtain ⟨x, z, a, h, s, g, p, u, v, n, m, rfl, ⟨dx, hx⟩, fz, fa, fh, hp, hu, bp, bu, hn, h0, q⟩ := h;refine ⟨_, (aF (aX (bX (pv 0) rfl))), ?_⟩;exact ⟨_, rfl, x, CK .pu, dx, _, _, rfl, hx, T.cl _, T.nZ _, fZ _ _ _, q z H (aV.refl H) fz⟩
abbrev oH:Stmt:=dM (top 38) 3
theorem zM:aQ ["self","fall","held"] ["self","fall","held"] (aI oH):=sK9 rfl rfl rfl rfl (by decide +kernel)
theorem xU {dV : Value}(F : aY K "stream" "Hold.stream" oH dV f fd)(T : RT K mg CR CK)
     : aL P w K mg base CX 4 f fd ["self", "fall", "held"] (tL K CK .ho) := by
  refine F.ok zM (fun vs H Q E h => ?_) (fun cdv A outer s H vs Q E hr h => ?_)
  · obtain ⟨x, z, a, h, s, g, p, u, v, n, m, rfl, _⟩ := h
    rfl
  obtain ⟨x, z, a, h, s, g, p, u, v, n, m, rfl, ⟨dx, hx⟩, fz, fa, fh, hp, hu, bp, bu, hn, h0, q⟩ := h;refine ⟨_, (aF (aX (pv 2))), ?_⟩;exact ⟨_, rfl, q h H (aV.refl H) fh⟩
abbrev Lc:Stmt:=top 40
theorem Wm:aQ ["row","heights"] ["row","heights"] (aI Lc):=sK9 rfl rfl rfl rfl (by decide +kernel)
theorem Qd {dV:Value}(F:aY K "fall_of" "fall_of" Lc dV f fd)(T:RT K mg CR CK)(G1:aL P w K mg base CX0 3 g1 gd1 ["one","other"] (gC K Mq.minus))(b1:aM K gd1 ["one","other"] [])(k1:kI9 K g1)(m1:mI9 mg "minus" g1) :
  aL P w K mg base CX 4 f fd ["row","heights"] (Fh K CK):=by
 refine F.ok Wm (fun vs H Q E h=>?_) fun cdv A outer s H vs Q E hr h=>?_
 ·obtain⟨_,_,_,_,_,_,_,rfl,_⟩:=h;rfl
 obtain⟨x,a,⟨k,i,j,p⟩,z,xs,hp,n,rfl,rw,st,pt,q⟩:=h;refine⟨_,(aF (aX (aH G1 hr rfl m1 k1 b1 .nil aK (aA (aS bQ (pv 1) (bX (pv 0) rfl) (fun _ _=>rfl)) (aA (aS bQ (pv 1) (bX (pv 0) rfl) (fun _ _=>rfl)) aD))))),?_⟩;obtain⟨dx,hx⟩:=id rw;obtain⟨i0,i1,j0,j1⟩:cK (n:Int) i j:=pt;have hl:=st.l;have ai:=jN (ps:=hp) (j:=i.toNat) (by lia);have aj:=jN (ps:=hp) (j:=j.toNat) (by lia);obtain⟨u,eu,fu⟩:=st.f.at ai;obtain⟨v,ev,fv⟩:=st.f.at aj;have ti:atI xs i=some (.ref u):=by
  have:=bU eu
  rwa [show ((i.toNat:Nat):Int)=i by lia] at this
 have tj:atI xs j=some (.ref v):=by
  have:=bU ev
  rwa [show ((j.toNat:Nat):Int)=j by lia] at this
 refine⟨_,rfl,_,rfl,x,CK _,_,_,_,rfl,hx,T.cl _,T.nS _,cQ _ _ _,a,xs,_,_,rfl,rfl,st.s,ti,?_⟩;refine⟨_,rfl,_,rfl,x,CK _,_,_,_,rfl,hx,T.cl _,T.nG _,dA _ _ _,a,xs,_,_,rfl,rfl,st.s,tj,?_⟩;have bi:=st.b _ (mem_of_getElem? ai);have bj:=st.b _ (mem_of_getElem? aj);exact⟨u,v,_,_,3900,3900,rfl,fu,fv,bi.1.pos,bj.1.pos,bi.2,bj.2,by lia,q⟩
def Fp (K:Frag)(CK:Kd->Addr):Sp:=fun vs H Q _=>∃(a b h:Addr) (xs ls ys:List V) (ds:List RD) (lv hs:List Q2) (m:Nat),vs=[.ref a,.ref b,.ref h]/\H a=some (.lst xs)/\gO CK K H xs ds/\StB K H b ls lv m/\SqL K H h ys/\Fqs K H ys hs/\(∀p∈hs,Low p)/\(∀d∈ds,Ho (m:Int) d)/\bL ds<=hs.length/\ds.length<=40/\∀l zs H',aV H H'->H l=none->H' l=some (.lst zs)->Fqs K H' zs (pK lv hs 0 ds)->Q (.ref l) H'
abbrev Ed:Stmt:=top 68
theorem mO:aQ ["rows","levels","held","flows","taken","row","fall"] ["rows","levels","held"] (aI Ed):=sK9 rfl rfl rfl rfl (by decide +kernel)
theorem Ll {dV:Value}(F:aY K "flows_of" "flows_of" Ed dV f fd)(T:RT K mg CR CK){aN:Addr}(fN:∀H,Fq K H aN (0,1))(mNO:mI9 mg "NOUGHT" aN)(GW:∀k,aL P w K mg base CX0 1 (fW k) (fdW k) ["self"] (jW k))(bW:∀k,aM K (fdW k) ["self"] [])(mW:∀k,gL K (CK k) "word" (fW k))(GS:∀k,aL P w K mg base CX0 4 (fS k) (fdS k) ["self","fall","held"] (tL K CK k))(bS:∀k,aM K (fdS k) ["self","fall","held"] [])(mS:∀k,gL K (CK k) "stream" (fS k))(G1:aL P w K mg base CX0 4 g1 gd1 ["row","heights"] (Fh K CK))(b1:aM K gd1 ["row","heights"] [])(k1:kI9 K g1)(m1:mI9 mg "fall_of" g1) :
  aL P w K mg base CX 5 f fd ["rows","levels","held"] (Fp K CK):=by
 refine F.ok mO (fun vs H Q E h=>?_) fun cdv A outer s H vs Q E hr h=>?_
 ·obtain⟨_,_,_,_,_,_,_,_,_,_,rfl,_⟩:=h;rfl
 obtain⟨a,b,h,xs,ls,ys,ds,lv,hs,m,rfl,ea,Rb,SA,hS,hF,hlo,hK,hh,h40,q⟩:=h;have r1:=hr.mono (show 1<=4 by lia);refine⟨_,(aC (aR (i:=3) mO.nd rfl (Or.inl rfl) (cZ aD))
  (aC (aR (i:=4) mO.nd rfl (Or.inl rfl) aE)
  (aC (dW PassesOwn.never rfl (cU (pv 0)) (aZ (i:=5) mO.nd rfl (Or.inl rfl))
   (aC (aR (i:=6) mO.nd rfl (Or.inl rfl) (aH G1 hr rfl m1 k1 b1 .nil aK (aA (pv 5) (aA (pv 1) aD))))
  (aF (cA (bG eZ (gA (pv 5) T.cl mW GW r1 bW .nil aK) cL (bK _)) (aC (bY (jP PySem.F.plainAttrs_list PySem.F.slot_list_append PySem.F.type_list_append fD (pv 3) (aA (Ae (pv 5) T.cl mS GS hr bS .nil aK (aA (pv 6) (aA (aS bQ (pv 2) (pv 4) (fun _ _=>rfl)) aD))) aD)))
  (aF (Dj (i:=4) mO.nd rfl (Or.inl rfl) aE Eb))) (aF (bY (jP PySem.F.plainAttrs_list PySem.F.slot_list_append PySem.F.type_list_append fD (pv 3) (aA (Ae (pv 5) T.cl mS GS hr bS .nil aK (aA (pv 6) (aA (dI (v:=.ref aN) rfl mNO rfl) aD))) aD))))))))
  (aF (aX (pv 3)))))),?_⟩
 have lxs:=Rb.length;have lys:=hF.length;refine⟨zl9 0,fun l hl=>?_⟩;have s1:=aG hl (.lst []);have e1:upd H l (.lst []) l=some (.lst []):=aB;generalize upd H l (.lst [])=H1 at s1 e1 ⊢;refine⟨_,rfl,a,rfl,⟨_,SqL.of (s1 _ _ ea)⟩,?_⟩;refine gP (xs:=xs) (fun i σ H'=>aV H H'/\∃(zs:List V) (ti:Int) (z5 z6:Option V),σ=[some (.ref a),some (.ref b),some (.ref h),some (.ref l),some (.int ti),z5,z6]/\ti=((bL (ds.take i):Nat):Int)/\H' l=some (.lst zs)/\Fqs K H' zs (pK lv hs 0 (ds.take i))) ⟨s1,[],0,none,none,rfl,rfl,e1,.nil⟩ (fun i σ H' _ h=>h.1.seq (SqL.of ea)) ?_ ?_
 ·rintro i x σ H2 hx ⟨s2,zs,ti,z5,z6,rfl,hti,e2,F2⟩;have hi:i < ds.length:=by have:=(List.getElem?_eq_some_iff.mp hx).1;lia
  obtain⟨⟨k0,u,v,p⟩,hd⟩:∃d,ds[i]?=some d:=⟨_,getElem?_eq_getElem hi⟩
  obtain⟨y,z,ey,rw0,fz0⟩:=Rb.at hd;have ex:x=.ref y:=by rw[ey] at hx;exact(Option.some.inj hx).symm
  subst ex;have rd:=hK _ (mem_of_getElem? hd);have pt:cK (m:Int) u v:=⟨rd.1,rd.2.1,rd.2.2.1,rd.2.2.2.1⟩
  have lp:Low p:=rd.2.2.2.2.1;have p0:k0=.pc->0 < p.1:=rd.2.2.2.2.2.1;have bp:Bd 1000 p:=rd.2.2.2.2.2.2;have et:ds.take (i+1)=ds.take i++[(k0,u,v,p)]:=by rw[take_add_one,hd];rfl
  have hcnt:bL (ds.take i)+bV k0+bL (ds.drop (i+1))=bL ds:=by
   have h1:ds=ds.take (i+1)++ds.drop (i+1):=(take_append_drop _ _).symm;have h2:bL ds=bL (ds.take (i+1))+bL (ds.drop (i+1)):=by
    unfold bL iP;rw[<- List.length_append,<- filter_append,take_append_drop]
   rw[h2,et,hG]
  have rw2:=rw0.same s2;obtain⟨dr,hy⟩:=id rw2;refine⟨_,rfl,_,rfl,y,b,(k0,u,v,p),.ref z,ls,lv,m,rfl,rw2,SA.same s2,pt,fun fa H3 s3 e3=>?_⟩;have flow:Low (flF lv (k0,u,v,p))/\Bd 7801 (flF lv (k0,u,v,p)):=by
   have hb:=SA.b;have hn:=SA.l;have g1:lv.getD u.toNat (0,1)∈lv:=mem_of_getElem? (Mq.Lo (by have:=pt.1;have:=pt.2.1;lia));have g2:lv.getD v.toNat (0,1)∈lv:=mem_of_getElem? (Mq.Lo (by have:=pt.2.2.1;have:=pt.2.2.2;lia));exact⟨dX (hb _ g1).1.pos (hb _ g2).1.pos,(sV (hb _ g1).2 (hb _ g2).2 (hb _ g1).1.pos (hb _ g2).1.pos).mono (by lia)⟩
  have fa3:Fq K H3 fa (flF lv (k0,u,v,p)):=Fq.of e3;have s23:=s2.trans s3;have rw3:=rw0.same s23;obtain⟨dr3,hy3⟩:=id rw3;have fz3:=s23.fq fz0;have e23:=s3 _ _ e2;have lzs:=F2.length;rw[uF,length_take] at lzs;rw[et,vA,Nat.zero_add];refine⟨_,rfl,k0,y,dr3,_,rfl,hy3,(dZ _ _ _ (by decide +kernel) (by decide +kernel) (by decide +kernel)),_,rfl,rfl,_,rfl,?_⟩
  by_cases hk:k0=.ho
  ·refine L2.ifT (by show decide (V.str k0.wd=V.str Kd.ho.wd)=true;rw[cT];exact decide_eq_true hk) ?_;have hc:bV k0=1:=by unfold bV;rw[if_pos hk]
   obtain⟨w1,ew,fw⟩:=hF.at (Mq.Lo (show bL (ds.take i) < hs.length by lia));refine⟨_,rfl,.inl ⟨rfl,_,SqL.of e23⟩,_,rfl,k0,y,dr3,_,rfl,hy3,(dZ _ _ _ (by decide +kernel) (by decide +kernel) (by decide +kernel)),?_⟩;refine⟨_,rfl,_,rfl,_,rfl,h,ys,_,_,rfl,rfl,s23.seq hS,by rw[hti];exact bU ew,y,z,fa,w1,.int u,.int v,p,_,_,1000,7801,rfl,rw3,fz3,fa3,s23.fq fw,lp.pos,flow.1.pos,bp,flow.2,by lia,p0,fun r H4 s4 f4=>?_⟩;have e4:=s4 _ _ e23;refine⟨l,_,_,rfl,rfl,e4,bA (by lia),?_⟩;refine⟨_,rfl,_,_,rfl,rfl,?_⟩;refine⟨(s23.trans s4).change hl,_,ti+1,_,_,rfl,by rw[hG,hti,hc];lia,aB,?_⟩;have fl:Cq lv hs (bL (ds.take i)) (k0,u,v,p)=Iu k0 (flF lv (k0,u,v,p)) (hs.getD (bL (ds.take i)) Mq.z0) p:=by
    show Iu k0 _ (if k0=.ho then _ else _) _=_;rw[if_pos hk]
   rw[fl];exact((F2.same (s3.trans s4)).app (.cons f4 .nil)).upd e4
  ·refine L2.ifF (by show decide (V.str k0.wd=V.str Kd.ho.wd)=false;rw[cT];exact decide_eq_false hk) ?_;have hc:bV k0=0:=by unfold bV;rw[if_neg hk]
   refine⟨_,rfl,.inl ⟨rfl,_,SqL.of e23⟩,_,rfl,k0,y,dr3,_,rfl,hy3,(dZ _ _ _ (by decide +kernel) (by decide +kernel) (by decide +kernel)),_,rfl,y,z,fa,aN,.int u,.int v,p,_,(0,1),1000,7801,rfl,rw3,fz3,fa3,fN _,lp.pos,flow.1.pos,bp,flow.2,by lia,p0,fun r H4 s4 f4=>?_⟩;have e4:=s4 _ _ e23;refine⟨l,_,_,rfl,rfl,e4,bA (by lia),?_⟩;refine⟨(s23.trans s4).change hl,_,ti,_,_,rfl,by rw[hG,hti,hc];rfl,aB,?_⟩;have fl:Cq lv hs (bL (ds.take i)) (k0,u,v,p)=Iu k0 (flF lv (k0,u,v,p)) (0,1) p:=by
    show Iu k0 _ (if k0=.ho then _ else _) _=_;rw[if_neg hk]
   rw[fl];exact((F2.same (s3.trans s4)).app (.cons f4 .nil)).upd e4
 rintro σ H2 ⟨s2,zs,ti,z5,z6,rfl,hti,e2,F2⟩;rw[lxs,take_length] at F2;exact⟨_,rfl,q l zs H2 s2 hl e2 F2⟩
abbrev Nj:Stmt:=dM (top 67) 2
theorem Xw:aQ ["self"] ["self"] (aI Nj):=sK9 rfl rfl rfl rfl (by decide +kernel)
theorem Si {dV:Value}{CA:Addr}(F:aY K "streams" "Answer.streams" Nj dV f fd)(ABx:AB K mg CA)(mli:mg "list"=none):aL P w K mg base CX 1 f fd ["self"] (wG CA K):=by
 refine F.ok Xw (fun vs H Q E h=>?_) fun cdv A outer s H vs Q E hr h=>?_
 ·obtain⟨_,_,_,rfl,_⟩:=h;rfl
 obtain⟨a,lv,fl,rfl,⟨⟨dx,li,le,fo,xs,ys,ha,hle,Fle,hfo,Ffo⟩⟩,q⟩:=h;refine⟨_,(aF (aX (gX fB rfl mli PyProof.Rows.boot_list (aA (bX (pv 0) rfl) aD)))),?_⟩;refine⟨_,rfl,a,CA,_,_,_,rfl,ha,ABx.cl,ABx.nO,Qm _ _ _,fo,_,rfl,.inl hfo,fun l hl=>?_⟩;have sl:=aG hl (.lst ys);exact q l _ _ sl hl aB (Ffo.same sl)
theorem Em {K:Frag}{H0 H:Hp}{D:Addr}:∀{us:List V} {X:List (List Q2)},Fms K H0 H us X->(∀x∈us,x≠.ref D)->Fmd K H0 D H us X
 | [],[],_,_=>.nil
 | [],_ :: _,h,_=>by have:=h.l;simp at this
 |_ :: _,[],h,_=>by have:=h.l;simp at this
 |x :: us,ps :: X,h,n=>by
  obtain⟨a,xs,rfl,n0,h1,h2⟩:=h.r 0 x ps rfl rfl;exact .cons n0 (fun z=>n _ (mem_cons_self ..) (by rw[z])) h1 h2 (Em ⟨by have:=h.l;simpa using this,fun i y qs e1 e2=>h.r (i+1) y qs (by simpa using e1) (by simpa using e2)⟩ fun y hy=>n y (mem_cons_of_mem _ hy))
theorem Vh (xs:List V)(k:Nat):kO xs none (some (k:Int))=xs.take k:=by
 unfold kO;have h1:HT.sIx xs.length 0 none=0:=rfl;have h2:HT.sIx xs.length xs.length (some (k:Int))=min k xs.length:=by simp[HT.sIx];lia
 rw[h1,h2,drop_zero,Nat.sub_zero,take_eq_take_iff];lia
theorem dB.rtsI {K:Frag}{t C dx:Addr}{fs:List (Str × V)}{H H':Hp}(ht:H t=some (.ins C dx fs))(e:dB t H H'):∀{xs:List V} {ds:List RD},Rts K H xs ds->Rts K H' xs ds
 |_,_,.nil=>.nil
 |_,_,.cons h f q=>.cons (dB.seqTI ht e h) (dB.seqTI ht e f) (dB.rtsI ht e q)
theorem fC.xI {CN C dx:Addr}{K:Frag}{fs:List (Str × V)}{H H':Hp}{n l q:Addr}{m:Int}{ds:List RD}(hq:H q=some (.ins C dx fs))(e:dB q H H')(ne:n≠q)(h:fC CN K H n l m ds):fC CN K H' n l m ds:=
 let ⟨⟨dx,a⟩,ts,b,c⟩:=h;⟨⟨dx,e _ _ a ne⟩,ts,e _ _ b (fM b hq (fun z=>by cases z)),dB.rtsI hq e c⟩
theorem Vr {CN C dx:Addr}{K:Frag}{H:Hp}{n l q:Addr}{m:Int}{ds:List RD}(hq:H q=some (.ins C dx []))(h:fC CN K H n l m ds):n≠q:=fun z=>by
 obtain⟨dn,a⟩:=h.ob;rw[z,hq] at a;injection a with a
 injection a with _ _ a
 unfold mY at a;have:=bM ("kept":Str) "kept" (.ref l) (eX "point_count" (.int m) []);rw[<- a,if_pos rfl] at this
 cases this
theorem Fqs.drop {K:Frag}{H:Hp}:∀(k:Nat) {xs:List V} {ps:List Q2},Fqs K H xs ps->Fqs K H (xs.drop k) (ps.drop k)
 |0,_,_,h=>h
 |_+1,_,_,.nil=>.nil
 |k+1,_,_,.cons _ q=>Fqs.drop k q
theorem Fqs.take {K:Frag}{H:Hp}:∀(k:Nat) {xs:List V} {ps:List Q2},Fqs K H xs ps->Fqs K H (xs.take k) (ps.take k)
 |0,_,_,h=>.nil
 |_+1,_,_,.nil=>.nil
 |k+1,_,_,.cons f q=>.cons f (Fqs.take k q)
structure Zz (CN:Addr) (K:Frag) (H:Hp) (n l:Addr) (m b:Nat) (kb wb:Nat->Nat) (L:Int) (ds:List RD):Prop where
 nt:fC CN K H n l (m:Int) ds
 ok:∀i d,ds[i]?=some d->RwW m (kb i) (wb i) d
 m20:m<=20
 h40:ds.length<=40
 cu:jL wb ds.length+30<=8900
 eb:EqB m b L ds
def zZ (CN CA:Addr)(K:Frag):Sp:=fun vs H Q _=>∃(x dx n l:Addr) (m b:Nat) (kb wb:Nat->Nat) (L:Int) (ds:List RD),vs=[.ref x,.ref n]/\H x=some (.ins CA dx [])/\Zz CN K H n l m b kb wb L ds/\bw b (wd m ds)<=3900/\(∀i,∃a:Int,Mq.B b a/\eqR m ds (i+1)=(a:Rat) / (L:Rat))/\(cP wHo (skl ds) ds.length).2=[]/\Hj m ds=[]/\
 ∀ps H',dB x H H'->qd9 CA K H H' x (lvS m ps) (pK (lvS m ps) (ps.drop (m - 1)) 0 ds)->ps.length=wd m ds->iW ps->Ovr (bw b (wd m ds)) ps->Sv m ds (eqR m ds) (uP ps)->Q .non H'
abbrev Ci:Stmt:=dM (top 67) 0
theorem rF:aQ ["self","net","both","known","inner"] ["self","net"] (aI Ci):=sK9 rfl rfl rfl rfl (by decide +kernel)
theorem Nf {dV:Value}{CA:Addr}(F:aY K "__init__" "Answer.__init__" Ci dV f fd)(ABx:AB K mg CA){CN:Addr}(NTx:NT K mg CN){aN:Addr}(fN:∀H,Fq K H aN (0,1))(mNO:mI9 mg "NOUGHT" aN){gRo:Addr}{gdRo:FuncData}(GRo:aL P w K mg base CX0 4 gRo gdRo ["self"] (pS CN K CK))(bRo:aM K gdRo ["self"] [])(mRo:gL K CN "rows" gRo){gMa:Addr}{gdMa:FuncData}(GMa:aL P w K mg base CX0 1 gMa gdMa ["self"] (tF CN K))(bMa:aM K gdMa ["self"] [])(mMa:gL K CN "many" gMa)(G1:aL P w K mg base CX0 7 g1 gd1 ["net"] (Ud CN K))(b1:aM K gd1 ["net"] [])(k1:kI9 K g1)(m1:mI9 mg "refuse_unanswered" g1)(G2:aL P w K mg base CX0 7 g2 gd2 ["net"] (Kf CN K))(b2:aM K gd2 ["net"] [])(k2:kI9 K g2)(m2:mI9 mg "equations" g2)(G3:aL P w K mg base CX0 5 g3 gd3 ["matrix","right"] (wW K))(b3:aM K gd3 ["matrix","right"] [])(k3:kI9 K g3)(m3:mI9 mg "solved" g3)(G4:aL P w K mg base CX0 5 g4 gd4 ["rows","levels","held"] (Fp K CK))(b4:aM K gd4 ["rows","levels","held"] [])(k4:kI9 K g4)(m4:mI9 mg "flows_of" g4):aL P w K mg base CX 8 f fd ["self","net"] (zZ CN CA K):=by
 refine F.ok rF (fun vs H Q E h=>?_) fun cdv A outer s H vs Q E hr h=>?_
 ·obtain⟨_,_,_,_,_,_,_,_,_,_,rfl,_⟩:=h;rfl
 obtain⟨x,dx,n,l,m,b,kb,wb,L,ds,rfl,hx,NB,hw39,h01,hR,hF,q⟩:=h;have r1:=hr.mono (show 1<=7 by lia);have r4:=hr.mono (show 4<=7 by lia);have r5:=hr.mono (show 5<=7 by lia);have r7:=hr;refine⟨_,(aC (bY (aH G1 r7 rfl m1 k1 b1 .nil aK (aA (pv 1) aD)))
  (aC (aR (i:=2) rF.nd rfl (Or.inl rfl) (aH G2 r7 rfl m2 k2 b2 .nil aK (aA (pv 1) aD)))
  (aC (aR (i:=3) rF.nd rfl (Or.inl rfl) (aH G3 r5 rfl m3 k3 b3 .nil aK (aA (aS aW (pv 2) aE (fun _ _=>rfl)) (aA (aS aW (pv 2) aE (fun _ _=>rfl)) aD))))
  (aC (aR (i:=4) rF.nd rfl (Or.inl rfl) (aT jD (fX (pv 1) NTx.cl mMa GMa r1 bMa .nil aK) aE))
  (aC (mC (pv 0) (aS aW (pv 2) aE (fun _ _=>rfl)) rfl)
  (aC (mC (pv 0) (aT xK (cZ (aA (dI (v:=.ref aN) rfl mNO rfl) aD)) (iY kG (pv 3) oX (iL (pv 4)))) rfl)
  (aF (mC (pv 0) (aH G4 r5 rfl m4 k4 b4 .nil aK (aA (fX (pv 1) NTx.cl mRo GRo r4 bRo .nil aK) (aA (bX (pv 0) rfl) (aA (iY kG (pv 3) (iL (pv 4)) oX) aD)))) rfl)))))))),?_⟩
 have nt:=NB.nt;have hK:∀i d,ds[i]?=some d->Ho (m:Int) d/\Bd (kb i) d.2.2.2:=fun i d hd=>⟨(NB.ok i d hd).ok,(NB.ok i d hd).bd⟩
 have m20:=NB.m20;have h40:=NB.h40;have hbig:=NB.cu;have EB:=NB.eb;have mo:=EB.o.m1;refine⟨_,rfl,n,l,m,ds,rfl,nt,EB.o.pt,mo,m20,h40,hR,hF,fun H1 s1=>?_⟩;refine⟨_,rfl,n,l,m,kb,wb,ds,rfl,nt.same s1,NB.ok,mo,m20,h40,hbig,fun tt p r us ys X Y H2 s2 et np nr ep er FM FY nx EO=>?_⟩;have s02:=s1.trans s2;have lX:X.length=m - 1+bL ds:=EO.x.h;have lY:Y.length=X.length:=by rw[EO.y.w,lX]
 have w26:=EB.w26;have lw:wd m ds=m - 1+bL ds:=rfl;have yq:∀p∈Y,(Bd b p/\p.2 ∣ L)/\∃a:Int,Mq.B b a/\Mq.val p=(a:Rat) / (L:Rat):=fun p hp=>by
  obtain⟨i,hi⟩:=getElem?_of_mem hp;have ep:p=Y.getD i (0,1):=by rw[getD_eq_getElem?_getD,hi];rfl
  obtain⟨z,hz,ez⟩:=h01 i;have hv:Mq.val p=(z:Rat) / (L:Rat):=by rw[ep,EO.vy,ez]
  exact⟨lB (EO.y.l p hp).1 EB.L1 EB.LB hz hv,z,hz,hv⟩
 refine⟨_,rfl,tt,_,0,_,rfl,rfl,SqT.of et,rfl,_,rfl,tt,_,1,_,rfl,rfl,SqT.of et,rfl,?_⟩;refine⟨p,r,p,H1,us,ys,X,Y,b,b,rfl,SqL.of ep,Em FM (fun x hx=>(nx x hx).1),SqL.of er,FY,lY,fun p hp=>(EO.y.l p hp).1,fun p hp=>(yq p hp).1.1,EqB.pos EO,fun row hr=>⟨fun p hp=>((EB.cell EO row hr).1 p hp).1,(EB.cell EO row hr).2⟩,by lia,by rw[lX];exact EB.hb,Qn (EqB.pos EO) (fun p hp=>(EO.y.l p hp).1.pos) lY (fun row hr p hp=>((EB.cell EO row hr).1 p hp).2) (fun p hp=>⟨(yq p hp).1.2,(yq p hp).2⟩) EB.L1,EB.b1,by rw[lX];exact Nat.le_trans EB.hbw (by decide),EB.wgt EO,fun kn zk ps H3 s3 nkn ekn Fk SU OV=>?_⟩;rw[lX] at OV;have lps:ps.length=wd m ds:=by rw[SU.len,lX]
 have lo:=SU.low;have b39:=Wk (n:=bw b (wd m ds)) OV lo hw39;have s03:=s02.trans s3;obtain⟨dn,hn⟩:=(nt.same s03).ob;refine⟨_,rfl,n,dn,_,rfl,hn,fQ _ _ (by decide +kernel) (by decide +kernel),n,l,_,ds,rfl,nt.same s03,_,_,rfl,rfl,?_⟩;have et3:=s3 _ _ et;have hx3:=s03 _ _ hx;have em:(m:Int) - 1=((m - 1:Nat):Int):=by lia
 show gE _ _ _ [some (.ref x),some (.ref n),some (.ref tt),some (.ref kn),some (.int ((m:Int) - 1))] H3;rw[em];refine⟨_,rfl,tt,_,0,_,rfl,rfl,SqT.of et3,rfl,_,rfl,x,CA,dx,[],rfl,hx3,ABx.cl,ABx.nI,(by show 0 < 1000;decide),?_⟩;have x4:dB x H (upd H3 x (.ins CA dx (eX "lines" (.ref p) []))):=fun b o h nb=>by rw[aU nb];exact s03 _ _ h
 have x34:dB x H3 (upd H3 x (.ins CA dx (eX "lines" (.ref p) []))):=fun b o h nb=>by rw[aU nb];exact h
 have hx4:upd H3 x (.ins CA dx (eX "lines" (.ref p) [])) x=some (.ins CA dx (eX "lines" (.ref p) [])):=aB;have ek4:=dB.seqI hx3 x34 (SqL.of (K:=K) ekn);have Fk4:=dB.fqsI hx3 x34 Fk;generalize upd H3 x (.ins CA dx (eX "lines" (.ref p) []))=H4 at x4 x34 hx4 ek4 Fk4 ⊢;refine⟨zl9 1,fun L1 hL1=>?_⟩;have s5:=aG hL1 (.lst [.ref aN]);have e5:upd H4 L1 (.lst [.ref aN]) L1=some (.lst [.ref aN]):=aB;generalize upd H4 L1 (.lst [.ref aN])=H5 at s5 e5 ⊢;refine⟨_,rfl,_,rfl,_,rfl,kn,zk,rfl,s5.seq ek4,fun S hS=>?_⟩;rw[Vh];have s6:=aG hS (.lst (zk.take (m - 1)));have e6:upd H5 S (.lst (zk.take (m - 1))) S=some (.lst (zk.take (m - 1))):=aB;generalize upd H5 S (.lst (zk.take (m - 1)))=H6 at s6 e6 ⊢;have lzk:=Fk.length;refine⟨L1,S,_,_,rfl,rfl,s6 _ _ e5,e6,Nat.le_of_lt (bA (by rw[length_take];simp only[length_cons,length_nil];lia)),fun V1 hV1=>?_⟩;have s7:=aG hV1 (.lst ([.ref aN]++zk.take (m - 1)));have e7:upd H6 V1 (.lst ([.ref aN]++zk.take (m - 1))) V1=some (.lst ([.ref aN]++zk.take (m - 1))):=aB;generalize upd H6 V1 (.lst ([.ref aN]++zk.take (m - 1)))=H7 at s7 e7 ⊢;have s47:=s5.trans (s6.trans s7);have hx7:=s47 _ _ hx4;refine⟨_,rfl,x,CA,dx,_,rfl,hx7,ABx.cl,ABx.nE,(by have:=fA ("lines":Str) (.ref p) [];simp only[length_nil] at this;lia),?_⟩;have x78:dB x H7 (upd H7 x (.ins CA dx (eX "levels" (.ref V1) (eX "lines" (.ref p) [])))):=fun b o h nb=>by rw[aU nb];exact h
 have hx8:upd H7 x (.ins CA dx (eX "levels" (.ref V1) (eX "lines" (.ref p) []))) x=some (.ins CA dx (eX "levels" (.ref V1) (eX "lines" (.ref p) []))):=aB;generalize upd H7 x (.ins CA dx (eX "levels" (.ref V1) (eX "lines" (.ref p) [])))=H8 at x78 hx8 ⊢;have nn:=Vr hx nt;have nt4:=fC.xI hx3 x34 nn (nt.same s03);have nt8:=fC.xI hx7 x78 nn (nt4.same s47);have ek8:=dB.seqI hx7 x78 (s47.seq ek4);have Fk8:=dB.fqsI hx7 x78 (Fk4.same s47);have nV1x:V1≠x:=fM e7 hx7 (fun z=>by cases z);have ev8:=dB.seqI hx7 x78 (SqL.of (K:=K) e7);have Fv8:Fqs K H8 ([.ref aN]++zk.take (m - 1)) (lvS m ps):=.cons (fN _) (Fqs.take _ Fk8);obtain⟨dn8,hn8⟩:=nt8.ob;refine⟨_,rfl,n,dn8,_,rfl,hn8,fQ _ _ (by decide +kernel) (by decide +kernel),n,l,_,ds,rfl,nt8,by lia,fun ro xr H9 s9 nro ero Rb=>?_⟩;have hx9:=s9 _ _ hx8;have ek9:=s9.seq ek8;refine⟨_,rfl,x,CA,dx,_,_,rfl,hx9,ABx.cl,ABx.nE,(by rw[bM,if_pos rfl]),_,rfl,_,rfl,_,rfl,kn,zk,rfl,ek9,fun S2 hS2=>?_⟩;rw[wC];have s10:=aG hS2 (.lst (zk.drop (m - 1)));have e10:upd H9 S2 (.lst (zk.drop (m - 1))) S2=some (.lst (zk.drop (m - 1))):=aB;generalize upd H9 S2 (.lst (zk.drop (m - 1)))=H10 at s10 e10 ⊢;have s80:=s9.trans s10;have lLv:(lvS m ps).length=m:=by
  unfold lvS;rw[length_cons,length_take];lia
 refine⟨ro,V1,S2,xr,_,_,ds,lvS m ps,ps.drop (m - 1),m,rfl,s10 _ _ ero,Rb.same s10,⟨s80.seq ev8,Fv8.same s80,lLv,fun s hs=>?_⟩,SqL.of e10,Fqs.drop _ (Fk8.same s80),fun p hp=>lo p (mem_of_mem_drop hp),fun d hd=>?_,by rw[length_drop];lia,h40,fun fo zf H11 s11 nfo efo Ffo=>?_⟩
 ·rcases mem_cons.mp hs with z | z
  ·rw[z];exact⟨⟨by decide,by decide⟩,qf2 (n:=3899)⟩
  ·exact b39 s (mem_of_mem_take z)
 ·obtain⟨i,hi⟩:=getElem?_of_mem hd;exact(hK i d hi).1
 have s81:=s80.trans s11;have hx11:=s81 _ _ hx8;refine⟨_,rfl,x,CA,dx,_,rfl,hx11,ABx.cl,ABx.nO,(by have:=fA ("lines":Str) (.ref p) [];have:=fA ("levels":Str) (.ref V1) (eX "lines" (.ref p) []);simp only[length_nil] at *;lia),?_⟩;have x12:dB x H11 (upd H11 x (.ins CA dx (kY p V1 fo))):=fun b o h nb=>by rw[aU nb];exact h
 have hx12:upd H11 x (.ins CA dx (kY p V1 fo)) x=some (.ins CA dx (kY p V1 fo)):=aB;show Q .non (upd H11 x (.ins CA dx (kY p V1 fo)));generalize upd H11 x (.ins CA dx (kY p V1 fo))=H12 at x12 hx12 ⊢;refine q ps H12 (fun b o h nb=>x12 _ _ (s81 _ _ (x78 _ _ (s47 _ _ (x4 _ _ h nb)) nb)) nb) ⟨dx,p,V1,fo,_,zf,hx12,x12 _ _ (s81 _ _ (x78 _ _ e7 nV1x)) nV1x,dB.fqsI hx11 x12 (Fv8.same s81),x12 _ _ efo (fM efo hx11 (fun z=>by cases z)),dB.fqsI hx11 x12 Ffo,fun l0 o0 h0 n0=>⟨fun z=>?_,fun z=>?_⟩⟩ lps lo OV (EqB.sol EO SU fun i _=>EO.vy i)
 ·rw[z,(s5.trans s6) _ _ (x4 _ _ h0 n0)] at hV1;cases hV1
 ·rw[z,s80 _ _ (x78 _ _ (s47 _ _ (x4 _ _ h0 n0)) n0)] at nfo;cases nfo
abbrev Nr:Stmt:=top 75
theorem Lv:aQ ["_law_script","_law_k","_law_found"] ["_law_script","_law_k"] (aI Nr):=sK9 rfl rfl rfl rfl (by decide +kernel)
def Dc (K:Frag):Sp:=fun vs H Q _=>∃(a:Addr) (ns:List Int) (j:Int) (k:Nat),vs=[.ref a,.int j]/\j=(k:Int)/\SqL K H a (ns.map V.int)/\ns.length<=63/\∀i H',aV H H'->Q (.int i) H'
theorem Sb {dV:Value}(F:aY K "_law_draw" "_law_draw" Nr dV f fd) :
  aL P w K mg base CX 1 f fd ["_law_script","_law_k"] (Dc K):=by
 refine F.ok Lv (fun vs H Q E h=>?_) fun cdv A outer s H vs Q E hr h=>?_
 ·obtain⟨_,_,_,_,rfl,_⟩:=h;rfl
 obtain⟨a,ns,j,k,rfl,hj,hS,h63,q⟩:=h;have hu:=hr.units;refine⟨_,(aC (aR (i:=2) Lv.nd rfl (Or.inl rfl) (iY kG (pv 0) (iL (pv 1)) (iL (aT cW (pv 1) aE))))
  (aC (cA (bG (xM hu) (pv 2) (cZ aD) (bK _)) (aF (aX aE)) bH)
  (aF (aX (aS bQ (pv 2) aE (fun _ _=>rfl)))))),?_⟩
 refine⟨_,rfl,_,rfl,j,rfl,_,rfl,_,_,rfl,rfl,j+1,rfl,a,_,rfl,hS,fun l hl=>?_⟩;have s1:=aG hl (.lst (kO (ns.map V.int) (some j) (some (j+1))));have e1:upd H l (.lst (kO (ns.map V.int) (some j) (some (j+1)))) l=some (.lst (kO (ns.map V.int) (some j) (some (j+1)))):=aB;obtain⟨ms,em,lm⟩:=Ka ns (some j) (some (j+1));rw[em] at e1 s1 ⊢;generalize upd H l (.lst (ms.map V.int))=H1 at e1 s1 ⊢;refine⟨_,rfl,zl9 0,fun e he=>?_⟩;have s2:=aG he (.lst []);refine Ml (s2.seq (SqL.of e1)) (SqL.of aB) ⟨_,rfl,?_⟩;rcases ms with _ | ⟨m,ms⟩
 ·exact fI (q 0 _ (s1.trans s2))
 ·refine eY ⟨_,rfl,l,_,_,_,rfl,rfl,s2.seq (SqL.of e1),bU (j:=0) rfl,q m _ (s1.trans s2)⟩
abbrev yO:Stmt:=top 76
theorem sR:aQ ["_law_cell","_law_turn","_law_many","_law_left","_law_k","_law_by_here","_law_prime","_law_x"] ["_law_cell","_law_turn","_law_many"] (aI yO):=sK9 rfl rfl rfl rfl (by decide +kernel)
def tP:Sp:=fun vs H Q _=>∃c t m:Int,vs=[.int c,.int t,.int m]/\0<=t/\t<=9/\0 < m/\∀r H',0<=r->r < m->aV H H'->Q (.int r) H'
theorem qa1 {a0 a1 a2 a3 a4 a5 a6 a7 a8 a9:Int}(hp:0 < a0/\0 < a1/\0 < a2/\0 < a3/\0 < a4/\0 < a5/\0 < a6/\0 < a7/\0 < a8/\0 < a9)(hm:a0 < 1000000/\a1 < 1000000/\a2 < 1000000/\a3 < 1000000/\a4 < 1000000/\a5 < 1000000/\a6 < 1000000/\a7 < 1000000/\a8 < 1000000/\a9 < 1000000){t:Int}(h0:0<=t)(h9:t<=9) :
  ∃v,atI [V.int a0,.int a1,.int a2,.int a3,.int a4,.int a5,.int a6,.int a7,.int a8,.int a9] t=some (.int v)/\0 < v/\v < 1000000:=by
 have:t=0\/t=1\/t=2\/t=3\/t=4\/t=5\/t=6\/t=7\/t=8\/t=9:=by lia
 rcases this with rfl | rfl | rfl | rfl | rfl | rfl | rfl | rfl | rfl | rfl
 all_goals exact⟨_,rfl,by lia,by lia⟩
abbrev l48:List Int:=[48271,69621,16807,40692,39373,30269,27183,60013,51749,35969]
abbrev l99:List Int:=[999983,999979,999961,999959,999953,999931,999917,999907,999883,999863]
@[irreducible] def md1:Stmt:=(cN yO).getD 1 (.Pass ⟨0,0,0,0⟩)
@[irreducible] def md2:Stmt:=(cN yO).getD 2 (.Pass ⟨0,0,0,0⟩)
def md0:Stmt:=(cN yO).getD 0 (.Pass ⟨0,0,0,0⟩)
def md3:Stmt:=(cN yO).getD 3 (.Pass ⟨0,0,0,0⟩)
def md4:Stmt:=(cN yO).getD 4 (.Pass ⟨0,0,0,0⟩)
theorem qa4:cN yO=[md0,md1,md2,md3,md4]:=by unfold md1 md2;rfl
theorem Xp:∃(q q2 p2 p3 p:Pos) (l:List (Int × _ × Pos)),md1=.Assign [.Name "_law_by_here" q] (.Subscript (.List (l.map fun q=>Expr.Constant (.int q.1) q.2.1 q.2.2) p2) (.Name "_law_turn" q2) p3) p/\l.map (fun q=>V.int q.1)=l48.map V.int:=by
 unfold md1;exact⟨_,_,_,_,_,[(48271,_,_),(69621,_,_),(16807,_,_),(40692,_,_),(39373,_,_),(30269,_,_),(27183,_,_),(60013,_,_),(51749,_,_),(35969,_,_)],rfl,rfl⟩
theorem Wj:∃(q q2 p2 p3 p:Pos) (l:List (Int × _ × Pos)),md2=.Assign [.Name "_law_prime" q] (.Subscript (.List (l.map fun q=>Expr.Constant (.int q.1) q.2.1 q.2.2) p2) (.Name "_law_turn" q2) p3) p/\l.map (fun q=>V.int q.1)=l99.map V.int:=by
 unfold md2;exact⟨_,_,_,_,_,[(999983,_,_),(999979,_,_),(999961,_,_),(999959,_,_),(999953,_,_),(999931,_,_),(999917,_,_),(999907,_,_),(999883,_,_),(999863,_,_)],rfl,rfl⟩
theorem Yc {dV:Value}(F:aY K "_law_mix" "_law_mix" yO dV f fd)(mr:mg "range"=none) :
  aL P w K mg base CX 1 f fd ["_law_cell","_law_turn","_law_many"] tP:=by
 refine F.ok sR (fun vs H Q E h=>?_) fun cdv A outer s H vs Q E hr h=>?_
 ·obtain⟨_,_,_,rfl,_⟩:=h;rfl
 obtain⟨c,t,m,rfl,h0,h9,hm,q⟩:=h;rw[qa4];obtain⟨q1,q2,q3,q4,q5,l1,e1,eo1⟩:=Xp;obtain⟨r1,r2,r3,r4,r5,l2,e2,eo2⟩:=Wj;rw[e1,e2];refine⟨_,(aC (cA (bG eZ (aT jF (pv 0) aE) aE (bK _)) (aC (aR (i:=3) sR.nd rfl (Or.inl rfl) (aT kH (pv 0) aE))
  (aC (dW PassesOwn.never rfl (gW rfl mr (aA (pv 1) aD)) (aZ (i:=4) sR.nd rfl (Or.inl rfl))
   (aF (aR (i:=3) sR.nd rfl (Or.inl rfl) (aT kH (pv 3) (aT jG aE aE)))))
  (aF (aX (aT kB (pv 3) (pv 2)))))) bH)
  (aC (aR (i:=5) sR.nd rfl (Or.inl rfl) (aS bQ (cZ (zI _ l1)) (pv 1) (fun _ _=>rfl)))
  (aC (aR (i:=6) sR.nd rfl (Or.inl rfl) (aS bQ (cZ (zI _ l2)) (pv 1) (fun _ _=>rfl)))
  (aC (aR (i:=7) sR.nd rfl (Or.inl rfl) (aT jF (pv 0) aE))
  (aF (aX (aT kB (aT kH (aT kB (aT cW (aT cW (aT cF (aT lM aE (pv 7)) (pv 7)) (aT cF (pv 5) (pv 7))) (aT lM aE (aT cW (pv 1) aE))) (pv 6)) aE) (pv 2)))))))),?_⟩
 rw[eo1,eo2];have hf:∀u:Int,0<=u.fmod m/\u.fmod m < m:=fun u=>⟨Int.fmod_nonneg_of_pos u hm,Int.fmod_lt_of_pos u hm⟩
 have m0:m≠0:=by lia
 refine⟨_,rfl,_,_,rfl,rfl,(show (0:Int) < 2 by decide),rfl,_,rfl,oM (fun _=>?_) (fun _=>?_)⟩
 ·refine⟨_,rfl,_,_,rfl,rfl,⟨by decide,by decide⟩,?_⟩;refine⟨_,rfl,t,rfl,by lia,by lia,?_⟩;refine gR (n:=t.toNat) (fun i σ H'=>H'=H/\∃u z,σ=[some (.int c),some (.int t),some (.int m),some (.int u),z,none,none,none]) ⟨rfl,_,none,rfl⟩ ?_ ?_
  ·rintro i σ H' hi ⟨rfl,u,z,rfl⟩;exact⟨_,rfl,_,_,rfl,rfl,⟨by decide,by decide,by decide⟩,_,_,rfl,rfl,⟨by decide,by decide⟩,rfl,_,_,rfl⟩
  ·rintro σ H' ⟨rfl,u,z,rfl⟩;exact⟨_,rfl,_,rfl,_,_,rfl,rfl,m0,q _ _ (hf u).1 (hf u).2 (aV.refl _)⟩
 ·refine⟨zl9 10,fun l1 hl1=>?_⟩;obtain⟨by_,eb,b1,b2⟩:=qa1 (a0:=48271) (a1:=69621) (a2:=16807) (a3:=40692) (a4:=39373) (a5:=30269) (a6:=27183) (a7:=60013) (a8:=51749) (a9:=35969) (by decide) (by decide) h0 h9;have s1:=aG hl1 (.lst (l48.map V.int));have g1:upd H l1 (.lst (l48.map V.int)) l1=some (.lst (l48.map V.int)):=aB;generalize upd H l1 (.lst (l48.map V.int))=H1 at s1 g1 ⊢;refine⟨_,rfl,l1,_,_,_,rfl,rfl,SqL.of g1,eb,?_⟩;refine⟨zl9 10,fun l2 hl2=>?_⟩;obtain⟨pr,ep,p1,p2⟩:=qa1 (a0:=999983) (a1:=999979) (a2:=999961) (a3:=999959) (a4:=999953) (a5:=999931) (a6:=999917) (a7:=999907) (a8:=999883) (a9:=999863) (by decide) (by decide) h0 h9;have s2:=aG hl2 (.lst (l99.map V.int));have g2:upd H1 l2 (.lst (l99.map V.int)) l2=some (.lst (l99.map V.int)):=aB;generalize upd H1 l2 (.lst (l99.map V.int))=H2 at s2 g2 ⊢;refine⟨_,rfl,l2,_,_,_,rfl,rfl,SqL.of g2,ep,?_⟩;refine⟨_,rfl,_,_,rfl,rfl,(show (0:Int) < 2147483647 by decide),?_⟩;have x1:=Int.emod_nonneg c (show (2147483647:Int)≠0 by decide);have x2:=Int.emod_lt_of_pos c (show (0:Int) < 2147483647 by decide);generalize c % 2147483647=x at x1 x2 ⊢;refine⟨_,rfl,_,_,rfl,rfl,Or.inl ⟨by decide,by decide⟩,_,rfl,cH (n:=40) (m:=40) (oK (by lia) (by lia)) (oK (by lia) (by lia)) (by lia) (by lia) ?_⟩;refine⟨_,rfl,_,rfl,cH (n:=40) (m:=40) (oK (by lia) (by lia)) (oK (by lia) (by lia)) (by lia) (by lia) ⟨_,_,rfl,rfl,?_⟩⟩;refine⟨_,rfl,_,_,rfl,rfl,_,_,rfl,rfl,Or.inl ⟨by decide,by decide⟩,_,_,rfl,rfl,_,rfl,_,_,rfl,rfl,by lia,_,_,rfl,rfl,⟨by decide,by decide⟩,_,rfl,_,_,rfl,rfl,m0,?_⟩;exact q _ _ (hf _).1 (hf _).2 (s1.trans s2)
abbrev Na:Stmt:=top 77
theorem xZ:aQ ["_law_cell","_law_k","_law_left","_law_j"] ["_law_cell","_law_k"] (aI Na):=sK9 rfl rfl rfl rfl (by decide +kernel)
def xF:Sp:=fun vs H Q _=>∃c k:Int,vs=[.int c,.int k]/\0<=k/\k<=63/\∀r,Q (.int r) H
theorem Sc {dV:Value}(F:aY K "_law_part" "_law_part" Na dV f fd)(mr:mg "range"=none) :
  aL P w K mg base CX 1 f fd ["_law_cell","_law_k"] xF:=by
 refine F.ok xZ (fun vs H Q E h=>?_) fun cdv A outer s H vs Q E hr h=>?_
 ·obtain⟨_,_,rfl,_⟩:=h;rfl
 obtain⟨c,k,rfl,h0,h9,q⟩:=h;refine⟨_,(aC (cA (bG eZ (aT jF (pv 0) aE) aE (bK _)) (aF (aX (aT cW (aT jF (pv 0) (aT jG aE aE)) (aT cF (aT lM aE (pv 1)) (pv 1))))) bH)
  (aC (aR (i:=2) xZ.nd rfl (Or.inl rfl) (aT kH (pv 0) aE))
  (aC (dW PassesOwn.never rfl (gW rfl mr (aA (aT lM aE (pv 1)) aD)) (aZ (i:=3) xZ.nd rfl (Or.inl rfl))
   (aF (aR (i:=2) xZ.nd rfl (Or.inl rfl) (aT kH (pv 2) (aT jG aE aE)))))
  (aF (aX (aT cW (aT lM aE (pv 2)) aE)))))),?_⟩
 refine⟨_,rfl,_,_,rfl,rfl,(show (0:Int) < 2 by decide),rfl,_,rfl,oM (fun _=>?_) (fun _=>?_)⟩
 ·refine⟨_,rfl,_,_,rfl,rfl,⟨by decide,by decide,by decide⟩,_,_,rfl,rfl,(show (0:Int) < 10 ^ (15:Int).toNat by decide),?_⟩;refine⟨_,rfl,_,_,rfl,rfl,Or.inl ⟨by decide,by decide⟩,_,rfl,cH (n:=40) (m:=40) (oK (by lia) (by lia)) (oK (by lia) (by lia)) (by lia) (by lia) ⟨_,_,rfl,rfl,q _⟩⟩
 ·refine⟨_,rfl,_,_,rfl,rfl,⟨by decide,by decide⟩,?_⟩;refine⟨_,rfl,_,_,rfl,rfl,Or.inl ⟨by decide,by decide⟩,_,rfl,by lia,by lia,?_⟩;refine gR (n:=(12*k).toNat) (fun i σ H'=>H'=H/\∃u z,σ=[some (.int c),some (.int k),some (.int u),z]) ⟨rfl,_,none,rfl⟩ ?_ ?_
  ·rintro i σ H' hi ⟨rfl,u,z,rfl⟩;exact⟨_,rfl,_,_,rfl,rfl,⟨by decide,by decide,by decide⟩,_,_,rfl,rfl,⟨by decide,by decide⟩,rfl,_,_,rfl⟩
  ·rintro σ H' ⟨rfl,u,z,rfl⟩;exact⟨_,rfl,_,_,rfl,rfl,Or.inl ⟨by decide,by decide⟩,_,_,rfl,rfl,q _⟩
abbrev Wq:Stmt:=top 78
theorem Gv:aQ ["_law_cell","_law_turn","_law_left","_law_k"] ["_law_cell","_law_turn"] (aI Wq):=sK9 rfl rfl rfl rfl (by decide +kernel)
def Mt:Sp:=fun vs H Q _=>∃c t:Int,vs=[.int c,.int t]/\0<=t/\t<=9/\∀r:Int,-1000000000000<=r->r<=1000000000000->Q (.int r) H
theorem p12:(10:Int) ^ (12:Int).toNat=1000000000000:=by decide
theorem Wz {dV:Value}(F:aY K "_law_far" "_law_far" Wq dV f fd)(mr:mg "range"=none) :
  aL P w K mg base CX 1 f fd ["_law_cell","_law_turn"] Mt:=by
 refine F.ok Gv (fun vs H Q E h=>?_) fun cdv A outer s H vs Q E hr h=>?_
 ·obtain⟨_,_,rfl,_⟩:=h;rfl
 obtain⟨c,t,rfl,h0,h9,q⟩:=h;refine⟨_,(aC (cA (bG eZ (aT jF (pv 0) aE) aE (bK _)) (aC (aR (i:=2) Gv.nd rfl (Or.inl rfl) (aT kH (pv 0) aE))
  (aC (dW PassesOwn.never rfl (gW rfl mr (aA aE aD)) (aZ (i:=3) Gv.nd rfl (Or.inl rfl))
   (aF (aR (i:=2) Gv.nd rfl (Or.inl rfl) (aT kH (pv 2) (aT jG aE aE)))))
  (aF (aX (aT jD (aT jF (pv 2) (aT cW (aT lM aE (aT jG aE aE)) aE)) (aT jG aE aE)))))) bH)
  (aF (aX (aT jD (aT jF (aT cF (aT jF (pv 0) (aT jG aE aE)) (aT cW (aT lM aE (pv 1)) aE)) (aT cW (aT lM aE (aT jG aE aE)) aE)) (aT jG aE aE))))),?_⟩
 have fin:∀u:Int,Q (.int (u % (2*10 ^ (12:Int).toNat+1) - 10 ^ (12:Int).toNat)) H:=fun u=>by
  rw[p12];have x1:=Int.emod_nonneg u (show (2*1000000000000+1:Int)≠0 by decide);have x2:=Int.emod_lt_of_pos u (show (0:Int) < 2*1000000000000+1 by decide);exact q _ (by lia) (by lia)
 refine⟨_,rfl,_,_,rfl,rfl,(show (0:Int) < 2 by decide),rfl,_,rfl,oM (fun _=>?_) (fun _=>?_)⟩
 ·refine⟨_,rfl,_,_,rfl,rfl,⟨by decide,by decide⟩,?_⟩;refine⟨_,rfl,by lia,by lia,?_⟩;refine gR (n:=10) (fun i σ H'=>H'=H/\∃u z,σ=[some (.int c),some (.int t),some (.int u),z]) ⟨rfl,_,none,rfl⟩ ?_ ?_
  ·rintro i σ H' hi ⟨rfl,u,z,rfl⟩;exact⟨_,rfl,_,_,rfl,rfl,⟨by decide,by decide,by decide⟩,_,_,rfl,rfl,⟨by decide,by decide⟩,rfl,_,_,rfl⟩
  ·rintro σ H' ⟨rfl,u,z,rfl⟩;exact⟨_,rfl,_,_,rfl,rfl,⟨by decide,by decide,by decide⟩,_,_,rfl,rfl,Or.inl ⟨by decide,by decide⟩,_,_,rfl,rfl,_,_,rfl,rfl,(show (0:Int) < 2*10 ^ (12:Int).toNat+1 by decide),_,_,rfl,rfl,⟨by decide,by decide,by decide⟩,_,_,rfl,rfl,fin u⟩
 ·refine⟨_,rfl,_,_,rfl,rfl,⟨by decide,by decide,by decide⟩,_,_,rfl,rfl,(show (0:Int) < 10 ^ (12:Int).toNat by decide),?_⟩;have x1:=Int.emod_nonneg c (show (10 ^ (12:Int).toNat:Int)≠0 by decide);have x2:=Int.emod_lt_of_pos c (show (0:Int) < 10 ^ (12:Int).toNat by decide);rw[p12] at x1 x2;refine⟨_,rfl,_,_,rfl,rfl,Or.inl ⟨by decide,by decide⟩,_,_,rfl,rfl,cH (n:=40) (m:=40) (oK (by rw[p12];lia) (by rw[p12];lia)) (oK (by lia) (by lia)) (by lia) (by lia) ?_⟩;exact⟨_,_,rfl,rfl,⟨by decide,by decide,by decide⟩,_,_,rfl,rfl,Or.inl ⟨by decide,by decide⟩,_,_,rfl,rfl,_,_,rfl,rfl,(show (0:Int) < 2*10 ^ (12:Int).toNat+1 by decide),_,_,rfl,rfl,⟨by decide,by decide,by decide⟩,_,_,rfl,rfl,fin _⟩
abbrev yH:Stmt:=top 79
theorem pJ:aQ ["_law_top","_law_bottom","_law_one","_law_other"] ["_law_top","_law_bottom"] (aI yH):=sK9 rfl rfl rfl rfl (by decide +kernel)
theorem Iz {dV:Value}(F:aY K "_law_lowest" "_law_lowest" yH dV f fd)(b:Bl mg) :
  aL P w K mg base CX 1 f fd ["_law_top","_law_bottom"] gM:=by
 refine F.ok pJ (fun vs H Q E h=>?_) fun cdv A outer s H vs Q E hr h=>?_
 ·obtain⟨_,_,_,rfl,_⟩:=h;rfl
 obtain⟨t,b',n,rfl,hb,hB,hn,q⟩:=h;refine⟨_,(aC (Ky (i:=2) (j:=3) rfl pJ.nd rfl rfl (by decide) rfl rfl (aA (bN tT rfl b.abs PyProof.Rows.boot_abs (aA (pv 0) aD)) (aA (bN tT rfl b.abs PyProof.Rows.boot_abs (aA (pv 1) aD)) aD)) rfl)
  (aC (rY PassesOwn.never (bG nQ (pv 3) aE (bK _)) (aF (Ky (i:=2) (j:=3) rfl pJ.nd rfl rfl (by decide) rfl rfl (aA (pv 3) (aA (aT kB (pv 2) (pv 3)) aD)) rfl)))
  (aC (cA (bG wM (pv 1) aE (bK _)) (aF (aR (i:=2) pJ.nd rfl (Or.inl rfl) (aT jD aE (pv 2)))) bH)
  (aF (aX (dH (aA (aT iQ (pv 0) (pv 2)) (aA (aT iQ (pv 1) (pv 2)) aD)))))))),?_⟩
 refine⟨_,rfl,_,rfl,_,rfl,_,rfl,_,_,rfl,?_⟩;have g0:=Mq.Wx t b';have n0:0<=(if t < 0 then -t else t):=by split<;>lia
 have n1:0<=(if b' < 0 then -b' else b'):=by split<;>lia
 generalize (if t < 0 then -t else t)=x' at *
 generalize (if b' < 0 then -b' else b')=y' at *
 have hd:=qK (t:=t) hb;have hdB:Mq.B n (dvr t b'):=hB.le (Bu hb);refine rX (fun σ H'=>H'=H/\∃u v,σ=[some (.int t),some (.int b'),some (.int u),some (.int v)]/\gc u v=gc t b'/\0<=u/\0<=v) (fun σ _=>match σ with | [_,_,_,some (.int v)]=>v.natAbs | _=>0) ⟨rfl,x',y',rfl,g0,n0,n1⟩ ?_ ?_
 ·rintro σ H' ⟨rfl,u,v,rfl,e,hu,hv0⟩;refine⟨_,rfl,rfl,_,rfl,?_⟩;refine oM (fun c=>?_) (fun c=>?_)
  ·have hv:v≠0:=by intro q;subst q;simp at c
   refine⟨_,rfl,_,rfl,_,rfl,_,_,rfl,rfl,hv,_,_,rfl,⟨rfl,v,Int.fmod u v,rfl,(Fn u v).trans e,hv0,Int.fmod_nonneg_of_pos u (by lia)⟩,vK hv⟩
  ·have hv:v=0:=by
    simp at c;exact c
   subst hv;have eu:u=gc t b':=by rw[<- e,Fy,if_neg (by lia)]
   subst eu;refine⟨_,rfl,_,_,rfl,rfl,_,rfl,oM (fun c=>?_) (fun c=>?_)⟩
   ·have hlt:b' < 0:=of_decide_eq_true c;have e:dvr t b'=0 - gc t b':=by unfold dvr;rw[if_pos hlt];lia
    rw[e] at hd hdB;have q':lK H' Q (t.fdiv (0 - gc t b'),b'.fdiv (0 - gc t b')):=by
     have z:=q;unfold red at z;rw[e] at z;exact z
    refine⟨_,rfl,_,_,rfl,rfl,?_⟩;refine⟨_,rfl,_,rfl,fP hd hdB hn ⟨_,rfl,_,rfl,fP hd hdB hn ⟨zl9 2,fun p hp=>?_⟩⟩⟩;exact q' p _ (aG hp _) aB
   ·have hlt:¬b' < 0:=fun z=>c (decide_eq_true z);have e:dvr t b'=gc t b':=by unfold dvr;rw[if_neg hlt]
    rw[e] at hd hdB;have q':lK H' Q (t.fdiv (gc t b'),b'.fdiv (gc t b')):=by
     have z:=q;unfold red at z;rw[e] at z;exact z
    refine⟨_,rfl,_,rfl,fP hd hdB hn ⟨_,rfl,_,rfl,fP hd hdB hn ⟨zl9 2,fun p hp=>?_⟩⟩⟩;exact q' p _ (aG hp _) aB
 ·rintro σ H Q Q' m ⟨v,h1,h2,k,h3,h4⟩;exact⟨v,h1,h2,k,h3,m _ _ h4⟩
abbrev Bx:Stmt:=top 80
theorem Rp:aQ ["_law_one","_law_other"] ["_law_one","_law_other"] (aI Bx):=sK9 rfl rfl rfl rfl (by decide +kernel)
theorem Jz {dV:Value}(F:aY K "_law_plus" "_law_plus" Bx dV f fd)(G1:aL P w K mg base CX0 1 g1 gd1 ["_law_top","_law_bottom"] gM)(b1:aM K gd1 ["_law_top","_law_bottom"] [])(k1:kI9 K g1)(m1:mI9 mg "_law_lowest" g1) :
  aL P w K mg base CX 2 f fd ["_law_one","_law_other"] (gC K Mq.plus):=by
 refine F.ok Rp (fun vs H Q E h=>?_) fun cdv A outer s H vs Q E hr h=>?_
 ·obtain⟨_,_,_,_,_,_,rfl,_⟩:=h;rfl
 obtain⟨a,b,p,q,n,m,rfl,fa,fb,hp,hq,bp,bq,hnm,z⟩:=h;refine⟨_,(aF (aX (aH G1 hr rfl m1 k1 b1 .nil aK (aA (aT cW (aT cF (aS aW (pv 0) aE (fun _ _=>rfl)) (aS aW (pv 1) aE (fun _ _=>rfl))) (aT cF (aS aW (pv 1) aE (fun _ _=>rfl)) (aS aW (pv 0) aE (fun _ _=>rfl)))) (aA (aT cF (aS aW (pv 0) aE (fun _ _=>rfl)) (aS aW (pv 1) aE (fun _ _=>rfl))) aD))))),?_⟩;refine dR rfl fa (cI rfl fb (cH bp.a bq.b (by lia) (by lia) ?_));refine dR rfl fb (cI rfl fa (cH bq.a bp.b (by lia) (by lia) ⟨_,_,rfl,rfl,?_⟩));refine cI rfl fa (cI rfl fb (cH bp.b bq.b (by lia) (by lia) ?_));exact⟨_,_,n+m,rfl,gF hp hq,bp.b.mul bq.b,by lia,z⟩
abbrev Dq:Stmt:=top 81
theorem Rx:aQ ["_law_one","_law_other"] ["_law_one","_law_other"] (aI Dq):=sK9 rfl rfl rfl rfl (by decide +kernel)
theorem Md {dV:Value}(F:aY K "_law_less" "_law_less" Dq dV f fd)(G1:aL P w K mg base CX0 1 g1 gd1 ["_law_top","_law_bottom"] gM)(b1:aM K gd1 ["_law_top","_law_bottom"] [])(k1:kI9 K g1)(m1:mI9 mg "_law_lowest" g1) :
  aL P w K mg base CX 2 f fd ["_law_one","_law_other"] (gC K Mq.minus):=by
 refine F.ok Rx (fun vs H Q E h=>?_) fun cdv A outer s H vs Q E hr h=>?_
 ·obtain⟨_,_,_,_,_,_,rfl,_⟩:=h;rfl
 obtain⟨a,b,p,q,n,m,rfl,fa,fb,hp,hq,bp,bq,hnm,z⟩:=h;refine⟨_,(aF (aX (aH G1 hr rfl m1 k1 b1 .nil aK (aA (aT jD (aT cF (aS aW (pv 0) aE (fun _ _=>rfl)) (aS aW (pv 1) aE (fun _ _=>rfl))) (aT cF (aS aW (pv 1) aE (fun _ _=>rfl)) (aS aW (pv 0) aE (fun _ _=>rfl)))) (aA (aT cF (aS aW (pv 0) aE (fun _ _=>rfl)) (aS aW (pv 1) aE (fun _ _=>rfl))) aD))))),?_⟩;refine dR rfl fa (cI rfl fb (cH bp.a bq.b (by lia) (by lia) ?_));refine dR rfl fb (cI rfl fa (cH bq.a bp.b (by lia) (by lia) ⟨_,_,rfl,rfl,?_⟩));refine cI rfl fa (cI rfl fb (cH bp.b bq.b (by lia) (by lia) ?_));exact⟨_,_,n+m,rfl,gF hp hq,bp.b.mul bq.b,by lia,z⟩
theorem lK.same {H H':Hp}{Q:VK}{p:Q2}(s:aV H H')(h:lK H Q p):lK H' Q p:=fun a H2 s2 e=>h a H2 (s.trans s2) e
abbrev zD:Stmt:=top 82
theorem Ma:aQ ["_law_one","_law_other"] ["_law_one","_law_other"] (aI zD):=sK9 rfl rfl rfl rfl (by decide +kernel)
theorem Ii {dV:Value}(F:aY K "_law_times" "_law_times" zD dV f fd)(G1:aL P w K mg base CX0 1 g1 gd1 ["_law_top","_law_bottom"] gM)(b1:aM K gd1 ["_law_top","_law_bottom"] [])(k1:kI9 K g1)(m1:mI9 mg "_law_lowest" g1) :
  aL P w K mg base CX 2 f fd ["_law_one","_law_other"] (gC K kX):=by
 refine F.ok Ma (fun vs H Q E h=>?_) fun cdv A outer s H vs Q E hr h=>?_
 ·obtain⟨_,_,_,_,_,_,rfl,_⟩:=h;rfl
 obtain⟨a,b,p,q,n,m,rfl,fa,fb,hp,hq,bp,bq,hnm,z⟩:=h;refine⟨_,(aF (aX (aH G1 hr rfl m1 k1 b1 .nil aK (aA (aT cF (aS aW (pv 0) aE (fun _ _=>rfl)) (aS aW (pv 1) aE (fun _ _=>rfl))) (aA (aT cF (aS aW (pv 0) aE (fun _ _=>rfl)) (aS aW (pv 1) aE (fun _ _=>rfl))) aD))))),?_⟩;refine dR rfl fa (dR rfl fb (cH bp.a bq.a (by lia) (by lia) ?_));refine cI rfl fa (cI rfl fb (cH bp.b bq.b (by lia) (by lia) ?_));exact⟨_,_,n+m,rfl,gF hp hq,bp.b.mul bq.b,by lia,z⟩
abbrev Vw:Stmt:=top 83
theorem Yd:aQ ["_law_one","_law_other"] ["_law_one","_law_other"] (aI Vw):=sK9 rfl rfl rfl rfl (by decide +kernel)
theorem We {dV:Value}(F:aY K "_law_by" "_law_by" Vw dV f fd)(G1:aL P w K mg base CX0 1 g1 gd1 ["_law_top","_law_bottom"] gM)(b1:aM K gd1 ["_law_top","_law_bottom"] [])(k1:kI9 K g1)(m1:mI9 mg "_law_lowest" g1) :
  aL P w K mg base CX 2 f fd ["_law_one","_law_other"] (rZ K):=by
 refine F.ok Yd (fun vs H Q E h=>?_) fun cdv A outer s H vs Q E hr h=>?_
 ·obtain⟨_,_,_,_,_,_,rfl,_⟩:=h;rfl
 obtain⟨a,b,p,q,n,m,rfl,fa,fb,hp,hq,h0,bp,bq,hnm,z⟩:=h;refine⟨_,(aF (aX (aH G1 hr rfl m1 k1 b1 .nil aK (aA (aT cF (aS aW (pv 0) aE (fun _ _=>rfl)) (aS aW (pv 1) aE (fun _ _=>rfl))) (aA (aT cF (aS aW (pv 0) aE (fun _ _=>rfl)) (aS aW (pv 1) aE (fun _ _=>rfl))) aD))))),?_⟩;refine dR rfl fa (cI rfl fb (cH bp.a bq.b (by lia) (by lia) ?_));refine cI rfl fa (dR rfl fb (cH bp.b bq.a (by lia) (by lia) ?_));exact⟨_,_,n+m,rfl,oZ hp (by lia),bp.b.mul bq.a,by lia,z⟩
theorem Zj {b:Int}(h1:1<=b)(h2:b<=12):b ∣ 27720:=by
 have:b=1\/b=2\/b=3\/b=4\/b=5\/b=6\/b=7\/b=8\/b=9\/b=10\/b=11\/b=12:=by lia
 rcases this with rfl | rfl | rfl | rfl | rfl | rfl | rfl | rfl | rfl | rfl | rfl | rfl<;>decide
def pQ:Sp:=fun vs H Q _=>∃(c t:Int),vs=[.int c,.int t]/\0<=t/\t<=8/\∀p,iA p->lK H Q p
def Kz:Sp:=fun vs H Q _=>∃c:Int,vs=[.int c]/\∀p,uW p->lK H Q p
theorem Er {H:Hp}{Q:VK}(q:∀p,iA p->lK H Q p){H':Hp}(s:aV H H'){t b:Int}(bT:Mq.B 41 t)(h3:0<=b)(h4:b < 12):gM [.int t,.int (1+b)] H' Q E0:=by
 have b0:1+b≠0:=by lia
 have le:=oB (t:=t) b0;have bB:Mq.B 6 (1+b):=oK (by lia) (by lia);have lo:=iJ (t:=t) b0;have b2:(red t (1+b)).2.natAbs<=(1+b).natAbs:=le.2;have p1:=lo.pos;exact⟨t,1+b,6,rfl,b0,bB,by lia,lK.same s (q _ ⟨lo,⟨bT.le le.1,(bB.le le.2).mono (by decide)⟩,Zj p1 (by lia)⟩)⟩
theorem Pe {H:Hp}{Q:VK}(q:∀p,uW p->lK H Q p){H':Hp}(s:aV H H'){t b:Int}(t0:0 < t)(bT:Mq.B 30 t)(h3:0<=b)(h4:b < 6):gM [.int t,.int (1+b)] H' Q E0:=by
 have b0:1+b≠0:=by lia
 have le:=oB (t:=t) b0;have bB:Mq.B 6 (1+b):=oK (by lia) (by lia);have b2:(red t (1+b)).2.natAbs<=(1+b).natAbs:=le.2;exact⟨t,1+b,6,rfl,b0,bB,by lia,lK.same s (q _ ⟨iJ b0,Mq.Qv t0 (by lia),bT.le le.1,by lia⟩)⟩
abbrev yI:Stmt:=top 84
theorem sY:aQ ["_law_cell","_law_turn","_law_top"] ["_law_cell","_law_turn"] (aI yI):=sK9 rfl rfl rfl rfl (by decide +kernel)
theorem Iw {dV:Value}(F:aY K "_law_number" "_law_number" yI dV f fd)(G1:aL P w K mg base CX0 1 g1 gd1 ["_law_cell","_law_turn","_law_many"] tP)(b1:aM K gd1 ["_law_cell","_law_turn","_law_many"] [])(k1:kI9 K g1)(m1:mI9 mg "_law_mix" g1)(G2:aL P w K mg base CX0 1 g2 gd2 ["_law_cell","_law_turn"] Mt)(b2:aM K gd2 ["_law_cell","_law_turn"] [])(k2:kI9 K g2)(m2:mI9 mg "_law_far" g2)(G3:aL P w K mg base CX0 1 g3 gd3 ["_law_top","_law_bottom"] gM)(b3:aM K gd3 ["_law_top","_law_bottom"] [])(k3:kI9 K g3)(m3:mI9 mg "_law_lowest" g3) :
  aL P w K mg base CX 2 f fd ["_law_cell","_law_turn"] pQ:=by
 refine F.ok sY (fun vs H Q E h=>?_) fun cdv A outer s H vs Q E hr h=>?_
 ·obtain⟨_,_,rfl,_⟩:=h;rfl
 obtain⟨c,t,rfl,h0,h8,q⟩:=h;refine⟨_,(aC (aR (i:=2) sY.nd rfl (Or.inl rfl) (aT jD (aH G1 hr rfl m1 k1 b1 .nil aK (aA (pv 0) (aA (pv 1) (aA aE aD)))) aE))
  (aC (cA (bG eZ (aH G1 hr rfl m1 k1 b1 .nil aK (aA (pv 0) (aA aE (aA aE aD)))) aE (bK _)) (aF (aR (i:=2) sY.nd rfl (Or.inl rfl) (aH G2 hr rfl m2 k2 b2 .nil aK (aA (pv 0) (aA (pv 1) aD))))) bH)
  (aF (aX (aH G3 hr rfl m3 k3 b3 .nil aK (aA (pv 2) (aA (aT cW aE (aH G1 hr rfl m1 k1 b1 .nil aK (aA (pv 0) (aA (aT cW (pv 1) aE) (aA aE aD))))) aD))))))),?_⟩
 refine⟨_,rfl,_,rfl,c,t,121,rfl,h0,by lia,by lia,fun r H1 r1 r2 s1=>?_⟩;refine⟨_,_,rfl,rfl,?_⟩;have small:Mq.B 41 (r - 60):=oK (by lia) (by lia);refine⟨_,rfl,c,7,8,rfl,by lia,by lia,by lia,fun r' H2 _ _ s2=>?_⟩;refine⟨rfl,_,rfl,oM (fun _=>?_) (fun _=>?_)⟩
 ·refine⟨_,rfl,_,rfl,c,t,rfl,h0,by lia,fun u u1 u2=>?_⟩;refine⟨_,rfl,_,rfl,_,rfl,_,_,rfl,rfl,c,t+1,12,rfl,by lia,by lia,by lia,fun b H3 b1 b2 s3=>⟨_,_,rfl,rfl,?_⟩⟩;exact Er q (s1.trans (s2.trans s3)) (show Mq.B 41 u from oK (by lia) (by lia)) b1 b2
 ·refine⟨_,rfl,_,rfl,_,rfl,_,_,rfl,rfl,c,t+1,12,rfl,by lia,by lia,by lia,fun b H3 b1 b2 s3=>⟨_,_,rfl,rfl,?_⟩⟩;exact Er q (s1.trans (s2.trans s3)) small b1 b2
abbrev Om:Stmt:=top 85
theorem Ef:aQ ["_law_cell","_law_top"] ["_law_cell"] (aI Om):=sK9 rfl rfl rfl rfl (by decide +kernel)
theorem Rv {dV:Value}(F:aY K "_law_size" "_law_size" Om dV f fd)(G1:aL P w K mg base CX0 1 g1 gd1 ["_law_cell","_law_turn","_law_many"] tP)(b1:aM K gd1 ["_law_cell","_law_turn","_law_many"] [])(k1:kI9 K g1)(m1:mI9 mg "_law_mix" g1)(G2:aL P w K mg base CX0 1 g2 gd2 ["_law_cell","_law_turn"] Mt)(b2:aM K gd2 ["_law_cell","_law_turn"] [])(k2:kI9 K g2)(m2:mI9 mg "_law_far" g2)(G3:aL P w K mg base CX0 1 g3 gd3 ["_law_top","_law_bottom"] gM)(b3:aM K gd3 ["_law_top","_law_bottom"] [])(k3:kI9 K g3)(m3:mI9 mg "_law_lowest" g3) :
  aL P w K mg base CX 2 f fd ["_law_cell"] Kz:=by
 refine F.ok Ef (fun vs H Q E h=>?_) fun cdv A outer s H vs Q E hr h=>?_
 ·obtain⟨_,rfl,_⟩:=h;rfl
 obtain⟨c,rfl,q⟩:=h;refine⟨_,(aC (aR (i:=1) Ef.nd rfl (Or.inl rfl) (aT cW aE (aH G1 hr rfl m1 k1 b1 .nil aK (aA (pv 0) (aA aE (aA aE aD))))))
  (aC (cA (bG eZ (aH G1 hr rfl m1 k1 b1 .nil aK (aA (pv 0) (aA aE (aA aE aD)))) aE (bK _)) (aF (aR (i:=1) Ef.nd rfl (Or.inl rfl) (aT cW aE (aT jF (aH G2 hr rfl m2 k2 b2 .nil aK (aA (pv 0) (aA aE aD))) (aT cW (aT jG aE aE) aE))))) bH)
  (aF (aX (aH G3 hr rfl m3 k3 b3 .nil aK (aA (pv 1) (aA (aT cW aE (aH G1 hr rfl m1 k1 b1 .nil aK (aA (pv 0) (aA aE (aA aE aD))))) aD))))))),?_⟩
 refine⟨_,rfl,c,3,12,rfl,by decide,by decide,by decide,fun r H1 r1 r2 s1=>⟨_,_,rfl,rfl,?_⟩⟩;refine⟨_,rfl,c,7,12,rfl,by decide,by decide,by decide,fun r' H2 _ _ s2=>?_⟩;refine⟨rfl,_,rfl,oM (fun _=>?_) (fun _=>?_)⟩
 ·refine⟨_,rfl,c,1,rfl,by decide,by decide,fun u u1 u2=>?_⟩;refine⟨_,_,rfl,rfl,⟨by decide,by decide,by decide⟩,_,_,rfl,rfl,_,_,rfl,rfl,(show (0:Int) < 10 ^ (9:Int).toNat+7 by decide),_,_,rfl,rfl,?_⟩;have p9:(10:Int) ^ (9:Int).toNat+7=1000000007:=by decide
  have g0:=Int.emod_nonneg u (show (1000000007:Int)≠0 by decide);have g1:=Int.emod_lt_of_pos u (show (0:Int) < 1000000007 by decide);rw[<- p9] at g0 g1;refine⟨_,rfl,_,rfl,c,4,6,rfl,by decide,by decide,by decide,fun b H3 b1 b2 s3=>⟨_,_,rfl,rfl,?_⟩⟩;exact Pe q (s1.trans (s2.trans s3)) (t:=1+u % ((10:Int) ^ (9:Int).toNat+7)) (by lia) (oK (by lia) (by rw[p9] at g1 ⊢;lia)) b1 b2
 ·refine⟨_,rfl,_,rfl,c,4,6,rfl,by decide,by decide,by decide,fun b H3 b1 b2 s3=>⟨_,_,rfl,rfl,?_⟩⟩;exact Pe q (s1.trans (s2.trans s3)) (t:=1+r) (by lia) (oK (by lia) (by lia)) b1 b2
abbrev Lp:Stmt:=top 86
theorem Le:aQ ["_law_found","_law_due","_law_number_here"] ["_law_found","_law_due"] (aI Lp):=sK9 rfl rfl rfl rfl (by decide +kernel)
def Lf (K:Frag):Sp:=fun vs H Q _=>∃(a b:Addr) (p:Q2),vs=[.ref a,.ref b]/\Fq K H a p/\Fq K H b p/\Q (.bl true) H
theorem To {dV:Value}(F:aY K "_law_told" "_law_told" Lp dV f fd)(b:Bl mg)(ml:mg "len"=none)(mt:mg "tuple"=none) :
  aL P w K mg base CX 1 f fd ["_law_found","_law_due"] (Lf K):=by
 refine F.ok Le (fun vs H Q E h=>?_) fun cdv A outer s H vs Q E hr h=>?_
 ·obtain⟨_,_,_,rfl,_⟩:=h;rfl
 obtain⟨a,d,p,rfl,fa,fd',q⟩:=h;have hu:=hr.units;refine⟨_,(aC (cA (PW.pt (nT (fV (dU (gH (i:=0) rfl (Or.inl rfl) b.isi mt rfl rfl PyProof.Rows.boot_tuple))) (lW (bG nQ (bN bC rfl ml PySem.boot_len (aA (pv 0) aD)) aE (bK _))))) (aF (aX iB)) bH)
  (aC (dW PassesOwn.never rfl (Vi (pv 0)) (aZ (i:=2) Le.nd rfl (Or.inl rfl))
   (aF (cA (PW.pt (nT (fV (dU (gH (i:=2) rfl (Or.inl rfl) b.isi b.int rfl rfl PyProof.Rows.boot_int))) (lW (dU (gH (i:=2) rfl (Or.inl rfl) b.isi b.bool rfl rfl PyProof.Rows.boot_bool))))) (aF (aX iB)) bH)))
  (aF (aX (iK (xM hu) (pv 0) (pv 1) (bK _)))))),?_⟩
 refine⟨_,_,true,rfl,.tup fa,rfl,_,rfl,eY ⟨_,rfl,a,_,rfl,.inr fa,rfl,_,rfl,eY ?_⟩⟩;refine⟨_,rfl,a,rfl,⟨_,fa⟩,?_⟩;refine Pu (xs:=[.int p.1,.int p.2]) (fun i σ H'=>H'=H/\∃z,σ=[some (.ref a),some (.ref d),z]) ⟨rfl,none,rfl⟩ (fun i σ H' _ h=>by rw[h.1];exact fa) ?_ ?_
 ·rintro i x σ H' hx ⟨rfl,z,rfl⟩;have hint:∃j,x=.int j:=by
   match i,hx with
   |0,h=>exact⟨p.1,by simpa using h.symm⟩
   |1,h=>exact⟨p.2,by simpa using h.symm⟩
   |n+2,h=>simp at h
  obtain⟨j,rfl⟩:=hint;refine⟨_,_,true,rfl,.of (.int j),rfl,_,rfl,eY ⟨_,_,false,rfl,.of (.int j),(by with_unfolding_all rfl),_,rfl,eY ⟨rfl,_,rfl⟩⟩⟩
 ·rintro σ H' ⟨rfl,z,rfl⟩;refine⟨_,rfl,_,rfl,xD fa fd' ?_⟩;show Q (.bl (decide (p=p))) H';rw[decide_eq_true rfl];exact q
def Gp (CN:Addr)(K:Frag):Sp:=fun vs H Q _=>∃(m:Int) (r:Addr) (us:List V) (ds:List RD),vs=[.int m,.ref r]/\1<=m/\m<=20/\SqL K H r us/\Rts K H us ds/\(∀d∈ds,Ho m d)/\ds.length<=40/\∀n l H',aV H H'->H l=none->fC CN K H' n l m ds->Q (.ref n) H'
abbrev Ec:Stmt:=top 88
theorem yP:aQ ["_law_many","_law_rows","_law_net_here","_law_row"] ["_law_many","_law_rows"] (aI Ec):=sK9 rfl rfl rfl rfl (by decide +kernel)
theorem Op {dV:Value}(F:aY K "_law_net" "_law_net" Ec dV f fd){CN:Addr}(NTx:NT K mg CN){gAd:Addr}{gdAd:FuncData}(GAd:aL P w K mg base CX0 5 gAd gdAd ["self","row"] (Up CN K CK))(bAd:aM K gdAd ["self","row"] [])(mAd:gL K CN "add" gAd){gNI:Addr}{gdNI:FuncData}(GNI:aL P w K mg base CX0 2 gNI gdNI ["self","many"] (Fb CN))(bNI:aM K gdNI ["self","many"] [])(MN:Mk K CN gNI)(G1:aL P w K mg base CX0 3 g1 gd1 ["told"] (tI K CK))(b1:aM K gd1 ["told"] [])(k1:kI9 K g1)(m1:mI9 mg "row_of" g1) :
  aL P w K mg base CX 6 f fd ["_law_many","_law_rows"] (Gp CN K):=by
 refine F.ok yP (fun vs H Q E h=>?_) fun cdv A outer s H vs Q E hr h=>?_
 ·obtain⟨_,_,_,_,rfl,_⟩:=h;rfl
 obtain⟨m,r,us,ds,rfl,hm1,hm20,hU,hR,hK,h40,q⟩:=h;have r3:=hr.mono (show 3<=5 by lia);refine⟨_,(aC (aR (i:=2) yP.nd rfl (Or.inl rfl) (pF MN GNI r3 rfl NTx.mN bNI .nil aK (aA (pv 0) aD)))
  (aC (dW PassesOwn.never rfl (cU (pv 1)) (aZ (i:=3) yP.nd rfl (Or.inl rfl))
   (aF (bY (Qh (pv 2) NTx.cl mAd GAd hr bAd .nil aK (aA (aH G1 r3 rfl m1 k1 b1 .nil aK (aA (pv 3) aD)) aD)))))
  (aF (aX (pv 2))))),?_⟩
 have lus:=hR.length;refine⟨_,rfl,fun n dx h1 h2 ne=>⟨n,dx,m,rfl,aB,hm1,hm20,fun l H2 nl keep hn hl=>⟨rfl,?_⟩⟩⟩;have s2:aV H H2:=fun b o e=>keep b o (by rw[aU (bF e h1),aU (bF e h2)];exact e) (bF e h1);have hl0:H l=none:=by
  cases o:H l with
  |none=>rfl
  |some o'=>
   have:(upd (upd H dx (.own n)) n (.ins CN dx [])) l=some o':=by rw[aU (bF o h1),aU (bF o h2)];exact o
   rw[this] at nl;cases nl
 refine⟨_,rfl,r,rfl,⟨_,s2.seq hU⟩,?_⟩;refine gP (xs:=us) (fun i σ H'=>aV H H'/\fC CN K H' n l m (ds.take i)/\∃z,σ=[some (.int m),some (.ref r),some (.ref n),z]) ⟨s2,⟨⟨dx,hn⟩,[],hl,.nil⟩,none,rfl⟩ (fun i σ H' _ h=>h.1.seq hU) ?_ ?_
 ·rintro i x σ H3 hx ⟨s3,N3,z,rfl⟩;have hi:i < ds.length:=by
   have:=(List.getElem?_eq_some_iff.mp hx).1;lia
  obtain⟨⟨k,u,v,p⟩,hd⟩:∃d,ds[i]?=some d:=⟨_,getElem?_eq_getElem hi⟩
  obtain⟨t,z',et,hT,fz⟩:=hR.at hd;have ex:x=.ref t:=by rw[et] at hx;exact(Option.some.inj hx).symm
  subst ex;obtain⟨dn,hn3⟩:=N3.ob;have lt:(ds.take i).length<=ds.length:=by rw[length_take];lia
  refine⟨_,rfl,n,dn,_,rfl,hn3,fQ _ _ (by decide +kernel) (by decide +kernel),_,rfl,t,_,_,_,_,rfl,s3.seqT hT,k,rfl,fun y H4 s4 ny rw=>?_⟩;refine⟨n,l,y,z',m,ds.take i,k,u,v,p,rfl,N3.same s4,rw,(s3.trans s4).fq fz,hK _ (mem_of_getElem? hd),by rw[length_take];lia,fun H5 x5 N5=>?_⟩;refine⟨fun b o e=>x5 _ _ ((s3.trans s4) _ _ e) (bF e hl0),?_,_,rfl⟩;rw[take_add_one,hd];exact N5
 ·rintro σ H3 ⟨s3,N3,z,rfl⟩;rw[lus,take_length] at N3;exact⟨_,rfl,q n l H3 s3 hl0 N3⟩
theorem Rts.take {K:Frag}{H:Hp}:∀{xs:List V} {ds:List RD} (n:Nat),Rts K H xs ds->Rts K H (xs.take n) (ds.take n)
 |_,_,0,_=>.nil
 |_,_,_+1,.nil=>.nil
 |_,_,n+1,.cons h f q=>.cons h f (Rts.take n q)
theorem Rts.drop {K:Frag}{H:Hp}:∀{xs:List V} {ds:List RD} (n:Nat),Rts K H xs ds->Rts K H (xs.drop n) (ds.drop n)
 |_,_,0,h=>h
 |_,_,_+1,.nil=>.nil
 |_,_,n+1,.cons _ _ q=>Rts.drop n q
def Tw (K:Frag):Sp:=fun vs H Q _=>∃(t r s a e:Addr) (c:Int) (k:Kd) (us ss zs:List V) (ds:List RD) (fs hs:List Q2) (m:Nat) (i j:Nat),vs=[.ref t,.int c,.str k.wd,.ref e]/\SqT K H t [.ref r,.ref s,.ref a]/\H r=some (.lst us)/\Rts K H us ds/\H s=some (.lst ss)/\Fqs K H ss fs/\fs.length=ds.length/\ds.length<=60/\r≠s/\SqL K H a zs/\Fqs K H zs hs/\HtK m hs/\SqT K H e [.int (i:Int),.int (j:Int)]/\i < m/\j < m/\
 ∀y us' ss' (d:RD) (p:Q2) H',gS r s H H'->H' r=some (.lst us')->Rts K H' us' (ds.take y++d :: ds.drop y)->H' s=some (.lst ss')->Fqs K H' ss' (fs.take y++p :: fs.drop y)->y<=ds.length->d.1=k->d.2.1=(i:Int)->d.2.2.1=(j:Int)->(∀g,iZ m hs (g,d,p))->Q .non H'
abbrev Xl:Stmt:=top 89
theorem kK:aQ ["_law_net_here","_law_cell","_law_word","_law_ends","_law_rows","_law_streams","_law_heights","_law_fall","_law_size_here","_law_stream","_law_at"] ["_law_net_here","_law_cell","_law_word","_law_ends"] (aI Xl):=sK9 rfl rfl rfl rfl (by decide +kernel)
theorem Vx {dV:Value}(F:aY K "_law_put" "_law_put" Xl dV f fd)(ml:mg "len"=none)(G1:aL P w K mg base CX0 2 g1 gd1 ["_law_one","_law_other"] (gC K Mq.minus))(b1:aM K gd1 ["_law_one","_law_other"] [])(k1:kI9 K g1)(m1:mI9 mg "_law_less" g1)(G2:aL P w K mg base CX0 2 g2 gd2 ["_law_cell","_law_turn"] pQ)(b2:aM K gd2 ["_law_cell","_law_turn"] [])(k2:kI9 K g2)(m2:mI9 mg "_law_number" g2)(G3:aL P w K mg base CX0 2 g3 gd3 ["_law_cell"] Kz)(b3:aM K gd3 ["_law_cell"] [])(k3:kI9 K g3)(m3:mI9 mg "_law_size" g3)(G4:aL P w K mg base CX0 2 g4 gd4 ["_law_one","_law_other"] (rZ K))(b4:aM K gd4 ["_law_one","_law_other"] [])(k4:kI9 K g4)(m4:mI9 mg "_law_by" g4)(G5:aL P w K mg base CX0 1 g5 gd5 ["_law_cell","_law_turn","_law_many"] tP)(b5:aM K gd5 ["_law_cell","_law_turn","_law_many"] [])(k5:kI9 K g5)(m5:mI9 mg "_law_mix" g5) :
  aL P w K mg base CX 3 f fd ["_law_net_here","_law_cell","_law_word","_law_ends"] (Tw K):=by
 refine F.ok kK (fun vs H Q E h=>?_) fun cdv A outer s H vs Q E hr h=>?_
 ·obtain⟨_,_,_,_,_,_,_,_,_,_,_,_,_,_,_,_,rfl,_⟩:=h;rfl
 obtain⟨t,r,s,a,e,c,k,us,ss,zs,ds,fs,hs,m,i,j,rfl,hT,er,hR,es,hF,lfs,h60,nrs,hA,hZ,hk,he,hi',hj',q⟩:=h;have r1:=hr.mono (show 1<=2 by lia);have r2:=hr;refine⟨_,(aC (gV (pv 0) (gK rfl (bO (aZ (i:=4) kK.nd rfl (Or.inl rfl)) (bO (aZ (i:=5) kK.nd rfl (Or.inl rfl)) (bO (aZ (i:=6) kK.nd rfl (Or.inl rfl)) fH)))))
  (aC (aR (i:=7) kK.nd rfl (Or.inl rfl) (aH G1 r2 rfl m1 k1 b1 .nil aK (aA (aS bQ (pv 6) (aS aW (pv 3) aE (fun _ _=>rfl)) (fun _ _=>rfl)) (aA (aS bQ (pv 6) (aS aW (pv 3) aE (fun _ _=>rfl)) (fun _ _=>rfl)) aD))))
  (aC (aR (i:=8) kK.nd rfl (Or.inl rfl) (aH G2 r2 rfl m2 k2 b2 .nil aK (aA (pv 1) (aA aE aD))))
  (aC (aR (i:=9) kK.nd rfl (Or.inl rfl) (aH G2 r2 rfl m2 k2 b2 .nil aK (aA (pv 1) (aA aE aD))))
  (aC (cA (bG eZ (pv 2) cL (bK _)) (aC (aR (i:=8) kK.nd rfl (Or.inl rfl) (aH G3 r2 rfl m3 k3 b3 .nil aK (aA (pv 1) aD)))
  (aF (aR (i:=9) kK.nd rfl (Or.inl rfl) (aH G4 r2 rfl m4 k4 b4 .nil aK (aA (pv 7) (aA (pv 8) aD)))))) bH)
  (aC (cA (bG eZ (pv 2) cL (bK _)) (aF (aR (i:=8) kK.nd rfl (Or.inl rfl) (pv 7))) bH)
  (aC (cA (bG eZ (pv 2) cL (bK _)) (aF (aR (i:=9) kK.nd rfl (Or.inl rfl) (pv 8))) bH)
  (aC (aR (i:=10) kK.nd rfl (Or.inl rfl) (aH G5 r1 rfl m5 k5 b5 .nil aK (aA (pv 1) (aA aE (aA (aT cW (bN bC rfl ml PySem.boot_len (aA (pv 4) aD)) aE) aD)))))
  (aC (bY (jP PySem.F.plainAttrs_list PySem.F.slot_list_insert PySem.F.type_list_insert mL (pv 4) (aA (pv 10) (aA (dH (aA (pv 2) (aA (aS aW (pv 3) aE (fun _ _=>rfl)) (aA (aS aW (pv 3) aE (fun _ _=>rfl)) (aA (pv 8) aD))))) aD))))
  (aF (bY (jP PySem.F.plainAttrs_list PySem.F.slot_list_insert PySem.F.type_list_insert mL (pv 5) (aA (pv 10) (aA (pv 9) aD)))))))))))))),?_⟩
 have lu:=hR.length;have ls:=hF.length;have lz:=hZ.length;have lh:=hk.l;have pt:cK (m:Int) (i:Int) (j:Int):=⟨by lia,by lia,by lia,by lia⟩
 obtain⟨ui,ei,fi⟩:=hZ.at (jN (ps:=hs) (j:=i) (by lia));obtain⟨uj,ej,fj⟩:=hZ.at (jN (ps:=hs) (j:=j) (by lia));have hi:=hk.at hi';have hj:=hk.at hj';have bi:=(Ch hi.1 hi.2 (b:=43) (by decide)).1;have bj:=(Ch hj.1 hj.2 (b:=43) (by decide)).1;refine⟨_,rfl,t,_,rfl,hT,rfl,_,_,rfl,_,_,rfl,_,_,rfl,rfl,?_⟩
 try dsimp only
 refine gD (fun σ' H'=>aV H H'/\∃z7:Addr,σ'=[some (.ref t),some (.int c),some (.str k.wd),some (.ref e),some (.ref r),some (.ref s),some (.ref a),some (.ref z7),none,none,none]/\Fq K H' z7 (flF hs (k,(i:Int),(j:Int),(0,1)))) (fun X hX=>?_) ?_
 ·refine⟨_,rfl,_,rfl,e,_,_,_,rfl,rfl,he,rfl,a,zs,_,_,rfl,rfl,hA,bU ei,?_⟩;refine⟨_,rfl,_,rfl,e,_,_,_,rfl,rfl,he,rfl,a,zs,_,_,rfl,rfl,hA,bU ej,?_⟩;refine⟨ui,uj,_,_,58,58,rfl,fi,fj,hi.1.pos,hj.1.pos,bi,bj,by lia,fun z7 H1 s1 e1=>?_⟩;refine hX _ _ ⟨s1,z7,rfl,?_⟩;show Fq K H1 z7 (Mq.minus (hs.getD (i:Int).toNat (0,1)) (hs.getD (j:Int).toNat (0,1)));rw[Int.toNat_natCast,Int.toNat_natCast];exact Fq.of e1
 rintro σ1 H1 ⟨s1,z7,rfl,f7⟩;have fall:∀(k':Kd) (q:Q2),flF hs (k',(i:Int),(j:Int),q)=flF hs (k,(i:Int),(j:Int),(0,1)):=fun _ _=>rfl;have fl:=hk.fall (d:=(k,(i:Int),(j:Int),(0,1))) pt;have fb:=hk.fbd (d:=(k,(i:Int),(j:Int),(0,1))) pt;refine qd3 (fun σ' H'=>aV H1 H'/\∃(z f:Addr) (p q:Q2),σ'=[some (.ref t),some (.int c),some (.str k.wd),some (.ref e),some (.ref r),some (.ref s),some (.ref a),some (.ref z7),some (.ref z),some (.ref f),none]/\Fq K H' z p/\Fq K H' f q/\∀g,iZ m hs (g,(k,(i:Int),(j:Int),p),q)) (fun X hX=>?_) ?_
 ·refine⟨_,rfl,c,3,rfl,by decide,by decide,fun p1 n1 z1 H2 s2 e2=>?_⟩;refine⟨_,rfl,c,5,rfl,by decide,by decide,fun p2 n2 z2 H3 s3 e3=>?_⟩
  cases k with
  |pc=>
   refine⟨_,rfl,rfl,_,rfl,L2.ifT (by show decide (V.str Kd.pc.wd=V.str Kd.pc.wd)=true;rw[cT];rfl) ?_⟩;refine⟨_,rfl,c,rfl,fun p3 sz z3 H4 s4 e4=>?_⟩;have p0:=sz.p0;refine⟨_,rfl,_,rfl,z7,z3,_,p3,60,30,rfl,(s2.trans (s3.trans s4)).fq f7,Fq.of e4,fl.1.pos,sz.l.pos,p0,fb,sz.bd,by lia,fun z4 H5 s5 e5=>?_⟩;refine⟨_,rfl,rfl,_,rfl,L2.ifF (by show decide (V.str Kd.pc.wd=V.str Kd.ho.wd)=false;rw[cT];rfl) ?_⟩;refine⟨_,rfl,rfl,_,rfl,L2.ifF (by show decide (V.str Kd.pc.wd=V.str Kd.pu.wd)=false;rw[cT];rfl) ?_⟩;refine hX _ _ ⟨s2.trans (s3.trans (s4.trans s5)),z3,z4,p3,_,rfl,s5.fq (Fq.of e4),Fq.of e5,fun g=>⟨pt,fun _=>⟨sz,rfl⟩,(fun z=>by cases z),fun z=>by cases z⟩⟩
  |pu=>
   refine⟨_,rfl,rfl,_,rfl,L2.ifF (by show decide (V.str Kd.pu.wd=V.str Kd.pc.wd)=false;rw[cT];rfl) ?_⟩;refine⟨_,rfl,rfl,_,rfl,L2.ifF (by show decide (V.str Kd.pu.wd=V.str Kd.ho.wd)=false;rw[cT];rfl) ?_⟩;refine⟨_,rfl,rfl,_,rfl,L2.ifT (by show decide (V.str Kd.pu.wd=V.str Kd.pu.wd)=true;rw[cT];rfl) ?_⟩;refine⟨_,rfl,?_⟩;refine hX _ _ ⟨s2.trans s3,z1,z1,p1,p1,rfl,s3.fq (Fq.of e2),s3.fq (Fq.of e2),fun g=>⟨pt,(fun z=>by cases z),fun _=>⟨rfl,n1⟩,fun z=>by cases z⟩⟩
  |ho=>
   refine⟨_,rfl,rfl,_,rfl,L2.ifF (by show decide (V.str Kd.ho.wd=V.str Kd.pc.wd)=false;rw[cT];rfl) ?_⟩;refine⟨_,rfl,rfl,_,rfl,L2.ifT (by show decide (V.str Kd.ho.wd=V.str Kd.ho.wd)=true;rw[cT];rfl) ?_⟩;refine⟨_,rfl,?_⟩;refine⟨_,rfl,rfl,_,rfl,L2.ifF (by show decide (V.str Kd.ho.wd=V.str Kd.pu.wd)=false;rw[cT];rfl) ?_⟩;refine hX _ _ ⟨s2.trans s3,z7,z2,_,p2,rfl,(s2.trans s3).fq f7,Fq.of e3,fun g=>⟨pt,(fun z=>by cases z),(fun z=>by cases z),fun _=>⟨rfl,n2⟩⟩⟩
 rintro σ2 H2 ⟨s2,z,f',p,q',rfl,fz,ff,en⟩;have s02:=s1.trans s2;have er2:=s02 _ _ er;have es2:=s02 _ _ es;have he2:=s02.seqT he;have hR2:=hR.same s02;have hF2:=hF.same s02;refine gD (fun σ' H'=>aV H2 H'/\∃y:Nat,y<=us.length/\σ'=[some (.ref t),some (.int c),some (.str k.wd),some (.ref e),some (.ref r),some (.ref s),some (.ref a),some (.ref z7),some (.ref z),some (.ref f'),some (.int (y:Int))]) (fun X hX=>?_) ?_
 ·refine⟨_,rfl,_,rfl,r,us,rfl,.inl (SqL.of er2),_,_,rfl,rfl,c,8,_,rfl,by decide,by decide,by lia,fun y' H3 y0 y1 s3=>?_⟩;obtain⟨y,rfl⟩:∃y:Nat,y'=(y:Int):=⟨y'.toNat,by lia⟩
  exact hX _ _ ⟨s3,y,by lia,rfl⟩
 rintro σ3 H3 ⟨s3,y,hy,rfl⟩;have er3:=s3 _ _ er2;have es3:=s3 _ _ es2;refine⟨_,rfl,.inl ⟨rfl,_,SqL.of er3⟩,_,rfl,_,rfl,_,rfl,e,_,_,_,rfl,rfl,s3.seqT he2,rfl,_,rfl,e,_,_,_,rfl,rfl,s3.seqT he2,rfl,_,rfl,zl9 4,fun w hw=>?_⟩;have s4:=aG hw (.tup [.str k.wd,.int (i:Int),.int (j:Int),.ref z]);have e4:SqT K (upd H3 w (.tup [.str k.wd,.int (i:Int),.int (j:Int),.ref z])) w [.str k.wd,.int (i:Int),.int (j:Int),.ref z]:=SqT.of aB;generalize upd H3 w (.tup [.str k.wd,.int (i:Int),.int (j:Int),.ref z])=H4 at s4 e4 ⊢;have er4:=s4 _ _ er3;have es4:=s4 _ _ es3;have s24:=s3.trans s4;refine⟨r,us,y,_,.ref w,rfl,rfl,rfl,by lia,er4,bA (by lia),?_⟩;have nsr:s≠r:=Ne.symm nrs;have xr:upd H4 r (.lst (us.take y++.ref w :: us.drop y)) s=some (.lst ss):=by rw[aU nsr];exact es4
 have R4:Rts K (upd H4 r (.lst (us.take y++.ref w :: us.drop y))) (us.take y++.ref w :: us.drop y) (ds.take y++(k,(i:Int),(j:Int),p) :: ds.drop y):=Rts.upd er4 (((Rts.take y hR2).same s24).app (.cons e4 (s24.fq fz) ((Rts.drop y hR2).same s24)));have F4:Fqs K (upd H4 r (.lst (us.take y++.ref w :: us.drop y))) ss fs:=(hF2.same s24).upd er4;have f4:Fq K (upd H4 r (.lst (us.take y++.ref w :: us.drop y))) f' q':=SqT.upd (s24.fq ff) er4;have e5:upd H4 r (.lst (us.take y++.ref w :: us.drop y)) r=some (.lst (us.take y++.ref w :: us.drop y)):=aB;have sx:∀b o,H b=some o->b≠r->upd H4 r (.lst (us.take y++.ref w :: us.drop y)) b=some o:=fun b o hb nb=>by rw[aU nb];exact s24 _ _ (s02 _ _ hb)
 generalize upd H4 r (.lst (us.take y++.ref w :: us.drop y))=H5 at xr R4 F4 f4 e5 sx ⊢;refine⟨_,rfl,.inl ⟨rfl,_,SqL.of xr⟩,_,rfl,_,rfl,s,ss,y,_,.ref f',rfl,rfl,rfl,by lia,xr,bA (by lia),?_⟩;refine q y _ _ (k,(i:Int),(j:Int),p) q' _ (fun b o hb nb1 nb2=>by rw[aU nb2];exact sx b o hb nb1) (by rw[aU nrs];exact e5) (Rts.upd xr R4) aB ?_ (by lia) rfl rfl rfl en;exact((Fqs.take y F4).app (.cons f4 (Fqs.drop y F4))).upd xr
def Nx (K:Frag):Sp:=fun vs H Q _=>∃(t r s a:Addr) (c:Int) (us ss zs:List V) (E:List Ez) (hs:List Q2) (m w:Nat),vs=[.ref t,.int c]/\SqT K H t [.ref r,.ref s,.ref a]/\H r=some (.lst us)/\Rts K H us (rwZ E)/\H s=some (.lst ss)/\Fqs K H ss (E.map (·.2.2))/\r≠s/\SqL K H a zs/\a≠r/\a≠s/\zs.length=m/\m<=5/\HtK m hs/\Drz m w m hs E/\E.length<=16/\
 ∀us' ss' (E':List Ez) H',gS r s H H'->H' r=some (.lst us')->Rts K H' us' (rwZ E')->H' s=some (.lst ss')->Fqs K H' ss' (E'.map (·.2.2))->Bal m w (LZ E) hs (bL (rwZ E)) E' 4->E'.length<=E.length+4->(∀x,1<=x->x < m->ouR x (prZ E')=0)->Q .non H'
theorem Fqs.getAt {K:Frag}{H:Hp}{xs:List V}{ps:List Q2}(h:Fqs K H xs ps){j:Nat}(hj:j < ps.length):∃u,xs[j]?=some (.ref u)/\Fq K H u (ps.getD j (0,1)):=h.at (jN hj)
abbrev Ni:Stmt:=top 90
theorem kF:aQ ["_law_net_here","_law_cell","_law_rows","_law_streams","_law_heights","_law_left","_law_row","_law_stream","_law_point","_law_at"] ["_law_net_here","_law_cell"] (aI Ni):=sK9 rfl rfl rfl rfl (by decide +kernel)
theorem Qw {dV:Value}(F:aY K "_law_balanced" "_law_balanced" Ni dV f fd)(ml:mg "len"=none)(mr:mg "range"=none)(mz:mg "zip"=none)(G1:aL P w K mg base CX0 2 g1 gd1 ["_law_one","_law_other"] (gC K Mq.plus))(b1:aM K gd1 ["_law_one","_law_other"] [])(k1:kI9 K g1)(m1:mI9 mg "_law_plus" g1)(G2:aL P w K mg base CX0 2 g2 gd2 ["_law_one","_law_other"] (gC K Mq.minus))(b2:aM K gd2 ["_law_one","_law_other"] [])(k2:kI9 K g2)(m2:mI9 mg "_law_less" g2)(G3:aL P w K mg base CX0 1 g3 gd3 ["_law_cell","_law_turn","_law_many"] tP)(b3:aM K gd3 ["_law_cell","_law_turn","_law_many"] [])(k3:kI9 K g3)(m3:mI9 mg "_law_mix" g3)(G4:aL P w K mg base CX0 1 g4 gd4 ["_law_cell","_law_k"] xF)(b4:aM K gd4 ["_law_cell","_law_k"] [])(k4:kI9 K g4)(m4:mI9 mg "_law_part" g4) :
  aL P w K mg base CX 3 f fd ["_law_net_here","_law_cell"] (Nx K):=by
 refine F.ok kF (fun vs H Q E h=>?_) fun cdv A outer s H vs Q E hr h=>?_
 ·obtain⟨_,_,_,_,_,_,_,_,_,_,_,_,rfl,_⟩:=h;rfl
 obtain⟨t,r,s,a,c,us,ss,zs,E,hs,m,w,rfl,hT,er,hR,es,hF,nrs,hA,nar,nas,hz,hm5,hk,dz,h16,q⟩:=h;have hu:=hr.units;have r1:=hr.mono (show 1<=2 by lia);have r2:=hr;refine⟨_,(aC (gV (pv 0) (gK rfl (bO (aZ (i:=2) kF.nd rfl (Or.inl rfl)) (bO (aZ (i:=3) kF.nd rfl (Or.inl rfl)) (bO (aZ (i:=4) kF.nd rfl (Or.inl rfl)) fH)))))
  (aC (aR (i:=5) kF.nd rfl (Or.inl rfl) (aT qM (cZ (aA (dH (aA aE (aA aE aD))) aD)) (bN bC rfl ml PySem.boot_len (aA (pv 4) aD))))
  (aC (dW PassesOwn.never rfl (nU rfl mz rfl (aA (pv 2) (aA (pv 3) aD))) (gK rfl (bO (aZ (i:=6) kF.nd rfl (Or.inl rfl)) (bO (aZ (i:=7) kF.nd rfl (Or.inl rfl)) fH)))
   (aC (gV (aH G1 r2 rfl m1 k1 b1 .nil aK (aA (aS bQ (pv 5) (aS aW (pv 6) aE (fun _ _=>rfl)) (fun _ _=>rfl)) (aA (pv 7) aD))) (jI (pv 5) (aS aW (pv 6) aE (fun _ _=>rfl)) gB))
  (aF (gV (aH G2 r2 rfl m2 k2 b2 .nil aK (aA (aS bQ (pv 5) (aS aW (pv 6) aE (fun _ _=>rfl)) (fun _ _=>rfl)) (aA (pv 7) aD))) (jI (pv 5) (aS aW (pv 6) aE (fun _ _=>rfl)) gB)))))
  (aF (dW PassesOwn.never rfl (pU rfl mr (aA aE (aA (bN bC rfl ml PySem.boot_len (aA (pv 4) aD)) aD))) (aZ (i:=8) kF.nd rfl (Or.inl rfl))
   (aF (cA (bG (Nw hu) (aS bQ (pv 5) (pv 8) (fun _ _=>rfl)) (dH (aA aE (aA aE aD))) (bK _)) (aC (aR (i:=9) kF.nd rfl (Or.inl rfl) (aH G3 r1 rfl m3 k3 b3 .nil aK (aA (aH G4 r1 rfl m4 k4 b4 .nil aK (aA (pv 1) (aA (pv 8) aD))) (aA aE (aA (aT cW (bN bC rfl ml PySem.boot_len (aA (pv 2) aD)) aE) aD)))))
  (aC (bY (jP PySem.F.plainAttrs_list PySem.F.slot_list_insert PySem.F.type_list_insert mL (pv 2) (aA (pv 9) (aA (dH (aA cL (aA aE (aA (pv 8) (aA (aS bQ (pv 5) (pv 8) (fun _ _=>rfl)) aD))))) aD))))
  (aF (bY (jP PySem.F.plainAttrs_list PySem.F.slot_list_insert PySem.F.type_list_insert mL (pv 3) (aA (pv 9) (aA (aS bQ (pv 5) (pv 8) (fun _ _=>rfl)) aD))))))) bH))))))),?_⟩
 have lu:=hR.length;have ls:=hF.length;rw[length_map] at lu ls;have m1:=hk.m1;have dok:∀e∈prZ E,cK (m:Int) e.1.2.1 e.1.2.2.1/\Low e.2/\Bd 100 e.2:=fun e he=>by
  obtain⟨x,hx,rfl⟩:=mem_map.mp he;exact⟨(dz.en x hx).pt,(dz.en x hx).low hk,(dz.en x hx).bd hk⟩
 have lD:(prZ E).length=E.length:=length_map ..;refine⟨_,rfl,t,_,rfl,hT,rfl,_,_,rfl,_,_,rfl,_,_,rfl,rfl,?_⟩
 try dsimp only
 refine gD (fun σ' H'=>aV H H'/\∃(LL:Addr) (ls':List V),σ'=[some (.ref t),some (.int c),some (.ref r),some (.ref s),some (.ref a),some (.ref LL),none,none,none,none]/\H LL=none/\H' LL=some (.lst ls')/\Fqs K H' ls' (cX m ((prZ E).take 0))) (fun X hX=>?_) ?_
 ·refine⟨zl9 2,fun p hp=>?_⟩;have s4:=aG hp (.tup [.int 0,.int 1]);have e4:Fq K (upd H p (.tup [.int 0,.int 1])) p (0,1):=SqT.of aB;generalize upd H p (.tup [.int 0,.int 1])=H4 at s4 e4 ⊢;refine⟨zl9 1,fun l1 hl1=>?_⟩;have s5:=aG hl1 (.lst [.ref p]);have e5:upd H4 l1 (.lst [.ref p]) l1=some (.lst [.ref p]):=aB;generalize upd H4 l1 (.lst [.ref p])=H5 at s5 e5 ⊢;refine⟨_,rfl,a,zs,rfl,.inl ((s4.trans s5).seq hA),l1,(zs.length:Int),[.ref p],rfl,rfl,e5,by lia,by lia,?_,fun LL hLL=>?_⟩
  ·rw[Int.toNat_natCast,sizeLine_eq];simp only[length_cons,length_nil];lia
  rw[Int.toNat_natCast,iN,hz];have s6:=aG hLL (.lst (replicate m (.ref p)));exact hX _ _ ⟨s4.trans (s5.trans s6),LL,_,rfl,(s4.trans s5).free hLL,aB,iX ((s5.trans s6).fq e4) m⟩
 rintro σ1 H1 ⟨s1,LL,ls',rfl,nLL,eL,fL⟩;have nLr:LL≠r:=fun z=>by rw[z,er] at nLL;cases nLL
 have nLs:LL≠s:=fun z=>by rw[z,es] at nLL;cases nLL
 refine gD (fun σ' H'=>aV H H'/\∃(ls':List V) (z6 z7:Option V),σ'=[some (.ref t),some (.int c),some (.ref r),some (.ref s),some (.ref a),some (.ref LL),z6,z7,none,none]/\H' LL=some (.lst ls')/\Fqs K H' ls' (cX m (prZ E))) (fun X hX=>?_) ?_
 ·refine⟨_,rfl,_,rfl,r,s,rfl,⟨_,SqL.of (s1 _ _ er)⟩,⟨_,SqL.of (s1 _ _ es)⟩,?_⟩;refine rD (xs:=us) (ys:=ss) (fun i σ' H'=>aV H H'/\∃(ls':List V) (z6 z7:Option V),σ'=[some (.ref t),some (.int c),some (.ref r),some (.ref s),some (.ref a),some (.ref LL),z6,z7,none,none]/\H' LL=some (.lst ls')/\Fqs K H' ls' (cX m ((prZ E).take i))) ⟨s1,ls',_,_,rfl,eL,fL⟩ (fun i σ' H' _ h=>⟨SqL.of (h.1 _ _ er),SqL.of (h.1 _ _ es)⟩) ?_ ?_
  ·rintro i x y σ' H2 T1 ex ey ⟨s2,ls2,z6,z7,rfl,eL2,fL2⟩ hTn;have hi:i < E.length:=by have:=(List.getElem?_eq_some_iff.mp ex).1;lia
   have hE:E[i]?=some E[i]:=getElem?_eq_getElem hi;have hD:(prZ E)[i]?=some E[i].2:=by show (map _ E)[i]?=_;rw[getElem?_map,hE];rfl
   obtain⟨w,z,ew,hw,fz⟩:=hR.at (show (rwZ E)[i]?=some E[i].2.1 by show (map _ E)[i]?=_;rw[getElem?_map,hE];rfl);obtain⟨v,q',rfl,eq,fv⟩:=hF.get ey;rw[getElem?_map,hE] at eq
   cases eq
   have fv:Fq K H v E[i].2.2:=fv;have exx:x=.ref w:=by rw[ew] at ex;exact(Option.some.inj ex).symm
   subst exx;obtain⟨pt,lo,bd⟩:=dok E[i].2 (mem_of_getElem? hD);have LO:=xH dok i (by lia);obtain⟨L1,L2'⟩:=LO.step pt lo bd;obtain⟨i0,i1,j0,j1⟩:=pt;have sT:=aG hTn (.tup [.ref w,.ref v]);refine⟨T1,_,rfl,SqT.of aB,rfl,_,_,rfl,_,_,rfl,rfl,?_⟩;generalize upd H2 T1 (.tup [.ref w,.ref v])=H3 at sT ⊢;rw[take_add_one,hD];show _;have eS:cX m ((prZ E).take i++[E[i].2])=vQ (cX m ((prZ E).take i)) E[i].2:=kI ..;have s03:=s2.trans sT;have eL3:=sT _ _ eL2;have fL3:=fL2.same sT;have hw3:=s03.seqT hw;have fv3:=s03.fq fv;generalize hg:cX m ((prZ E).take i)=lf at *
   generalize E[i].2=e at *
   obtain⟨sN,hsN⟩:∃sN:Nat,e.1.2.1=(sN:Int):=⟨e.1.2.1.toNat,by lia⟩
   obtain⟨gN,hgN⟩:∃gN:Nat,e.1.2.2.1=(gN:Int):=⟨e.1.2.2.1.toNat,by lia⟩
   have tS:e.1.2.1.toNat=sN:=by lia
   have tG:e.1.2.2.1.toNat=gN:=by lia
   rw[hsN,hgN] at hw3;have lfl:=LO.l;obtain⟨u1,eu1,fu1⟩:=Fqs.getAt fL3 (j:=sN) (by lia);obtain⟨o1,o2,o3⟩:=LO.o sN (by lia);have lls:=fL3.length;refine gD (fun σ' H'=>aV H H'/\∃ls4:List V,σ'=[some (.ref t),some (.int c),some (.ref r),some (.ref s),some (.ref a),some (.ref LL),some (.ref w),some (.ref v),none,none]/\H' LL=some (.lst ls4)/\Fqs K H' ls4 (lf.set sN (Mq.plus (lf.getD sN (0,1)) e.2))) (fun X2 hX2=>?_) ?_
   ·refine⟨_,rfl,_,rfl,w,_,_,_,rfl,rfl,hw3,rfl,LL,ls2,_,_,rfl,rfl,SqL.of eL3,bU eu1,_,rfl,?_⟩;refine⟨u1,v,_,_,1+202*i,100,rfl,fu1,fv3,o1.pos,lo.pos,o2,bd,by lia,fun u2 H4 s4 e4=>?_⟩;refine⟨_,rfl,_,rfl,w,_,_,_,rfl,rfl,s4.seqT hw3,rfl,LL,ls2,_,sN,rfl,rfl,s4 _ _ eL3,gZ (by lia),?_⟩;exact hX2 _ _ ⟨(s03.trans s4).change nLL,_,rfl,aB,(Fqs.set (Fq.of e4) sN (fL3.same s4)).upd (s4 _ _ eL3)⟩
   rintro σ4 H4 ⟨s4,ls4,rfl,eL4,fL4⟩;rw[tS] at L1;have l1l:=L1.l;obtain⟨u3,eu3,fu3⟩:=Fqs.getAt fL4 (j:=gN) (by lia);obtain⟨p1,p2,p3⟩:=L1.o gN (by lia);have lls4:=fL4.length;have hw4:SqT K H4 w [.str e.1.1.wd,.int (sN:Int),.int (gN:Int),.ref z]:=by
    have:=s4.seqT hw
    rwa [hsN,hgN] at this
   refine⟨_,rfl,_,rfl,w,_,_,_,rfl,rfl,hw4,rfl,LL,ls4,_,_,rfl,rfl,SqL.of eL4,bU eu3,_,rfl,?_⟩;refine⟨u3,v,_,_,1+202*i+101,100,rfl,fu3,s4.fq fv,p1.pos,lo.pos,p2,bd,by lia,fun u5 H5 s5 e5=>?_⟩;refine⟨_,rfl,_,rfl,w,_,_,_,rfl,rfl,s5.seqT hw4,rfl,LL,ls4,_,gN,rfl,rfl,s5 _ _ eL4,gZ (by lia),(s4.trans s5).change nLL,_,_,_,rfl,aB,?_⟩;show Fqs K _ _ (cX m ((prZ E).take i++[e]));rw[eS];unfold vQ;rw[tS,tG];exact(Fqs.set (Fq.of e5) gN (fL4.same s5)).upd (s5 _ _ eL4)
  ·rintro σ' H2 ⟨s2,ls2,z6,z7,rfl,eL2,fL2⟩;rw[show min us.length ss.length=(prZ E).length by lia,take_length] at fL2;exact hX _ _ ⟨s2,ls2,z6,z7,rfl,eL2,fL2⟩
 rintro σ2 H2 ⟨s2,ls2,z6,z7,rfl,eL2,fL2⟩;have LO:=xH dok (prZ E).length (Nat.le_refl _);rw[take_length] at LO;have lfl:=LO.l;refine⟨_,rfl,a,zs,rfl,.inl (s2.seq hA),1,(zs.length:Int),rfl,by lia,?_⟩;have e0:=dz.bal hk;refine gR (lo:=1) (n:=((zs.length:Int) - 1).toNat) (fun i σ' H'=>gS r s H2 H'/\∃(us' ss':List V) (E':List Ez) (z8 z9:Option V),σ'=[some (.ref t),some (.int c),some (.ref r),some (.ref s),some (.ref a),some (.ref LL),z6,z7,z8,z9]/\H' r=some (.lst us')/\Rts K H' us' (rwZ E')/\H' s=some (.lst ss')/\Fqs K H' ss' (E'.map (·.2.2))/\Bal m w (LZ E) hs (bL (rwZ E)) E' i/\E'.length<=E.length+i/\∀x,1<=x->x < m->ouR x (prZ E')=if x<=i then 0 else ouR x (prZ E)) ⟨fun _ _ h _ _=>h,us,ss,E,_,_,rfl,s2 _ _ er,hR.same s2,s2 _ _ es,hF.same s2,e0,by lia,fun x x1 _=>by rw[if_neg (by lia)]⟩ ?_ ?_
 ·rintro i σ' H3 hi ⟨x3,us3,ss3,E3,z8,z9,rfl,er3,R3,es3,F3,B3,l3,b3⟩;obtain⟨pp,hpp⟩:∃pp:Nat,pp=i+1:=⟨_,rfl⟩
  have ek:(1:Int)+(i:Int)=(pp:Int):=by lia
  rw[ek];have ppm:pp < m:=by lia
  have eL3:=x3 _ _ eL2 nLr nLs;have lu3:=R3.length;have ls3:=F3.length;rw[length_map] at lu3 ls3;obtain⟨u1,eu1,_⟩:=Fqs.getAt fL2 (j:=pp) (by lia);obtain⟨o1,o2,o3⟩:=LO.o pp ppm;have fu1:Fq K H3 u1 ((cX m (prZ E)).getD pp (0,1)):=by
   obtain⟨u1',eu1',f⟩:=Fqs.getAt fL2 (j:=pp) (by lia);rw[eu1] at eu1'
   cases eu1'
   exact gS.seqT (s2 _ _ er) (s2 _ _ es) x3 f
  generalize (cX m (prZ E)).getD pp (0,1)=lf at o1 o2 o3 fu1;refine⟨_,rfl,_,rfl,LL,ls2,_,_,rfl,rfl,SqL.of eL3,bU eu1,zl9 2,fun p hp=>?_⟩;have s4:=aG hp (.tup [.int 0,.int 1]);have e4:Fq K (upd H3 p (.tup [.int 0,.int 1])) p (0,1):=SqT.of aB;generalize upd H3 p (.tup [.int 0,.int 1])=H4 at s4 e4 ⊢;refine xD (neg:=true) (s4.fq fu1) e4 ⟨_,rfl,?_⟩;have x4:gS r s H2 H4:=fun b o h n1 n2=>s4 _ _ (x3 b o h n1 n2)
  by_cases c0:lf=(0,1)
  ·refine L2.ifF (by rw[decide_eq_true c0];rfl) ?_;refine⟨x4,us3,ss3,E3,_,_,rfl,s4 _ _ er3,R3.same s4,s4 _ _ es3,F3.same s4,B3.up (by lia),by lia,fun x a1 a2=>?_⟩;rw[b3 x a1 a2]
   by_cases cx:x<=i
   ·rw[if_pos cx,if_pos (by lia)]
   ·rw[if_neg cx]
    by_cases cy:x<=i+1
    ·have:x=pp:=by lia
     rw[if_pos cy,this,<- o3,c0];exact kW
    ·rw[if_neg cy]
  ·refine L2.ifT (by rw[decide_eq_false c0];rfl) ?_;refine gD (fun σ' H'=>aV H4 H'/\∃y:Nat,y<=us3.length/\σ'=[some (.ref t),some (.int c),some (.ref r),some (.ref s),some (.ref a),some (.ref LL),z6,z7,some (.int (pp:Int)),some (.int (y:Int))]) (fun X hX=>?_) ?_
   ·refine⟨_,rfl,_,rfl,c,pp,rfl,by lia,by lia,fun pc=>?_⟩;refine⟨_,rfl,r,us3,rfl,.inl (SqL.of (s4 _ _ er3)),_,_,rfl,rfl,pc,8,_,rfl,by decide,by decide,by lia,fun y' H5 y0 y1 s5=>?_⟩;obtain⟨y,rfl⟩:∃y:Nat,y'=(y:Int):=⟨y'.toNat,by lia⟩
    exact hX _ _ ⟨s5,y,by lia,rfl⟩
   rintro σ5 H5 ⟨s5,y,hy,rfl⟩;have s35:=s4.trans s5;have er5:=s35 _ _ er3;have es5:=s35 _ _ es3;have eL5:=s35 _ _ eL3;have fu5:=s35.fq fu1;refine⟨_,rfl,.inl ⟨rfl,_,SqL.of er5⟩,_,rfl,_,rfl,_,rfl,_,rfl,LL,ls2,_,_,rfl,rfl,SqL.of eL5,bU eu1,zl9 4,fun w' hw'=>?_⟩;have s6:=aG hw' (.tup [.str "push",.int 0,.int (pp:Int),.ref u1]);have e6:SqT K (upd H5 w' (.tup [.str "push",.int 0,.int (pp:Int),.ref u1])) w' [.str Kd.pu.wd,.int 0,.int (pp:Int),.ref u1]:=SqT.of aB;generalize upd H5 w' (.tup [.str "push",.int 0,.int (pp:Int),.ref u1])=H6 at s6 e6 ⊢;have s36:=s35.trans s6;have er6:=s36 _ _ er3;have es6:=s36 _ _ es3;refine⟨r,us3,y,_,.ref w',rfl,rfl,rfl,by lia,er6,bA (by lia),?_⟩;have nsr:s≠r:=Ne.symm nrs;have xs7:upd H6 r (.lst (us3.take y++.ref w' :: us3.drop y)) s=some (.lst ss3):=by rw[aU nsr];exact es6
   have xL7:upd H6 r (.lst (us3.take y++.ref w' :: us3.drop y)) LL=some (.lst ls2):=by rw[aU nLr];exact s36 _ _ eL3
   have R7:Rts K (upd H6 r (.lst (us3.take y++.ref w' :: us3.drop y))) (us3.take y++.ref w' :: us3.drop y) ((rwZ E3).take y++(Kd.pu,(0:Int),(pp:Int),lf) :: (rwZ E3).drop y):=Rts.upd er6 (((Rts.take y R3).same s36).app (.cons e6 (s36.fq fu1) ((Rts.drop y R3).same s36)));have F7:Fqs K (upd H6 r (.lst (us3.take y++.ref w' :: us3.drop y))) ss3 (E3.map (·.2.2)):=(F3.same s36).upd er6;have f7:Fq K (upd H6 r (.lst (us3.take y++.ref w' :: us3.drop y))) u1 lf:=SqT.upd (s36.fq fu1) er6;have e7:upd H6 r (.lst (us3.take y++.ref w' :: us3.drop y)) r=some (.lst (us3.take y++.ref w' :: us3.drop y)):=aB;have sx:∀b o,H2 b=some o->b≠r->b≠s->upd H6 r (.lst (us3.take y++.ref w' :: us3.drop y)) b=some o:=fun b o hb nb ns=>by rw[aU nb];exact s36 _ _ (x3 b o hb nb ns)
   generalize upd H6 r (.lst (us3.take y++.ref w' :: us3.drop y))=H7 at xs7 xL7 R7 F7 f7 e7 sx ⊢;refine⟨_,rfl,.inl ⟨rfl,_,SqL.of xs7⟩,_,rfl,_,rfl,_,rfl,LL,ls2,_,_,rfl,rfl,SqL.of xL7,bU eu1,s,ss3,y,_,.ref u1,rfl,rfl,rfl,by lia,xs7,bA (by lia),?_⟩;have en:pL m (LZ E) hs (none,(Kd.pu,(0:Int),(pp:Int),lf),lf):=by
    refine⟨⟨by show (0:Int)<=0;lia,by show (0:Int) < m;lia,by show (0:Int)<=pp;lia,by show (pp:Int) < m;lia⟩,(fun z=>by cases z),fun _=>⟨rfl,o1,?_⟩,fun z=>by cases z⟩;show Mq.Fr (LZ E) (2 ^ 50) (Mq.val lf);rw[o3];exact Drz.ou dz.en hk h16 pp
   refine⟨fun b o hb n1 n2=>by rw[aU n2];exact sx b o hb n1 n2,_,_,E3.take y++(none,(Kd.pu,(0:Int),(pp:Int),lf),lf) :: E3.drop y,_,_,rfl,by rw[aU nrs];exact e7,?_,aB,?_,B3.ins en rfl rfl y,by rw[Xv];lia,fun x a1 a2=>?_⟩
   ·show Rts K _ _ (map (fun e:Ez=>e.2.1) _);rw[uR];exact Rts.upd xs7 R7
   ·rw[uR];exact((Fqs.take y F7).app (.cons f7 (Fqs.drop y F7))).upd xs7
   ·show ouR x (map (fun e:Ez=>e.2) _)=_;rw[uR];refine Eq.trans (Sd x (prZ E3) y _) ?_;rw[b3 x a1 a2];show (if x<=i then 0 else ouR x (prZ E))+dl (0:Int).toNat (pp:Int).toNat x*Mq.val lf=_;rw[o3,Int.toNat_natCast];unfold dl;rw[if_neg (show ¬(0:Int).toNat=x by show ¬0=x;lia)]
    by_cases cx:x<=i
    ·rw[if_pos cx,if_neg (show ¬pp=x by lia),if_pos (show x<=i+1 by lia)];grind
    ·rw[if_neg cx]
     by_cases cy:x<=i+1
     ·have:x=pp:=by lia
      subst this;rw[if_pos rfl,if_pos cy];grind
     ·rw[if_neg (show ¬pp=x by lia),if_neg cy];grind
 ·rintro σ' H3 ⟨x3,us3,ss3,E3,z8,z9,rfl,er3,R3,es3,F3,B3,l3,b3⟩;refine q us3 ss3 E3 H3 (fun b o hb n1 n2=>x3 _ _ (s2 _ _ hb) n1 n2) er3 R3 es3 F3 (B3.up (by lia)) (by lia) fun x a1 a2=>?_;rw[b3 x a1 a2,if_pos (by lia)]
theorem vI:(["_law_k","_law_cell"]:List Str).Nodup:=by decide +kernel
theorem uE:(["_law_one","_law_heights"]:List Str).Nodup:=by decide +kernel
structure N3 (K:Frag) (H:Hp) (t r s hA:Addr) (E:List Ez) (hs:List Q2):Prop where
 tp:SqT K H t [.ref r,.ref s,.ref hA]
 rw:∃us,H r=some (.lst us)/\Rts K H us (rwZ E)
 st:∃ss,H s=some (.lst ss)/\Fqs K H ss (E.map (·.2.2))
 ht:∃zs,H hA=some (.lst zs)/\Fqs K H zs hs
theorem N3.same {K:Frag}{H H':Hp}{t r s hA:Addr}{E:List Ez}{hs:List Q2}(x:aV H H')(n:N3 K H t r s hA E hs):N3 K H' t r s hA E hs:=by
 obtain⟨us,a,b⟩:=n.rw;obtain⟨ss,c,d⟩:=n.st;obtain⟨zs,e,f⟩:=n.ht;exact⟨x.seqT n.tp,⟨us,x _ _ a,b.same x⟩,⟨ss,x _ _ c,d.same x⟩,⟨zs,x _ _ e,f.same x⟩⟩
theorem Fqs.xx {K:Frag}{H H':Hp}{r s:Addr}{as bs:List V}(hr:H r=some (.lst as))(hs:H s=some (.lst bs))(x:gS r s H H'):∀{zs:List V} {ps:List Q2},Fqs K H zs ps->Fqs K H' zs ps
 |_,_,.nil=>.nil
 |_,_,.cons f q=>.cons (gS.seqT hr hs x f) (Fqs.xx hr hs x q)
theorem N3.put {K:Frag}{H H':Hp}{t r s hA:Addr}{E:List Ez}{hs:List Q2}{y:Nat}{us' ss':List V}{d:RD}{p:Q2}(n:N3 K H t r s hA E hs)(nhr:hA≠r)(nhs:hA≠s)(x:gS r s H H')(er:H' r=some (.lst us'))(R:Rts K H' us' ((rwZ E).take y++d :: (rwZ E).drop y))(es:H' s=some (.lst ss'))(F:Fqs K H' ss' ((E.map (·.2.2)).take y++p :: (E.map (·.2.2)).drop y))(g:Option (Nat × Nat)):N3 K H' t r s hA (E.take y++(g,d,p) :: E.drop y) hs:=by
 obtain⟨us,a,b⟩:=n.rw;obtain⟨ss,c,e⟩:=n.st;obtain⟨zs,f,h⟩:=n.ht;refine⟨gS.seqT a c x n.tp,⟨us',er,?_⟩,⟨ss',es,?_⟩,⟨zs,x _ _ f nhr nhs,Fqs.xx a c x h⟩⟩
 ·show Rts K H' us' (map (fun e:Ez=>e.2.1) _);rw[uR];exact R
 ·rw[uR];exact F
theorem Ph (k t m:Nat):Int.fmod ((k:Int)+(t:Int)) (m:Int)=(rot m t k:Int):=by
 unfold rot;rw[Int.fmod_eq_emod_of_nonneg _ (by lia)];simp
theorem qf0 {x:Int}(h0:0<=x)(h5:x < 3):∃k:Kd,k≠.pu/\atI [V.str "piece",.str "hold",.str "piece"] x=some (.str k.wd):=by
 have:x=0\/x=1\/x=2:=by lia
 rcases this with rfl | rfl | rfl
 ·exact⟨.pc,by decide,rfl⟩
 ·exact⟨.ho,by decide,rfl⟩
 ·exact⟨.pc,by decide,rfl⟩
theorem qc4 {x:Int}(h0:0<=x)(h5:x < 3):∃k:Kd,k≠.ho/\atI [V.str "piece",.str "push",.str "piece"] x=some (.str k.wd):=by
 have:x=0\/x=1\/x=2:=by lia
 rcases this with rfl | rfl | rfl
 ·exact⟨.pc,by decide,rfl⟩
 ·exact⟨.pu,by decide,rfl⟩
 ·exact⟨.pc,by decide,rfl⟩
theorem qc8 (xs:List V)(k:Nat):(kO xs (some 8) (some (8+(k:Int)))).length<=k:=by
 unfold kO;have h1:HT.sIx xs.length xs.length (some (8+(k:Int)))=min (8+k) xs.length:=by simp only[HT.sIx];split<;>lia
 have h2:HT.sIx xs.length 0 (some 8)=min 8 xs.length:=by simp[HT.sIx]
 rw[h1,h2,length_take,length_drop];lia
theorem qb5 {m t:Nat}(m1:1<=m)(tm:t < m):Hnk m t 1 []:=⟨m1,tm,(fun e he=>by cases he),nodup_nil,(fun k a b=>by lia),(fun p hp=>by cases hp),rfl⟩
theorem Fm:∀E:List Ez,(yZ E).length+bL (rwZ E)<=E.length
 | []=>Nat.le_refl _
 |e :: E=>by
  have ih:=Fm E;show (map _ (List.filter _ (e :: E))).length+bL (e.2.1 :: rwZ E)<=_;rw[dF,length_map,length_cons];have ih':(List.filter (fun e:Ez=>decide (e.2.1.1=.pc)) E).length+bL (rwZ E)<=E.length:=by
   have:=ih;unfold yZ at this
   rwa [length_map] at this
  unfold bV
  by_cases c:e.2.1.1=.pc
  ·rw[filter_cons_of_pos (by exact decide_eq_true c),length_cons,if_neg (by rw[c];exact fun z=>by cases z)];lia
  ·rw[filter_cons_of_neg (by simpa using c)];split<;>lia
theorem Xc (E:List Ez):bL (rwH (E.map skE))=bL (rwZ E):=by
 induction E with
 |nil=>rfl
 |cons e E ih=>
  show bL ((skE e).2 :: rwH (E.map skE))=bL (e.2.1 :: rwZ E);rw[dF,dF,ih];rfl
theorem Uw {m:Nat}{ps:List Q2}(m1:1<=m)(hl:ps.length=m)(ok:∀p∈ps,iA p):HtK m (ps.map fun p=>Mq.minus p (ps.getD 0 (0,1))):=by
 have o0:iA (ps.getD 0 (0,1)):=ok _ (mem_of_getElem? (jN (by lia)));refine⟨m1,by rw[length_map];exact hl,?_,fun p hp=>?_⟩
 ·rw[getD_eq_getElem?_getD,getElem?_map,jN (show 0 < ps.length by lia)];show Mq.minus (ps.getD 0 (0,1)) (ps.getD 0 (0,1))=(0,1)
  refine mH (dX o0.l.pos o0.l.pos) ⟨by decide,by decide⟩ ?_;rw[eV o0.l.pos o0.l.pos,kW];grind
 ·obtain⟨x,hx,rfl⟩:=mem_map.mp hp;have ox:=ok x hx;refine⟨dX ox.l.pos o0.l.pos,?_⟩;rw[eV ox.l.pos o0.l.pos,show ∀a b:Rat,a - b=a + -b from fun a b=>by grind];exact(ox.fr.add o0.fr.neg).mono (by decide)
def Kn (K:Frag):Sp:=fun vs H Q _=>∃(a:Addr) (ns:List Int) (m k:Nat),vs=[.ref a,.int (m:Int),.int (k:Int)]/\SqL K H a (ns.map V.int)/\ns.length<=63/\1<=m/\m<=5/\k<=12/\
 ∀(t r s hA:Addr) (E E':List Ez) (hs:List Q2) (w:Nat) H',aV H H'->H r=none->H s=none->H hA=none->N3 K H' t r s hA E' hs->HtK m hs->Drz m w m hs E->E.length<=4+k->Bal m w (LZ E) hs (bL (rwZ E)) E' 4->E'.length<=E.length+4->(∀x,1<=x->x < m->ouR x (prZ E')=0)->Q (.ref t) H'
abbrev Kw:Stmt:=top 91
theorem iF:aQ ["_law_script","_law_many","_law_most","_law_cell","_law_heights","_law_net_here","_law_turn","_law_k","_law_ends"] ["_law_script","_law_many","_law_most"] (aI Kw):=sK9 rfl rfl rfl rfl (by decide +kernel)
theorem Tg {dV:Value}(F:aY K "_law_answered" "_law_answered" Kw dV f fd)(mr:mg "range"=none)(G1:aL P w K mg base CX0 1 g1 gd1 ["_law_script","_law_k"] (Dc K))(b1:aM K gd1 ["_law_script","_law_k"] [])(k1:kI9 K g1)(m1:mI9 mg "_law_draw" g1)(G2:aL P w K mg base CX0 2 g2 gd2 ["_law_cell","_law_turn"] pQ)(b2:aM K gd2 ["_law_cell","_law_turn"] [])(k2:kI9 K g2)(m2:mI9 mg "_law_number" g2)(G3:aL P w K mg base CX0 1 g3 gd3 ["_law_cell","_law_k"] xF)(b3:aM K gd3 ["_law_cell","_law_k"] [])(k3:kI9 K g3)(m3:mI9 mg "_law_part" g3)(G4:aL P w K mg base CX0 2 g4 gd4 ["_law_one","_law_other"] (gC K Mq.minus))(b4:aM K gd4 ["_law_one","_law_other"] [])(k4:kI9 K g4)(m4:mI9 mg "_law_less" g4)(G5:aL P w K mg base CX0 1 g5 gd5 ["_law_cell","_law_turn","_law_many"] tP)(b5:aM K gd5 ["_law_cell","_law_turn","_law_many"] [])(k5:kI9 K g5)(m5:mI9 mg "_law_mix" g5)(G6:aL P w K mg base CX0 3 g6 gd6 ["_law_net_here","_law_cell","_law_word","_law_ends"] (Tw K))(b6:aM K gd6 ["_law_net_here","_law_cell","_law_word","_law_ends"] [])(k6:kI9 K g6)(m6:mI9 mg "_law_put" g6)(G7:aL P w K mg base CX0 3 g7 gd7 ["_law_net_here","_law_cell"] (Nx K))(b7:aM K gd7 ["_law_net_here","_law_cell"] [])(k7:kI9 K g7)(m7:mI9 mg "_law_balanced" g7) :
  aL P w K mg base CX 4 f fd ["_law_script","_law_many","_law_most"] (Kn K):=by
 refine F.ok iF (fun vs H Q E h=>?_) fun cdv A outer s H vs Q E hr h=>?_
 ·obtain⟨_,_,_,_,rfl,_⟩:=h;rfl
 obtain⟨a,ns,m,k,rfl,hS,h63,hm1,hm5,hk12,q⟩:=h;have r1:=hr.mono (show 1<=3 by lia);have r2:=hr.mono (show 2<=3 by lia);have r3:=hr;refine⟨_,(aC (aR (i:=3) iF.nd rfl (Or.inr rfl) (aH G1 r1 rfl m1 k1 b1 .nil aK (aA (pv 0) (aA aE aD))))
  (aC (aR (i:=4) iF.nd rfl (Or.inr rfl) (eU (nl:=1) (fr:=[3]) (Nc:=["_law_k","_law_cell"]) (cl:=[("_law_cell",s.heap.objs.size+1)]) rfl ⟨rfl,rfl,by decide +kernel,by decide +kernel,(dG rfl (jU)),eP rfl,rfl,fun i n h=>match i,h with | 0,h=>by cases h;exact⟨3,rfl,rfl,rfl,rfl,.inl rfl⟩ | k+1,h=>by rw[show 1+(k+1)=k+2 by lia] at h;cases h⟩
    (gW rfl mr (aA (pv 1) aD)) (fun C s3 H3 fp pins=>(aZ (i:=0) vI rfl (Or.inl rfl))) (fun C s3 H3 fp pins=>dL)
    (fun C s3 H3 fp pins=>(aH G2 r2 rfl m2 k2 b2 .nil aK (aA (aH G3 r1 rfl m3 k3 b3 .nil aK (aA (pv 1) (aA (pv 0) aD))) (aA aE aD))))))
  (aC (aR (i:=4) iF.nd rfl (Or.inr rfl) (eU (nl:=1) (fr:=[4]) (Nc:=["_law_one","_law_heights"]) (cl:=[("_law_heights",s.heap.objs.size+2)]) rfl ⟨rfl,rfl,by decide +kernel,by decide +kernel,(dG rfl (jU)),eP rfl,rfl,fun i n h=>match i,h with | 0,h=>by cases h;exact⟨4,rfl,rfl,rfl,rfl,.inl rfl⟩ | k+1,h=>by rw[show 1+(k+1)=k+2 by lia] at h;cases h⟩
    (cU (pv 4)) (fun C s3 H3 fp pins=>(aZ (i:=0) uE rfl (Or.inl rfl))) (fun C s3 H3 fp pins=>dL)
    (fun C s3 H3 fp pins=>(aH G4 r2 rfl m4 k4 b4 .nil aK (aA (pv 0) (aA (aS (jQ (K:=K) rfl) (pv 1) aE (fun _ _=>rfl)) aD))))))
  (aC (aR (i:=5) iF.nd rfl (Or.inl rfl) (dH (aA (cZ aD) (aA (cZ aD) (aA (pv 4) aD)))))
  (aC (aR (i:=6) iF.nd rfl (Or.inl rfl) (aH G5 r1 rfl m5 k5 b5 .nil aK (aA (pv 3) (aA aE (aA (pv 1) aD)))))
  (aC (dW PassesOwn.never rfl (pU rfl mr (aA aE (aA (pv 1) aD))) (aZ (i:=7) iF.nd rfl (Or.inl rfl))
   (aC (aR (i:=3) iF.nd rfl (Or.inr rfl) (aH G1 r1 rfl m1 k1 b1 .nil aK (aA (pv 0) (aA (aT cW aE (pv 7)) aD))))
  (aC (aR (i:=8) iF.nd rfl (Or.inl rfl) (dH (aA (aT kB (aT cW (pv 7) (pv 6)) (pv 1)) (aA (aT kB (aT cW (aH G5 r1 rfl m5 k5 b5 .nil aK (aA (pv 3) (aA aE (aA (pv 7) aD)))) (pv 6)) (pv 1)) aD))))
  (aC (cA (bG eZ (aH G5 r1 rfl m5 k5 b5 .nil aK (aA (pv 3) (aA aE (aA aE aD)))) aE (bK _)) (aF (aR (i:=8) iF.nd rfl (Or.inl rfl) (dH (aA (aS aW (pv 8) aE (fun _ _=>rfl)) (aA (aS aW (pv 8) aE (fun _ _=>rfl)) aD))))) bH)
  (aF (bY (aH G6 r3 rfl m6 k6 b6 .nil aK (aA (pv 5) (aA (pv 3) (aA (aS bQ (cZ (aA cL (aA cL (aA cL aD)))) (aH G5 r1 rfl m5 k5 b5 .nil aK (aA (pv 3) (aA aE (aA aE aD)))) (fun _ _=>rfl)) (aA (pv 8) aD)))))))))))
  (aC (dW PassesOwn.never rfl (cU (iY kG (pv 0) (iL aE) (iL (aT cW aE (pv 2))))) (aZ (i:=3) iF.nd rfl (Or.inr rfl))
   (aC (aR (i:=8) iF.nd rfl (Or.inl rfl) (dH (aA (aH G5 r1 rfl m5 k5 b5 .nil aK (aA (pv 3) (aA aE (aA (pv 1) aD)))) (aA (aH G5 r1 rfl m5 k5 b5 .nil aK (aA (pv 3) (aA aE (aA (pv 1) aD)))) aD))))
  (aF (bY (aH G6 r3 rfl m6 k6 b6 .nil aK (aA (pv 5) (aA (pv 3) (aA (aS bQ (cZ (aA cL (aA cL (aA cL aD)))) (aH G5 r1 rfl m5 k5 b5 .nil aK (aA (pv 3) (aA aE (aA aE aD)))) (fun _ _=>rfl)) (aA (pv 8) aD)))))))))
  (aC (bY (aH G7 r3 rfl m7 k7 b7 .nil aK (aA (pv 5) (aA (aH G1 r1 rfl m1 k1 b1 .nil aK (aA (pv 0) (aA aE aD))) aD))))
  (aF (aX (pv 5))))))))))),?_⟩
 try dsimp only
 refine gD (fun σ' H'=>aV H H'/\∃v:Int,σ'=[some (.ref a),some (.int (m:Int)),some (.int (k:Int)),some (.int v),none,none,none,none,none]) (fun X hX=>?_) ?_
 ·exact⟨_,rfl,a,ns,1,1,rfl,rfl,hS,h63,fun v H1 s1=>hX _ _ ⟨s1,v,rfl⟩⟩
 rintro σ1 H1 ⟨s1,v,rfl⟩;refine gD (fun σ' H'=>aV H H'/\∃(D:Addr) (zs:List V) (ps:List Q2),σ'=[some (.ref a),some (.int (m:Int)),some (.int (k:Int)),some (.int v),some (.ref D),none,none,none,none]/\H' D=some (.lst zs)/\Fqs K H' zs ps/\ps.length=m/\∀p∈ps,iA p) (fun X hX=>?_) ?_
 ·refine⟨_,rfl,(m:Int),rfl,by lia,by lia,fun D hD=>?_⟩;rw[Int.toNat_natCast];have sD:=aG hD (.lst []);refine oG (n:=m) (fun i zs H'=>aV H1 H'/\H' D=some (.lst zs)/\∃ps:List Q2,Fqs K H' zs ps/\ps.length=i/\∀p∈ps,iA p) ⟨sD,aB,[],.nil,rfl,fun p hp=>by cases hp⟩ (fun i zs H' h=>h.2.1) ?_ ?_
  ·rintro i zs H2 hi ⟨s2,e2,ps,F2,l2,o2⟩ C hC;have lz:=F2.length;refine⟨dD.1,dD.2,fI ?_⟩;refine⟨_,rfl,_,rfl,v,_,rfl,by lia,by lia,fun pc=>?_⟩;refine⟨pc,5,rfl,by decide,by decide,fun p np u H3 s3 e3=>?_⟩;have e2':=s3 _ _ e2;refine⟨e2',bA (by lia),hC _ _ ⟨(s2.trans s3).change hD,aB,ps++[p],((F2.same s3).app (.cons (Fq.of e3) .nil)).upd e2',by rw[List.length_append,l2];rfl,fun p' hp'=>?_⟩⟩;rcases mem_append.mp hp' with z | z
   ·exact o2 p' z
   ·rw[mem_singleton.mp z];exact np
  ·rintro zs H2 ⟨s2,e2,ps,F2,l2,o2⟩;exact hX _ _ ⟨s1.trans s2,D,zs,ps,rfl,e2,F2,l2,o2⟩
 rintro σ2 H2 ⟨s2,D,zs,ps,rfl,eD,FD,lps,ops⟩;have o0:iA (ps.getD 0 (0,1)):=ops _ (mem_of_getElem? (jN (by lia)));obtain⟨u0,eu0,fu0⟩:=Fqs.getAt FD (j:=0) (by lia);refine gD (fun σ' H'=>aV H H'/\∃(hA:Addr) (zs:List V),σ'=[some (.ref a),some (.int (m:Int)),some (.int (k:Int)),some (.int v),some (.ref hA),none,none,none,none]/\H hA=none/\H' hA=some (.lst zs)/\Fqs K H' zs (ps.map fun p=>Mq.minus p (ps.getD 0 (0,1)))) (fun X hX=>?_) ?_
 ·refine⟨_,rfl,D,rfl,⟨_,SqL.of eD⟩,fun A hA=>?_⟩;have sA:=aG hA (.lst []);refine dE (xs:=zs) (fun i ys H'=>aV H2 H'/\H' A=some (.lst ys)/\Fqs K H' ys ((ps.map fun p=>Mq.minus p (ps.getD 0 (0,1))).take i)) ⟨sA,aB,.nil⟩ (fun i ys H' h=>h.2.1) (fun i ys H' _ h=>SqL.of (h.1 _ _ eD)) ?_ ?_
  ·rintro i ys x H3 hx ⟨s3,e3,F3⟩ C hC;obtain⟨u,p,rfl,ep,fu⟩:=FD.get hx;have op:=ops p (mem_of_getElem? ep);have hi:i < ps.length:=(List.getElem?_eq_some_iff.mp ep).1;have lz:=F3.length;rw[length_take,length_map] at lz;refine⟨dD.1,dD.2,fI ?_⟩;refine⟨_,rfl,_,rfl,D,zs,_,_,rfl,rfl,SqL.of (s3 _ _ eD),bU (j:=0) eu0,?_⟩;refine⟨u,u0,p,_,41,41,rfl,s3.fq fu,s3.fq fu0,op.l.pos,o0.l.pos,op.b,o0.b,by lia,fun z H4 s4 e4=>?_⟩;have e3':=s4 _ _ e3;refine⟨e3',bA (by lia),hC _ _ ⟨(s3.trans s4).change hA,aB,?_⟩⟩;rw[take_add_one,getElem?_map,ep];exact((F3.same s4).app (.cons (Fq.of e4) .nil)).upd e3'
  ·rintro ys H3 ⟨s3,e3,F3⟩;rw[take_of_length_le (by rw[length_map,FD.length];lia)] at F3;exact hX _ _ ⟨s2.trans s3,A,ys,rfl,s2.free hA,e3,F3⟩
 rintro σ3 H3 ⟨s3,hA,zs',rfl,nhA,eA,FA⟩;have hk:=Uw hm1 lps ops;generalize (ps.map fun p=>Mq.minus p (ps.getD 0 (0,1)))=hs at FA hk;refine gD (fun σ' H'=>aV H H'/\∃t r s:Addr,σ'=[some (.ref a),some (.int (m:Int)),some (.int (k:Int)),some (.int v),some (.ref hA),some (.ref t),none,none,none]/\H r=none/\H s=none/\r≠s/\hA≠r/\hA≠s/\N3 K H' t r s hA [] hs) (fun X hX=>?_) ?_
 ·refine⟨zl9 0,fun r hr0=>?_⟩;have sr:=aG hr0 (.lst []);have e1:upd H3 r (.lst []) r=some (.lst []):=aB;have eA1:=sr _ _ eA;generalize upd H3 r (.lst [])=H4 at sr e1 eA1 ⊢;refine⟨zl9 0,fun s' hs0=>?_⟩;have ss':=aG hs0 (.lst []);have e2:upd H4 s' (.lst []) s'=some (.lst []):=aB;have eA2:=ss' _ _ eA1;have e1':=ss' _ _ e1;have nrs:r≠s':=fun z=>by rw[<- z,e1] at hs0;cases hs0
  have nhs:hA≠s':=fun z=>by rw[<- z,eA1] at hs0;cases hs0
  have nhr:hA≠r:=fun z=>by rw[<- z,eA] at hr0;cases hr0
  generalize upd H4 s' (.lst [])=H5 at ss' e2 eA2 e1' ⊢;refine⟨_,rfl,zl9 3,fun t ht=>?_⟩;have st:=aG ht (.tup [.ref r,.ref s',.ref hA]);have s35:=sr.trans (ss'.trans st);exact hX _ _ ⟨s3.trans s35,t,r,s',rfl,s3.free hr0,(s3.trans sr).free hs0,nrs,nhr,nhs,⟨SqT.of aB,⟨[],st _ _ e1',.nil⟩,⟨[],st _ _ e2,.nil⟩,⟨zs',st _ _ eA2,FA.same s35⟩⟩⟩
 rintro σ4 H4 ⟨s4,t,r,s',rfl,nr,ns',nrs,nhr,nhs,n4⟩;refine gD (fun σ' H'=>aV H H'/\N3 K H' t r s' hA [] hs/\∃w:Nat,w < m/\σ'=[some (.ref a),some (.int (m:Int)),some (.int (k:Int)),some (.int v),some (.ref hA),some (.ref t),some (.int (w:Int)),none,none]) (fun X hX=>?_) ?_
 ·refine⟨_,rfl,_,rfl,v,1,(m:Int),rfl,by decide,by decide,by lia,fun w' H5 w0 w1 s5=>?_⟩;obtain⟨w,rfl⟩:∃w:Nat,w'=(w:Int):=⟨w'.toNat,by lia⟩
  exact hX _ _ ⟨s4.trans s5,n4.same s5,w,by lia,rfl⟩
 rintro σ5 H5 ⟨s5,n5,w,hw,rfl⟩;have lhs:=hk.l;have chg:∀{H' H'':Hp},aV H H'->gS r s' H' H''->aV H H'':=fun {H' H''} x y b o hb=>y b o (x b o hb) (fun z=>by rw[z,nr] at hb;cases hb) (fun z=>by rw[z,ns'] at hb;cases hb);refine gD (fun σ' H'=>aV H H'/\∃(E:List Ez) (z3 z7 z8:Option V),σ'=[some (.ref a),some (.int (m:Int)),some (.int (k:Int)),z3,some (.ref hA),some (.ref t),some (.int (w:Int)),z7,z8]/\N3 K H' t r s' hA E hs/\Drz m w m hs E/\E.length<=4) (fun X hX=>?_) ?_
 ·refine⟨_,rfl,1,(m:Int),rfl,by lia,?_⟩;refine gR (lo:=1) (n:=((m:Int) - 1).toNat) (fun i σ' H'=>aV H H'/\∃(E:List Ez) (z3 z7 z8:Option V),σ'=[some (.ref a),some (.int (m:Int)),some (.int (k:Int)),z3,some (.ref hA),some (.ref t),some (.int (w:Int)),z7,z8]/\N3 K H' t r s' hA E hs/\Drz m w (i+1) hs E/\E.length=i) ⟨s5,[],_,_,_,rfl,n5,⟨qb5 hm1 hw,fun e he=>by cases he⟩,rfl⟩ ?_ ?_
  ·rintro i σ' H6 hi ⟨s6,E,z3,z7,z8,rfl,n6,dz,le⟩;obtain⟨J,hJ⟩:∃J:Nat,J=i+1:=⟨_,rfl⟩
   have ek:(1:Int)+(i:Int)=(J:Int):=by lia
   rw[ek];rw[<- hJ] at dz ⊢;have Jm:J < m:=by lia
   refine Yn (fun σ' H'=>aV H6 H'/\∃(c:Int) (e:Addr) (jj pa pb:Nat),σ'=[some (.ref a),some (.int (m:Int)),some (.int (k:Int)),some (.int c),some (.ref hA),some (.ref t),some (.int (w:Int)),some (.int (J:Int)),some (.ref e)]/\SqT K H' e [.int (pa:Int),.int (pb:Int)]/\jj < J/\((pa=rot m w J/\pb=rot m w jj)\/(pa=rot m w jj/\pb=rot m w J))) (fun X2 hX2=>?_) ?_
   ·refine⟨_,rfl,_,rfl,_,_,rfl,rfl,a,ns,_,2+J,rfl,by lia,s6.seq hS,h63,fun c H7 s7=>?_⟩;have m0:(m:Int)≠0:=by lia
    refine⟨_,rfl,_,rfl,_,_,rfl,rfl,_,rfl,_,_,rfl,rfl,m0,_,rfl,_,rfl,c,1,(J:Int),rfl,by decide,by decide,by lia,fun j' H8 j0 j1 s8=>?_⟩;obtain⟨jj,rfl⟩:∃jj:Nat,j'=(jj:Int):=⟨j'.toNat,by lia⟩
    refine⟨_,rfl,_,_,rfl,rfl,_,rfl,_,_,rfl,rfl,m0,zl9 2,fun e he=>?_⟩;have se:=aG he (.tup [.int (Int.fmod ((J:Int)+(w:Int)) m),.int (Int.fmod ((jj:Int)+(w:Int)) m)]);have ee:SqT K (upd H8 e (.tup [.int (Int.fmod ((J:Int)+(w:Int)) m),.int (Int.fmod ((jj:Int)+(w:Int)) m)])) e [.int (Int.fmod ((J:Int)+(w:Int)) m),.int (Int.fmod ((jj:Int)+(w:Int)) m)]:=SqT.of aB;generalize upd H8 e (.tup [.int (Int.fmod ((J:Int)+(w:Int)) m),.int (Int.fmod ((jj:Int)+(w:Int)) m)])=H9 at se ee ⊢;rw[Ph,Ph] at ee;have s69:=s7.trans (s8.trans se);refine⟨_,rfl,c,2,2,rfl,by decide,by decide,by decide,fun x HA x0 x1 sA=>?_⟩;refine⟨rfl,_,rfl,oM (fun _=>?_) (fun _=>?_)⟩
    ·refine⟨_,rfl,e,_,_,_,rfl,rfl,sA.seqT ee,rfl,_,rfl,e,_,_,_,rfl,rfl,sA.seqT ee,rfl,zl9 2,fun e2 he2=>?_⟩;have s2':=aG he2 (.tup [.int (rot m w jj:Int),.int (rot m w J:Int)]);exact hX2 _ _ ⟨s69.trans (sA.trans s2'),c,e2,jj,_,_,rfl,SqT.of aB,by lia,.inr ⟨rfl,rfl⟩⟩
    ·exact hX2 _ _ ⟨s69.trans sA,c,e,jj,_,_,rfl,sA.seqT ee,by lia,.inl ⟨rfl,rfl⟩⟩
   rintro σ7 H7 ⟨s7,c,e,jj,pa,pb,rfl,ee,jJ,ends⟩;refine⟨_,rfl,_,rfl,zl9 3,fun L hL=>?_⟩;have sL:=aG hL (.lst [V.str "piece",.str "hold",.str "piece"]);have eL:upd H7 L (.lst [V.str "piece",.str "hold",.str "piece"]) L=some (.lst [V.str "piece",.str "hold",.str "piece"]):=aB;generalize upd H7 L (.lst [V.str "piece",.str "hold",.str "piece"])=H8 at sL eL ⊢;refine⟨_,rfl,c,0,3,rfl,by decide,by decide,by decide,fun x H9 x0 x1 s9=>?_⟩;obtain⟨kd,knp,ek'⟩:=qf0 x0 x1;have s79:=sL.trans s9;have n9:=n6.same (s7.trans s79);obtain⟨us,er,R⟩:=n9.rw;obtain⟨ss,es,F⟩:=n9.st;obtain⟨zz,ez,Fz⟩:=n9.ht;have rl:∀q,rot m w q < m:=fun q=>Nat.mod_lt _ (by lia);have pam:pa < m:=by rcases ends with ⟨a1,_⟩ | ⟨a1,_⟩<;>(rw[a1];exact rl _)
   have pbm:pb < m:=by rcases ends with ⟨_,a1⟩ | ⟨_,a1⟩<;>(rw[a1];exact rl _)
   refine⟨L,_,_,_,rfl,rfl,SqL.of (s9 _ _ eL),ek',_,rfl,t,r,s',hA,e,c,kd,us,ss,zz,_,_,hs,m,pa,pb,rfl,n9.tp,er,R,es,F,by rw[length_map,length_map],by rw[length_map];lia,nrs,SqL.of ez,Fz,hk,s79.seqT ee,pam,pbm,fun y us' ss' d p HA xA erA RA esA FA hy dk d1 d2 en=>?_⟩;have s6A:=chg (s6.trans (s7.trans s79)) xA;refine⟨s6A,E.take y++(some (J,jj),d,p) :: E.drop y,_,_,_,rfl,n9.put nhr nhs xA erA RA esA FA (some (J,jj)),?_,by rw[Xv];lia⟩;refine dz.tree (en _) rfl (by show d.1≠.pu;rw[dk];exact knp) (by lia) Jm jJ ?_ y;show (d.2.1=_/\d.2.2.1=_)\/(d.2.1=_/\d.2.2.1=_);rw[d1,d2];rcases ends with ⟨a1,a2⟩ | ⟨a1,a2⟩
   ·exact .inl ⟨by rw[a1],by rw[a2]⟩
   ·exact .inr ⟨by rw[a1],by rw[a2]⟩
  ·rintro σ' H6 ⟨s6,E,z3,z7,z8,rfl,n6,dz,le⟩;rw[show ((m:Int) - 1).toNat+1=m by lia] at dz;exact hX _ _ ⟨s6,E,_,_,_,rfl,n6,dz,by lia⟩
 rintro σ6 H6 ⟨s6,E1,z3,z7,z8,rfl,n6,dz6,le6⟩;refine gD (fun σ' H'=>aV H H'/\∃(E:List Ez) (z3 z8:Option V),σ'=[some (.ref a),some (.int (m:Int)),some (.int (k:Int)),z3,some (.ref hA),some (.ref t),some (.int (w:Int)),z7,z8]/\N3 K H' t r s' hA E hs/\Drz m w m hs E/\E.length<=4+k) (fun X hX=>?_) ?_
 ·refine⟨_,rfl,8,rfl,_,rfl,_,_,rfl,rfl,8+(k:Int),rfl,a,_,rfl,s6.seq hS,fun C hC=>?_⟩;have c12:=qc8 (ns.map V.int) k;obtain⟨ms,em⟩:=Hu ns (some 8) (some (8+(k:Int)));rw[em] at c12 ⊢;rw[length_map] at c12;have sC:=aG hC (.lst (ms.map V.int));have eC:upd H6 C (.lst (ms.map V.int)) C=some (.lst (ms.map V.int)):=aB;have nCr:C≠r:=fun z=>by obtain⟨us,er,_⟩:=n6.rw;rw[z,er] at hC;cases hC
  have nCs:C≠s':=fun z=>by obtain⟨us,er,_⟩:=n6.st;rw[z,er] at hC;cases hC
  generalize upd H6 C (.lst (ms.map V.int))=H7 at sC eC ⊢;refine⟨C,rfl,⟨_,SqL.of eC⟩,?_⟩;refine gP (xs:=ms.map V.int) (fun i σ' H'=>aV H H'/\H' C=some (.lst (ms.map V.int))/\∃(E:List Ez) (z3 z8:Option V),σ'=[some (.ref a),some (.int (m:Int)),some (.int (k:Int)),z3,some (.ref hA),some (.ref t),some (.int (w:Int)),z7,z8]/\N3 K H' t r s' hA E hs/\Drz m w m hs E/\E.length<=4+i) ⟨s6.trans sC,eC,E1,_,_,rfl,n6.same sC,dz6,by lia⟩ (fun i σ' H' _ h=>SqL.of h.2.1) ?_ ?_
  ·rintro i x σ' H8 hx ⟨s8,eC8,E,z3,z8,rfl,n8,dz,le⟩;have hi:i < k:=by have:=(List.getElem?_eq_some_iff.mp hx).1;rw[length_map] at this;lia
   obtain⟨c,rfl⟩:∃c,x=.int c:=by
    rw[getElem?_map] at hx;obtain⟨c,_,e⟩:=Option.map_eq_some_iff.mp hx;exact⟨c,e.symm⟩
   refine gD (fun σ' H'=>aV H8 H'/\∃(e:Addr) (pa pb:Nat),σ'=[some (.ref a),some (.int (m:Int)),some (.int (k:Int)),some (.int c),some (.ref hA),some (.ref t),some (.int (w:Int)),z7,some (.ref e)]/\SqT K H' e [.int (pa:Int),.int (pb:Int)]/\pa < m/\pb < m) (fun X2 hX2=>?_) ?_
   ·refine⟨_,rfl,_,rfl,c,1,(m:Int),rfl,by decide,by decide,by lia,fun p1 H9 a0 a1 s9=>?_⟩;refine⟨_,rfl,_,rfl,c,2,(m:Int),rfl,by decide,by decide,by lia,fun p2 HA b0 b1 sA=>?_⟩;obtain⟨pa,rfl⟩:∃pa:Nat,p1=(pa:Int):=⟨p1.toNat,by lia⟩
    obtain⟨pb,rfl⟩:∃pb:Nat,p2=(pb:Int):=⟨p2.toNat,by lia⟩
    refine⟨zl9 2,fun e he=>?_⟩;exact hX2 _ _ ⟨s9.trans (sA.trans (aG he _)),e,pa,pb,rfl,SqT.of aB,by lia,by lia⟩
   rintro σ9 H9 ⟨s9,e,pa,pb,rfl,ee,pam,pbm⟩;refine⟨_,rfl,_,rfl,zl9 3,fun L hL=>?_⟩;have sL:=aG hL (.lst [V.str "piece",.str "push",.str "piece"]);have eL:upd H9 L (.lst [V.str "piece",.str "push",.str "piece"]) L=some (.lst [V.str "piece",.str "push",.str "piece"]):=aB;generalize upd H9 L (.lst [V.str "piece",.str "push",.str "piece"])=HA at sL eL ⊢;refine⟨_,rfl,c,0,3,rfl,by decide,by decide,by decide,fun x HB x0 x1 sB=>?_⟩;obtain⟨kd,knp,ek'⟩:=qc4 x0 x1;have s9B:=sL.trans sB;have nB:=n8.same (s9.trans s9B);obtain⟨us,er,R⟩:=nB.rw;obtain⟨ss,es,F⟩:=nB.st;obtain⟨zz,ez,Fz⟩:=nB.ht;refine⟨L,_,_,_,rfl,rfl,SqL.of (sB _ _ eL),ek',_,rfl,t,r,s',hA,e,c,kd,us,ss,zz,_,_,hs,m,pa,pb,rfl,nB.tp,er,R,es,F,by rw[length_map,length_map],by rw[length_map];lia,nrs,SqL.of ez,Fz,hk,s9B.seqT ee,pam,pbm,fun y us' ss' d p HC xC erC RC esC FC hy dk d1 d2 en=>?_⟩;refine⟨chg (s8.trans (s9.trans s9B)) xC,xC _ _ ((s9.trans s9B) _ _ eC8) nCr nCs,E.take y++(none,d,p) :: E.drop y,_,_,rfl,nB.put nhr nhs xC erC RC esC FC none,dz.ins (en _) rfl (by show d.1≠.ho;rw[dk];exact knp) y,by rw[Xv];lia⟩
  ·rintro σ' H8 ⟨s8,eC8,E,z3,z8,rfl,n8,dz,le⟩;rw[length_map] at le;exact hX _ _ ⟨s8,E,_,_,rfl,n8,dz,by lia⟩
 rintro σ7 H7 ⟨s7,E,z3',z8',rfl,n7,dz7,le7⟩;refine gD (fun σ' H'=>σ'=[some (.ref a),some (.int (m:Int)),some (.int (k:Int)),z3',some (.ref hA),some (.ref t),some (.int (w:Int)),z7,z8']/\aV H H'/\∃E':List Ez,N3 K H' t r s' hA E' hs/\Bal m w (LZ E) hs (bL (rwZ E)) E' 4/\E'.length<=E.length+4/\∀x,1<=x->x < m->ouR x (prZ E')=0) (fun X hX=>?_) ?_
 ·refine⟨_,rfl,_,rfl,a,ns,2,2,rfl,rfl,s7.seq hS,h63,fun c H8 s8=>?_⟩;have n8:=n7.same s8;obtain⟨us,er,R⟩:=n8.rw;obtain⟨ss,es,F⟩:=n8.st;obtain⟨zz,ez,Fz⟩:=n8.ht;have lzz:=Fz.length;refine⟨t,r,s',hA,c,us,ss,zz,E,hs,m,w,rfl,n8.tp,er,R,es,F,nrs,SqL.of ez,nhr,nhs,by lia,hm5,hk,dz7,by lia,fun us' ss' E' H9 x9 er9 R9 es9 F9 b9 l9 ou9=>?_⟩;refine hX _ _ ⟨rfl,chg (s7.trans s8) x9,E',⟨gS.seqT er es x9 n8.tp,⟨us',er9,R9⟩,⟨ss',es9,F9⟩,⟨zz,x9 _ _ ez nhr nhs,Fqs.xx er es x9 Fz⟩⟩,b9,l9,ou9⟩
 rintro σ8 H8 ⟨rfl,s8,E',n8,b8,l8,ou8⟩;exact⟨_,rfl,q t r s' hA E E' hs w H8 s8 nr ns' nhA n8 hk dz7 le7 b8 l8 ou8⟩
theorem Eo (k:Kd):decide (V.str k.wd=V.str "push")=decide (k=.pu):=cT k .pu
def Ua (K:Frag):Sp:=fun vs H Q _=>∃(a:Addr) (xs:List V) (ps:List Q2),vs=[.ref a,.int (ps.length:Int)]/\SqL K H a xs/\Fqs K H xs ps/\iW ps/\ps.length<=100/\∀H',aV H H'->Q (.bl true) H'
def Ob (K:Frag)(CK:Kd->Addr):Sp:=fun vs H Q _=>∃(a b:Addr) (xs ys:List V) (ds:List RD) (ss:List Q2) (m N nb:Nat) (L:Int),vs=[.ref a,.ref b,.int (m:Int)]/\SqL K H a xs/\gO CK K H xs ds/\SqL K H b ys/\Fqs K H ys ss/\ss.length=ds.length/\ds.length<=60/\(∀s∈ss,Fw L N s)/\1<=L/\Mq.B nb L/\nb<=1000/\121*N < 2 ^ 80/\(∀d∈ds,cK (m:Int) d.2.1 d.2.2.1)/\m<=20/\
 ∀l zs H',aV H H'->H' l=some (.lst zs)->Fqs K H' zs (cX m (ds.zip ss))->Q (.ref l) H'
structure Lh (m:Nat) (L:Int) (N nb:Nat) (ds:List RD) (ss:List Q2):Prop where
 l:ss.length=ds.length
 f:∀s∈ss,Fw L N s
 L1:1<=L
 LB:Mq.B nb L
 nb:nb<=1000
 hN:121*N < 2 ^ 80
 pu:∀e∈ds.zip ss,e.1.1=.pu->e.2=e.1.2.2.2
 z:∀p∈cX m (ds.zip ss),p=(0,1)
def qO (CN:Addr)(K:Frag):Sp:=fun vs H Q _=>∃(n l b:Addr) (m:Nat) (ds:List RD) (ys:List V) (ss:List Q2) (L:Int) (N nb:Nat),vs=[.ref n,.ref b]/\fC CN K H n l (m:Int) ds/\ds.length<=60/\SqL K H b ys/\Fqs K H ys ss/\Lh m L N nb ds ss/\(∀d∈ds,cK (m:Int) d.2.1 d.2.2.1)/\m<=20/\∀H',aV H H'->Q (.bl true) H'
theorem Wa:(["one"]:List Str).Nodup:=by decide +kernel
abbrev sAF:Stmt:=top 71
theorem qc9:aQ ["some","many"] ["some","many"] (aI sAF):=sK9 rfl rfl rfl rfl (by decide +kernel)
theorem Yh {dV:Value}(F:aY K "are_fractions" "are_fractions" sAF dV f fd)(b:Bl mg)(ml:mg "len"=none)(mli:mg "list"=none)(ma:mg "all"=none)(G1:aL P w K mg base CX0 2 g1 gd1 ["thing"] (L2.Gq K))(b1:aM K gd1 ["thing"] [])(k1:kI9 K g1)(m1:mI9 mg "is_fraction" g1) :
  aL P w K mg base CX 3 f fd ["some","many"] (Ua K):=by
 refine F.ok qc9 (fun vs H Q E h=>?_) fun cdv A outer s H vs Q E hr h=>?_
 ·obtain⟨_,_,_,rfl,_⟩:=h;rfl
 obtain⟨a,xs,ps,rfl,hS,z,low,l,q⟩:=h;refine⟨_,(aF (aX (kT (gH (i:=0) rfl (Or.inl rfl) b.isi mli rfl rfl PyProof.Rows.boot_list) (kT (iK eZ (bN bC rfl ml PySem.boot_len (aA (pv 0) aD)) (pv 1) (bK _)) (qH (bN (oY rfl) rfl ma PyProof.Rows.boot_all (aA (eU (nl:=1) (fr:=[]) (Nc:=["one"]) (cl:=[]) rfl ⟨rfl,rfl,by decide +kernel,by decide +kernel,fun x c h=>(by cases h),eP rfl,rfl,fun i n h=>(by simp at h)⟩
    (cU (pv 0)) (fun C s3 H3 fp pins=>(aZ (i:=0) Wa rfl (Or.inl rfl))) (fun C s3 H3 fp pins=>dL)
    (fun C s3 H3 fp pins=>(aH G1 hr rfl m1 k1 b1 .nil aK (aA (pv 0) aD)))) aD))))))),?_⟩
 have lo:=z.length;refine⟨_,_,true,rfl,.lst hS,rfl,_,rfl,fI ⟨_,rfl,a,xs,rfl,.inl hS,_,rfl,rfl,_,rfl,?_⟩⟩;refine L2.ifT (decide_eq_true (by rw[lo])) ?_;refine⟨_,rfl,a,rfl,⟨_,hS⟩,fun D hD=>?_⟩;have sD:=aG hD (.lst []);refine dE (xs:=xs) (fun i zs H'=>aV H H'/\H' D=some (.lst zs)/\zs=((ps.take i).map fun _=>true).map V.bl) ⟨sD,aB,rfl⟩ (fun i zs H' h=>h.2.1) (fun i zs H' _ h=>h.1.seq hS) ?_ ?_
 ·rintro i zs x H1 hx ⟨s1,e1,rfl⟩ C hC;obtain⟨w,p,rfl,eo,hz⟩:=z.get hx;have hi:i < ps.length:=(List.getElem?_eq_some_iff.mp eo).1;refine⟨dD.1,dD.2,fI ?_⟩;refine⟨_,rfl,w,p,rfl,s1.fq hz,low p (mem_of_getElem? eo),e1,bA (by rw[length_map,length_map,length_take];lia),hC _ _ ⟨s1.change hD,aB,?_⟩⟩;rw[take_add_one,eo,map_append,map_append];rfl
 ·rintro zs H1 ⟨s1,e1,rfl⟩;refine⟨D,_,rfl,SqL.of e1,?_⟩;rw[lo,take_length,all_map,show ps.all (id ∘ fun _=>true)=true by simp];exact q _ s1
abbrev Do:Stmt:=top 72
theorem rN:aQ ["rows","streams","many","rests","row","stream"] ["rows","streams","many"] (aI Do):=sK9 rfl rfl rfl rfl (by decide +kernel)
theorem Nu {dV:Value}(F:aY K "rests_of" "rests_of" Do dV f fd)(T:RT K mg CR CK)(mz:mg "zip"=none){aN:Addr}(fN:∀H,Fq K H aN (0,1))(mNO:mI9 mg "NOUGHT" aN)(G1:aL P w K mg base CX0 3 g1 gd1 ["one","other"] (gC K Mq.plus))(b1:aM K gd1 ["one","other"] [])(k1:kI9 K g1)(m1:mI9 mg "plus" g1)(G2:aL P w K mg base CX0 3 g2 gd2 ["one","other"] (gC K Mq.minus))(b2:aM K gd2 ["one","other"] [])(k2:kI9 K g2)(m2:mI9 mg "minus" g2) :
  aL P w K mg base CX 4 f fd ["rows","streams","many"] (Ob K CK):=by
 refine F.ok rN (fun vs H Q E h=>?_) fun cdv A outer s H vs Q E hr h=>?_
 ·obtain⟨_,_,_,_,_,_,_,_,_,_,rfl,_⟩:=h;rfl
 obtain⟨a,b,xs,ys,ds,ss,m,N,nb,L,rfl,hA,hR,hB,hF,hl,h60,hD,L1,LB,nb1,hN,hpt,h20,q⟩:=h;refine⟨_,(aC (aR (i:=3) rN.nd rfl (Or.inl rfl) (aT qM (cZ (aA (dI (v:=.ref aN) rfl mNO rfl) aD)) (pv 2)))
  (aC (dW PassesOwn.never rfl (nU rfl mz rfl (aA (pv 0) (aA (pv 1) aD))) (gK rfl (bO (aZ (i:=4) rN.nd rfl (Or.inl rfl)) (bO (aZ (i:=5) rN.nd rfl (Or.inl rfl)) fH)))
   (aC (gV (aH G1 hr rfl m1 k1 b1 .nil aK (aA (aS bQ (pv 3) (bX (pv 4) rfl) (fun _ _=>rfl)) (aA (pv 5) aD))) (jI (pv 3) (bX (pv 4) rfl) gB))
  (aF (gV (aH G2 hr rfl m2 k2 b2 .nil aK (aA (aS bQ (pv 3) (bX (pv 4) rfl) (fun _ _=>rfl)) (aA (pv 5) aD))) (jI (pv 3) (bX (pv 4) rfl) gB)))))
  (aF (aX (pv 3))))),?_⟩
 have lx:=hR.length;have ly:=hF.length;refine⟨zl9 1,fun l1 hl1=>?_⟩;have s1:=aG hl1 (.lst [.ref aN]);have e1:upd H l1 (.lst [.ref aN]) l1=some (.lst [.ref aN]):=aB;generalize upd H l1 (.lst [.ref aN])=H1 at s1 e1 ⊢;refine⟨_,rfl,l1,(m:Int),[.ref aN],rfl,rfl,e1,by lia,by lia,?_,fun l hl'=>?_⟩
 ·rw[Int.toNat_natCast,sizeLine_eq];simp only[length_cons,length_nil];lia
 rw[Int.toNat_natCast,iN];have s2:=aG hl' (.lst (replicate m (.ref aN)));have e2:upd H1 l (.lst (replicate m (.ref aN))) l=some (.lst (replicate m (.ref aN))):=aB;have F2:Fqs K (upd H1 l (.lst (replicate m (.ref aN)))) (replicate m (.ref aN)) (replicate m (0,1)):=iX (fN _) m;generalize upd H1 l (.lst (replicate m (.ref aN)))=H2 at s2 e2 F2 ⊢;have l0:H l=none:=s1.free hl';refine⟨_,rfl,_,rfl,a,b,rfl,⟨_,(s1.trans s2).seq hA⟩,⟨_,(s1.trans s2).seq hB⟩,?_⟩;refine rD (xs:=xs) (ys:=ys) (fun i σ H'=>aV H H'/\∃(zs:List V) (z4 z5:Option V),σ=[some (.ref a),some (.ref b),some (.int (m:Int)),some (.ref l),z4,z5]/\H' l=some (.lst zs)/\Fqs K H' zs (cX m ((ds.zip ss).take i))/\(cX m ((ds.zip ss).take i)).length=m/\∀p∈cX m ((ds.zip ss).take i),Fw L (2*N*i) p) ⟨s1.trans s2,_,none,none,rfl,e2,F2,length_replicate,fun p hp=>?_⟩ (fun i σ H' _ h=>⟨h.1.seq hA,h.1.seq hB⟩) ?_ ?_
 ·rw[eq_of_mem_replicate (show p∈replicate m (0,1) from hp)];exact Fw.zero.mono (Nat.zero_le _)
 ·rintro i x y σ H3 T1 ex ey ⟨s3,zs,z4,z5,rfl,el,F3,len,dn⟩ hT;have hi:i < ds.length:=by
   have:=(List.getElem?_eq_some_iff.mp ex).1;lia
  obtain⟨⟨k,u,v,p⟩,hd⟩:∃d,ds[i]?=some d:=⟨_,getElem?_eq_getElem hi⟩
  obtain⟨yr,zr,eyr,rw,fz⟩:=hR.at hd;have exx:x=.ref yr:=by rw[eyr] at ex;exact(Option.some.inj ex).symm
  subst exx;obtain⟨w,s',rfl,es,fw⟩:=hF.get ey;have ds':=hD s' (mem_of_getElem? es);obtain⟨i0,i1,j0,j1⟩:=hpt _ (mem_of_getElem? hd);have i0:0<=u:=i0;have i1:u < m:=i1;have j0:0<=v:=j0;have j1:v < m:=j1;have et:(ds.zip ss).take (i+1)=(ds.zip ss).take i++[((k,u,v,p),s')]:=by
   have ez:(ds.zip ss)[i]?=some ((k,u,v,p),s'):=getElem?_zip_eq_some.mpr ⟨hd,es⟩;rw[take_add_one,ez];rfl
  have big:2*N*i<=120*N:=by
   have h1:(2*N)*i<=(2*N)*60:=Nat.mul_le_mul_left _ (by lia);lia
  have sT:=aG hT (.tup [.ref yr,.ref w]);refine⟨T1,_,rfl,SqT.of aB,rfl,_,_,rfl,_,_,rfl,rfl,?_⟩;have s4:=s3.trans sT;have el4:=sT _ _ el;have F4:=F3.same sT;generalize upd H3 T1 (.tup [.ref yr,.ref w])=H4 at sT s4 el4 F4 ⊢;have eR:=kI m ((ds.zip ss).take i) ((k,u,v,p),s');rw[<- et] at eR;generalize cX m ((ds.zip ss).take i)=Rs at F4 len dn eR;have lz:=F4.length;obtain⟨dr,hy⟩:=id (rw.same s4);have au:=Tr (ps:=Rs) (j:=u.toNat) (by lia);obtain⟨c1,ec1,fc1⟩:=F4.at au;have d1:=dn _ (mem_of_getElem? au);have at1:atI zs u=some (.ref c1):=by
   have:=bU ec1
   rwa [show ((u.toNat:Nat):Int)=u by lia] at this
  have ix1:ixN zs.length u=some u.toNat:=by
   have:=gZ (n:=zs.length) (k:=u.toNat) (by lia)
   rwa [show ((u.toNat:Nat):Int)=u by lia] at this
  refine⟨_,rfl,_,rfl,yr,CK _,_,_,_,rfl,hy,T.cl _,T.nS _,cQ _ _ _,l,zs,_,_,rfl,rfl,SqL.of el4,at1,_,rfl,c1,w,_,s',80+nb,80+nb,rfl,fc1,s4.fq fw,d1.l.pos,ds'.l.pos,d1.bd L1 LB (m:=80) (by lia),ds'.bd L1 LB (m:=80) (by lia),by lia,fun q1 H5 s5 e5=>?_⟩;have d2:Fw L (2*N*i+N) _:=d1.plus ds';have s05:=s4.trans s5;have hy5:=s5 _ _ hy;have el5:=s5 _ _ el4;refine⟨_,rfl,_,rfl,yr,CK _,_,_,_,rfl,hy5,T.cl _,T.nS _,cQ _ _ _,l,zs,_,u.toNat,rfl,rfl,el5,ix1,?_⟩;have F6:=(Fqs.set (Fq.of e5) u.toNat (F4.same s5)).upd (o:=.lst (zs.set u.toNat (.ref q1))) el5;have el6:upd H5 l (.lst (zs.set u.toNat (.ref q1))) l=some (.lst (zs.set u.toNat (.ref q1))):=aB;have s06:aV H (upd H5 l (.lst (zs.set u.toNat (.ref q1)))):=s05.change l0;have nl:yr≠l:=fM hy5 el5 (fun z=>by cases z);have hy6:upd H5 l (.lst (zs.set u.toNat (.ref q1))) yr=some (.ins (CK k) dr (kR (.int u) (.int v) (.ref zr))):=by rw[aU nl];exact hy5
  generalize upd H5 l (.lst (zs.set u.toNat (.ref q1)))=H6 at F6 el6 s06 hy6 ⊢;have len6:(Rs.set u.toNat (Mq.plus (Rs.getD u.toNat (0,1)) s')).length=m:=by rw[length_set];exact len
  have dn6:∀p∈Rs.set u.toNat (Mq.plus (Rs.getD u.toNat (0,1)) s'),Fw L (2*N*i+N) p:=fun p hp=>by
   rcases mem_or_eq_of_mem_set hp with z | z
   ·exact(dn p z).mono (by lia)
   ·rw[z];exact d2
  have eR':cX m ((ds.zip ss).take (i+1))=(Rs.set u.toNat (Mq.plus (Rs.getD u.toNat (0,1)) s')).set v.toNat (Mq.minus ((Rs.set u.toNat (Mq.plus (Rs.getD u.toNat (0,1)) s')).getD v.toNat (0,1)) s'):=eR;generalize Rs.set u.toNat (Mq.plus (Rs.getD u.toNat (0,1)) s')=Rt at F6 len6 dn6 eR';have lz6:=F6.length;have av:=Tr (ps:=Rt) (j:=v.toNat) (by lia);obtain⟨c2,ec2,fc2⟩:=F6.at av;have d3:=dn6 _ (mem_of_getElem? av);have at2:atI (zs.set u.toNat (.ref q1)) v=some (.ref c2):=by
   have:=bU ec2
   rwa [show ((v.toNat:Nat):Int)=v by lia] at this
  have ix2:ixN (zs.set u.toNat (.ref q1)).length v=some v.toNat:=by
   have:=gZ (n:=(zs.set u.toNat (.ref q1)).length) (k:=v.toNat) (by lia)
   rwa [show ((v.toNat:Nat):Int)=v by lia] at this
  refine⟨_,rfl,_,rfl,yr,CK _,_,_,_,rfl,hy6,T.cl _,T.nG _,dA _ _ _,l,_,_,_,rfl,rfl,SqL.of el6,at2,_,rfl,c2,w,_,s',80+nb,80+nb,rfl,fc2,s06.fq fw,d3.l.pos,ds'.l.pos,d3.bd L1 LB (m:=80) (by lia),ds'.bd L1 LB (m:=80) (by lia),by lia,fun q2 H7 s7 e7=>?_⟩;have d4:Fw L (2*N*i+N+N) _:=d3.minus ds';have hy7:=s7 _ _ hy6;have el7:=s7 _ _ el6;refine⟨_,rfl,_,rfl,yr,CK _,_,_,_,rfl,hy7,T.cl _,T.nG _,dA _ _ _,l,_,_,v.toNat,rfl,rfl,el7,ix2,?_⟩;refine⟨(s06.trans s7).change l0,_,_,_,rfl,aB,?_,?_,fun p hp=>?_⟩
  ·rw[eR'];exact(Fqs.set (Fq.of e7) v.toNat (F6.same s7)).upd el7
  ·rw[eR',length_set];exact len6
  ·rw[eR'] at hp;have e3:2*N*(i+1)=2*N*i+N+N:=by rw[Nat.mul_add];lia
   rw[e3];rcases mem_or_eq_of_mem_set hp with z | z
   ·exact(dn6 p z).mono (by lia)
   ·rw[z];exact d4
 ·rintro σ H3 ⟨s3,zs,z4,z5,rfl,el,F3,len,dn⟩;rw[show min xs.length ys.length=(ds.zip ss).length by rw[length_zip];lia,take_length] at F3;exact⟨_,rfl,q l zs H3 s3 el F3⟩
theorem Qj:(["rest"]:List Str).Nodup:=by decide +kernel
abbrev zA:Stmt:=top 70
theorem pH:aQ ["net","streams","rows","row","stream"] ["net","streams"] (aI zA):=sK9 rfl rfl rfl rfl (by decide +kernel)
theorem Hf {dV:Value}(F:aY K "serves" "serves" zA dV f fd){CN:Addr}(NTx:NT K mg CN)(T:RT K mg CR CK)(ma:mg "all"=none)(mz:mg "zip"=none){aN:Addr}(fN:∀H,Fq K H aN (0,1))(mNO:mI9 mg "NOUGHT" aN)(GW:∀k,aL P w K mg base CX0 1 (fW k) (fdW k) ["self"] (jW k))(bW:∀k,aM K (fdW k) ["self"] [])(mW:∀k,gL K (CK k) "word" (fW k)){gCo:Addr}{gdCo:FuncData}(GCo:aL P w K mg base CX0 1 gCo gdCo ["self"] (Eh CN K))(bCo:aM K gdCo ["self"] [])(mCo:gL K CN "count" gCo){gMa:Addr}{gdMa:FuncData}(GMa:aL P w K mg base CX0 1 gMa gdMa ["self"] (tF CN K))(bMa:aM K gdMa ["self"] [])(mMa:gL K CN "many" gMa){gRo:Addr}{gdRo:FuncData}(GRo:aL P w K mg base CX0 4 gRo gdRo ["self"] (pS CN K CK))(bRo:aM K gdRo ["self"] [])(mRo:gL K CN "rows" gRo)(G1:aL P w K mg base CX0 3 g1 gd1 ["some","many"] (Ua K))(b1:aM K gd1 ["some","many"] [])(k1:kI9 K g1)(m1:mI9 mg "are_fractions" g1)(G2:aL P w K mg base CX0 4 g2 gd2 ["rows","streams","many"] (Ob K CK))(b2:aM K gd2 ["rows","streams","many"] [])(k2:kI9 K g2)(m2:mI9 mg "rests_of" g2) :
  aL P w K mg base CX 5 f fd ["net","streams"] (qO CN K):=by
 refine F.ok pH (fun vs H Q E h=>?_) fun cdv A outer s H vs Q E hr h=>?_
 ·obtain⟨_,_,_,_,_,_,_,_,_,_,rfl,_⟩:=h;rfl
 obtain⟨n,l,b,m,ds,ys,ss,L,N,nb,rfl,nt,h60,hS,hF,sv,hpt,h20,q⟩:=h;have hu:=hr.units;have r1:=hr.mono (show 1<=4 by lia);have r3:=hr.mono (show 3<=4 by lia);refine⟨_,(aC (cA (fV (dU (aH G1 r3 rfl m1 k1 b1 .nil aK (aA (pv 1) (aA (fX (pv 0) NTx.cl mCo GCo r1 bCo .nil aK) aD))))) (aF (aX iB)) bH)
  (aC (aR (i:=2) pH.nd rfl (Or.inl rfl) (fX (pv 0) NTx.cl mRo GRo hr bRo .nil aK))
  (aC (dW PassesOwn.never rfl (nU rfl mz rfl (aA (pv 2) (aA (pv 1) aD))) (gK rfl (bO (aZ (i:=3) pH.nd rfl (Or.inl rfl)) (bO (aZ (i:=4) pH.nd rfl (Or.inl rfl)) fH)))
   (aF (cA (PW.pt (uK (bG eZ (gA (pv 3) T.cl mW GW r1 bW .nil aK) cL (bK _)) (pG (bG (Nw hu) (pv 4) (bX (pv 3) rfl) (bK _))))) (aF (aX iB)) bH)))
  (aF (aX (bN (oY rfl) rfl ma PyProof.Rows.boot_all (aA (eU (nl:=1) (fr:=[]) (Nc:=["rest"]) (cl:=[]) rfl ⟨rfl,rfl,by decide +kernel,by decide +kernel,fun x c h=>(by cases h),eP rfl,rfl,fun i n h=>(by simp at h)⟩
    (cU (aH G2 hr rfl m2 k2 b2 .nil aK (aA (pv 2) (aA (pv 1) (aA (fX (pv 0) NTx.cl mMa GMa r1 bMa .nil aK) aD))))) (fun C s3 H3 fp pins=>(aZ (i:=0) Qj rfl (Or.inl rfl))) (fun C s3 H3 fp pins=>dL)
    (fun C s3 H3 fp pins=>(iK (Tj (K:=K) rfl hu) (pv 0) (dI (v:=.ref aN) rfl mNO rfl) (bK _)))) aD))))))),?_⟩
 obtain⟨dx,hn⟩:=nt.ob;have ly:=hF.length;have hl:=sv.l;have hL:iW ss:=fun p hp=>(sv.f p hp).l;refine⟨_,rfl,_,rfl,n,dx,_,rfl,hn,fQ _ _ (by decide +kernel) (by decide +kernel),n,l,_,ds,rfl,nt,b,ys,ss,by rw[hl];rfl,hS,hF,hL,by lia,fun H1 s1=>⟨_,rfl,eY ?_⟩⟩;obtain⟨dx1,hn1⟩:=(nt.same s1).ob;refine⟨_,rfl,n,dx1,_,rfl,hn1,fQ _ _ (by decide +kernel) (by decide +kernel),n,l,_,ds,rfl,nt.same s1,by lia,fun a xs H2 s2 na ea Rb=>?_⟩;have lx:=Rb.length;have s02:=s1.trans s2;refine⟨_,rfl,_,rfl,a,b,rfl,⟨_,SqL.of ea⟩,⟨_,s02.seq hS⟩,?_⟩;refine rD (xs:=xs) (ys:=ys) (fun i σ H'=>aV H2 H'/\(∃(z3 z4:Option V),σ=[some (.ref n),some (.ref b),some (.ref a),z3,z4])) ⟨aV.refl _,⟨none,none,rfl⟩⟩ (fun i σ H' _ h=>⟨h.1.seq (SqL.of ea),(s02.trans h.1).seq hS⟩) ?_ ?_
 ·rintro i x y σ H3 T1 ex ey ⟨s3,⟨z3,z4,rfl⟩⟩ hT;have hi:i < ds.length:=by
   have:=(List.getElem?_eq_some_iff.mp ex).1;lia
  obtain⟨⟨k,u,v,p⟩,hd⟩:∃d,ds[i]?=some d:=⟨_,getElem?_eq_getElem hi⟩
  obtain⟨yr,zr,eyr,rw,fz⟩:=Rb.at hd;have exx:x=.ref yr:=by rw[eyr] at ex;exact(Option.some.inj ex).symm
  subst exx;obtain⟨w,s',rfl,es,fw⟩:=hF.get ey;have ez:(ds.zip ss)[i]?=some ((k,u,v,p),s'):=getElem?_zip_eq_some.mpr ⟨hd,es⟩;have sT:=aG hT (.tup [.ref yr,.ref w]);refine⟨T1,_,rfl,SqT.of aB,rfl,_,_,rfl,_,_,rfl,rfl,?_⟩;have s4:=s3.trans sT;generalize upd H3 T1 (.tup [.ref yr,.ref w])=H4 at sT s4 ⊢;obtain⟨dr,hy⟩:=id (rw.same s4);refine⟨_,rfl,k,yr,dr,_,rfl,hy,(dZ _ _ _ (by decide +kernel) (by decide +kernel) (by decide +kernel)),_,rfl,rfl,_,rfl,?_⟩
  by_cases hk:k=.pu
  ·have hs:s'=p:=sv.pu _ (mem_of_getElem? ez) hk;refine L2.ifT (by show decide (V.str k.wd=V.str "push")=true;rw[Eo];exact decide_eq_true hk) ?_;refine⟨_,rfl,_,rfl,yr,CK _,_,_,_,rfl,hy,T.cl _,T.nZ _,fZ _ _ _,xD ((s02.trans s4).fq fw) (s4.fq fz) ⟨_,rfl,?_⟩⟩;exact L2.ifF (by show (!decide (s'=p))=false;rw[decide_eq_true hs];rfl) ⟨s4,⟨_,_,rfl⟩⟩
  ·exact L2.ifF (by show decide (V.str k.wd=V.str "push")=false;rw[Eo];exact decide_eq_false hk) (eY ⟨s4,⟨_,_,rfl⟩⟩)
 rintro σ H3 ⟨s3,⟨z3,z4,rfl⟩⟩;have s03:=s02.trans s3;obtain⟨dx3,hn3⟩:=(nt.same s03).ob;refine⟨_,rfl,_,rfl,_,rfl,n,dx3,_,rfl,hn3,fQ _ _ (by decide +kernel) (by decide +kernel),n,l,_,ds,rfl,nt.same s03,?_⟩;refine⟨a,b,xs,ys,ds,ss,m,N,nb,L,rfl,s3.seq (SqL.of ea),Rb.same s3,s03.seq hS,hF.same s03,hl,h60,sv.f,sv.L1,sv.LB,sv.nb,sv.hN,hpt,h20,fun c zs H4 s4 ec F4=>?_⟩;have s04:=s03.trans s4;have lz:=F4.length;have len:(cX m (ds.zip ss)).length=m:=(oO fun e he=>⟨hpt _ (of_mem_zip he).1,hL _ (of_mem_zip he).2⟩).1;refine⟨c,rfl,⟨_,SqL.of ec⟩,fun D hD'=>?_⟩;have sD:=aG hD' (.lst []);refine dE (xs:=zs) (fun i ws H'=>aV H4 H'/\H' D=some (.lst ws)/\ws=(((cX m (ds.zip ss)).take i).map (fun _=>true)).map V.bl) ⟨sD,aB,rfl⟩ (fun i ws H' h=>h.2.1) (fun i ws H' _ h=>h.1.seq (SqL.of ec)) ?_ ?_
 ·rintro i ws x H5 hx ⟨s5,e5,rfl⟩ C hC;obtain⟨w,p,rfl,ep,fp'⟩:=F4.get hx;have hi:i < (cX m (ds.zip ss)).length:=(List.getElem?_eq_some_iff.mp ep).1;have p0:=sv.z p (mem_of_getElem? ep);refine⟨dD.1,dD.2,fI ?_⟩;refine⟨_,rfl,?_⟩;dsimp only[tC];refine xD (s5.fq fp') (fN _) ?_;refine⟨e5,bA (by rw[length_map,length_map,length_take];lia),hC _ _ ⟨s5.change hD',aB,?_⟩⟩;rw[take_add_one,ep,map_append,map_append];show _++[V.bl (decide (p=(0,1)))]=_;rw[decide_eq_true p0];rfl
 ·rintro ws H5 ⟨s5,e5,rfl⟩;refine⟨D,_,rfl,SqL.of e5,?_⟩;rw[lz,take_length,all_map,show (cX m (ds.zip ss)).all (id ∘ fun _=>true)=true by simp];exact q _ (s04.trans s5)
abbrev Cf:Stmt:=top 87
theorem Sq:aQ ["_law_found","_law_due"] ["_law_found","_law_due"] (aI Cf):=sK9 rfl rfl rfl rfl (by decide +kernel)
def Gn (K:Frag):Sp:=fun vs H Q _=>∃(a b:Addr) (xs ys:List V) (ps:List Q2),vs=[.ref a,.ref b]/\SqL K H a xs/\Fqs K H xs ps/\SqL K H b ys/\Fqs K H ys ps/\ps.length<=1000/\∀H',aV H H'->Q (.bl true) H'
theorem oJ:(["_law_one","_law_other"]:List Str).Nodup:=by decide +kernel
theorem Mg {dV:Value}(F:aY K "_law_told_list" "_law_told_list" Cf dV f fd)(b:Bl mg)(ml:mg "len"=none)(mli:mg "list"=none)(ma:mg "all"=none)(mz:mg "zip"=none)(G1:aL P w K mg base CX0 1 g1 gd1 ["_law_found","_law_due"] (Lf K))(b1:aM K gd1 ["_law_found","_law_due"] [])(k1:kI9 K g1)(m1:mI9 mg "_law_told" g1) :
  aL P w K mg base CX 2 f fd ["_law_found","_law_due"] (Gn K):=by
 refine F.ok Sq (fun vs H Q E h=>?_) fun cdv A outer s H vs Q E hr h=>?_
 ·obtain⟨_,_,_,_,_,rfl,_⟩:=h;rfl
 obtain⟨a,d,xs,ys,ps,rfl,hx,fx,hy,fy,hlen,q⟩:=h;refine⟨_,(aC (cA (PW.pt (nT (fV (dU (gH (i:=0) rfl (Or.inl rfl) b.isi mli rfl rfl PyProof.Rows.boot_list))) (lW (bG nQ (bN bC rfl ml PySem.boot_len (aA (pv 0) aD)) (bN bC rfl ml PySem.boot_len (aA (pv 1) aD)) (bK _))))) (aF (aX iB)) bH)
  (aF (aX (bN (oY rfl) rfl ma PyProof.Rows.boot_all (aA (eU (nl:=2) (fr:=[]) (Nc:=["_law_one","_law_other"]) (cl:=[]) (g:=(Jq K 2 (kU (jO 0) (kU (jO 1) Jk)))) rfl ⟨rfl,rfl,by decide +kernel,by decide +kernel,fun x c h=>(by cases h),eP rfl,rfl,fun i n h=>(by simp at h)⟩
    (nU rfl mz rfl (aA (pv 0) (aA (pv 1) aD))) (fun C s3 H3 fp pins=>(gK rfl (bO (aZ (i:=0) oJ rfl (Or.inl rfl)) (bO (aZ (i:=1) oJ rfl (Or.inl rfl)) fH)))) (fun C s3 H3 fp pins=>dL)
    (fun C s3 H3 fp pins=>(aH G1 hr rfl m1 k1 b1 .nil aK (aA (pv 0) (aA (pv 1) aD))))) aD))))),?_⟩
 have lx:=fx.length;have ly:=fy.length;refine⟨_,_,true,rfl,.lst hx,rfl,_,rfl,eY ⟨_,rfl,a,_,rfl,.inl hx,_,rfl,d,_,rfl,.inl hy,rfl,_,rfl,?_⟩⟩;rw[lx,ly];refine Yt rfl ?_;refine⟨_,rfl,_,rfl,a,d,rfl,⟨_,hx⟩,⟨_,hy⟩,fun D hD=>?_⟩;have sD:=aG hD (.lst []);refine sI (xs:=xs) (ys:=ys) (fun i zs H'=>aV H H'/\H' D=some (.lst zs)/\zs=(replicate i true).map V.bl) ⟨sD,aB,rfl⟩ (fun i zs H' h=>h.2.1) (fun i zs H' _ h=>⟨h.1.seq hx,h.1.seq hy⟩) ?_ ?_
 ·rintro i zs x y H1 T1 ex ey ⟨s1,e1,rfl⟩ hT C hC;obtain⟨u,p,rfl,ep,fu⟩:=fx.get ex;obtain⟨v,p',rfl,ep',fv⟩:=fy.get ey;rw[ep] at ep'
  cases ep'
  have sT:=aG hT (.tup [.ref u,.ref v]);refine⟨T1,_,rfl,SqT.of aB,rfl,_,_,rfl,_,_,rfl,rfl,nH.1,nH.2,fI ?_⟩;refine⟨_,rfl,_,rfl,u,v,p,rfl,sT.fq (s1.fq fu),sT.fq (s1.fq fv),?_⟩;have e2:=sT _ _ e1;have hi:i < ps.length:=(List.getElem?_eq_some_iff.mp ep).1;refine⟨e2,bA (by rw[length_map,length_replicate];lia),hC _ _ ⟨(s1.trans sT).change hD,aB,?_⟩⟩;rw[replicate_succ',map_append];rfl
 ·rintro zs H1 ⟨s1,e1,rfl⟩;refine⟨D,_,rfl,SqL.of e1,?_⟩;rw[show (replicate (min xs.length ys.length) true).all id=true by simp];exact q _ s1
structure Hr (m:Nat) (ds:List RD) (sol:List Q2):Prop where
 len:sol.length=wd m ds
 low:iW sol
 sv:Sv m ds (eqR m ds) (uP sol)
theorem Hr.uni {m:Nat}{ds:List RD}{ps qs:List Q2}(o:Nof m ds)(h:Hr m ds ps)(g:Hr m ds qs):ps=qs:=by
 have l1:=h.len;have l2:=g.len;refine ext_getElem (by lia) fun i hi hi'=>?_;have:=Sv.uni o h.sv g.sv (i+1) (by lia);unfold uP at this;rw[if_neg (by lia),if_neg (by lia),Nat.add_sub_cancel,getD_eq_getElem?_getD,getD_eq_getElem?_getD,getElem?_eq_getElem hi,getElem?_eq_getElem hi'] at this;exact mH (h.low _ (getElem_mem hi)) (g.low _ (getElem_mem hi')) this
abbrev flS (m:Nat)(ds:List RD)(sol:List Q2):List Q2:=pK (lvS m sol) (sol.drop (m - 1)) 0 ds
def Tf (ds:List RD):List Nat:=(cP (fun k=>decide (k≠.pu)) (skl ds) ds.length).2.map (·.1)
def amF (ds:List RD)(ss own:List Q2):List Q2:=(Tf ds).map fun k=>Mq.minus (ss.getD k (0,1)) (own.getD k (0,1))
@[irreducible] def vT (CN:Addr) (K:Frag):Sp:=fun vs H Q _=>∃(n l b0:Addr) (m b:Nat) (kb wb:Nat->Nat) (L:Int) (ds:List RD) (sol:List Q2) (ys:List V) (ss:List Q2) (L':Int) (N nb:Nat),vs=[.ref n,.ref b0]/\Zz CN K H n l m b kb wb L ds/\bw b (wd m ds)<=3900/\(∀i,∃a:Int,Mq.B b a/\eqR m ds (i+1)=(a:Rat) / (L:Rat))/\Hr m ds sol/\(∀p∈flS m ds sol,Low p/\Bd 3900 p)/\SqL K H b0 ys/\Fqs K H ys ss/\Lh m L' N nb ds ss/\∀r zs H',aV H H'->H r=none->H' r=some (.lst zs)->Fqs K H' zs (amF ds ss (flS m ds sol))->Q (.ref r) H'
theorem qD {l:List Q2}{k:Nat}(h:k < l.length):l.getD k (0,1)∈l:=by
 rw[getD_eq_getElem?_getD,getElem?_eq_getElem h];exact getElem_mem h
theorem So {H H':Hp}{u:Addr}(s:aV H H')(h:H' u=none):H u=none:=by
 cases e:H u with
 |none=>rfl
 |some o=>rw[s _ _ e] at h;cases h
theorem Py (k:Kd):wHo k=true↔k=.ho:=by
 cases k
 ·exact⟨fun h=>absurd h (by decide +kernel),fun h=>by cases h⟩
 ·exact⟨fun h=>absurd h (by decide +kernel),fun h=>by cases h⟩
 ·exact⟨fun _=>rfl,fun _=>by decide +kernel⟩
theorem Sr {m:Nat}{ds:List RD}(o:Nof m ds):Hj m ds=[]:=by
 unfold Hj;rw[filter_eq_nil_iff.mpr fun p hp=>?_]
 ·rfl
 ·have pm:=mem_range.mp hp;rw[(Pj o.pt pm (by have:=o.m1;lia)).mpr (o.cn p pm).symm];simp
theorem Lw {H H':Hp}{x dx C:Addr}(hx:H x=none)(hd:H dx=none)(s:dB x (upd (upd H dx (.own x)) x (.ins C dx [])) H'):aV H H':=fun b o h=>by
 have n1:b≠x:=fun z=>by rw[z,hx] at h;cases h
 have n2:b≠dx:=fun z=>by rw[z,hd] at h;cases h
 exact s b o (by rw[aU n1,aU n2];exact h) n1
theorem Qa {H:Hp}{x dx C:Addr}(hx:H x=none)(hd:H dx=none):aV H (upd (upd H dx (.own x)) x (.ins C dx [])):=fun b o h=>by
 have n1:b≠x:=fun z=>by rw[z,hx] at h;cases h
 have n2:b≠dx:=fun z=>by rw[z,hd] at h;cases h
 rw[aU n1,aU n2];exact h
theorem Ta:(["ring"]:List Str).Nodup:=by decide +kernel
theorem kN:(["number","streams","own"]:List Str).Nodup:=by decide +kernel
abbrev Xt:Stmt:=top 73
theorem Jw:aQ ["net","streams","own","closing"] ["net","streams"] (aI Xt):=sK9 rfl rfl rfl rfl (by decide +kernel)
theorem Vd {dV:Value}(F:aY K "amounts" "amounts" Xt dV f fd){CN CA:Addr}(ABx:AB K mg CA){gAI:Addr}{gdAI:FuncData}(GAI:aL P w K mg base CX0 8 gAI gdAI ["self","net"] (zZ CN CA K))(bAI:aM K gdAI ["self","net"] [])(MA:Mk K CA gAI){gSt:Addr}{gdSt:FuncData}(GSt:aL P w K mg base CX0 1 gSt gdSt ["self"] (wG CA K))(bSt:aM K gdSt ["self"] [])(mSt:gL K CA "streams" gSt)(G1:aL P w K mg base CX0 5 g1 gd1 ["net","streams"] (qO CN K))(b1:aM K gd1 ["net","streams"] [])(k1:kI9 K g1)(m1:mI9 mg "serves" g1){ds2:List Value}(G2:aL P w K mg base CX0 5 g2 gd2 ["net","words"] (rK CN K))(bd2:aM K gd2 ["net","words"] ds2)(d2:bZ [.non] ds2)(k2:kI9 K g2)(m2:mI9 mg "rings" g2)(G3:aL P w K mg base CX0 3 g3 gd3 ["one","other"] (gC K Mq.minus))(b3:aM K gd3 ["one","other"] [])(k3:kI9 K g3)(m3:mI9 mg "minus" g3) :
  aL P w K mg base CX 10 f fd ["net","streams"] (vT CN K):=by
 refine F.ok Jw (fun vs H Q E h=>?_) fun cdv A outer s H vs Q E hr h=>?_
 ·unfold vT at h;obtain⟨n,l,b0,m,b,kb,wb,L,ds,sol,ys,ss,L',N,nb,rfl,NB,hw39,hR,SK,FL,hS,hF,sv,q⟩:=h;rfl
 unfold vT at h;obtain⟨n,l,b0,m,b,kb,wb,L,ds,sol,ys,ss,L',N,nb,rfl,NB,hw39,hR,SK,FL,hS,hF,sv,q⟩:=h;have r1:=hr.mono (show 1<=9 by lia);have r3:=hr.mono (show 3<=9 by lia);have r5:=hr.mono (show 5<=9 by lia);have r9:=hr;refine⟨_,(aC (cA (fV (dU (aH G1 r5 rfl m1 k1 b1 .nil aK (aA (pv 0) (aA (pv 1) aD))))) (aF fY) bH)
  (aC (aR (i:=2) Jw.nd rfl (Or.inr rfl) (fX (pF MA GAI r9 rfl ABx.mA bAI .nil aK (aA (pv 0) aD)) ABx.cl mSt GSt r1 bSt .nil aK))
  (aC (oQ (i:=3) (nl:=1) (fr:=[]) (Nc:=["ring"]) (cl:=[]) Jw.nd rfl rfl rfl ⟨rfl,rfl,by decide +kernel,by decide +kernel,fun x c h=>(by cases h),eP rfl,rfl,fun i n h=>(by simp at h)⟩
    (cU (aH G2 r5 rfl m2 k2 bd2 d2 aK (aA (pv 0) aD))) (fun C s3 H3 fp pins=>(aZ (i:=0) Ta rfl (Or.inl rfl))) (fun C s3 H3 fp pins=>dL)
    (fun C s3 H3 fp pins=>(aS (oW (K:=K) rfl) (aS (jQ (K:=K) rfl) (pv 0) aE (fun _ _=>rfl)) aE (fun _ _=>rfl))) rfl)
  (aF (aX (eU (nl:=1) (fr:=[1,2]) (Nc:=["number","streams","own"]) (cl:=[("streams",s.heap.objs.size+1),("own",s.heap.objs.size+2)]) rfl ⟨rfl,rfl,by decide +kernel,by decide +kernel,(dG rfl (dG rfl (jU))),eP rfl,rfl,fun i n h=>match i,h with | 0,h=>by cases h;exact⟨1,rfl,rfl,rfl,rfl,.inl rfl⟩ | 1,h=>by cases h;exact⟨2,rfl,rfl,rfl,rfl,.inl rfl⟩ | k+2,h=>by rw[show 1+(k+2)=k+3 by lia] at h;cases h⟩
    (cU (pv 3)) (fun C s3 H3 fp pins=>(aZ (i:=0) kN rfl (Or.inl rfl))) (fun C s3 H3 fp pins=>dL)
    (fun C s3 H3 fp pins=>(aH G3 r3 rfl m3 k3 b3 .nil aK (aA (aS (jQ (K:=K) rfl) (pv 1) (pv 0) (fun _ _=>rfl)) (aA (aS (jQ (K:=K) rfl) (pv 2) (pv 0) (fun _ _=>rfl)) aD)))))))))),?_⟩
 have o:=NB.eb.o;have m20:=NB.m20;have h40:=NB.h40;have nt:=NB.nt;refine⟨_,rfl,_,rfl,n,l,b0,m,ds,ys,ss,L',N,nb,rfl,nt,by lia,hS,hF,sv,o.pt,m20,fun H1 s1=>⟨_,rfl,eY ?_⟩⟩;refine Xm (fun σ' H'=>aV H H'/\∃(t:Addr) (xs:List V),σ'=[some (.ref n),some (.ref b0),some (.ref t),none]/\SqL K H' t xs/\Fqs K H' xs (flS m ds sol)) (fun X hX=>?_) ?_
 ·refine⟨_,rfl,fun x dx hx0 hdx nxd=>?_⟩;have sm:=Qa (C:=CA) hx0 hdx;refine⟨x,dx,n,l,m,b,kb,wb,L,ds,rfl,aB,⟨nt.same (s1.trans sm),NB.ok,m20,h40,NB.cu,NB.eb⟩,hw39,hR,vB Py o.pt m20 o.fr _ (Nat.le_refl _),Sr o,fun ps H2 sx2 an lps lo OV SV=>⟨rfl,?_⟩⟩;have s2:=Lw hx0 hdx sx2;have ep:ps=sol:=Hr.uni o ⟨lps,lo,SV⟩ SK;subst ep;obtain⟨dxa',li,le,fo,xs,ys',ha,hle,Fle,hfo,Ffo,nw⟩:=an.e;have an':Ui CA K H2 x (lvS m ps) (flS m ds ps):=⟨_,_,_,_,_,_,ha,SqL.of hle,Fle,SqL.of hfo,Ffo⟩
  refine⟨x,dxa',_,rfl,ha,Km _ _ _ (by decide +kernel) (by decide +kernel) (by decide +kernel),x,_,_,rfl,an',fun t2 xs2 H4 s4 n2 e2 F2=>?_⟩;exact hX _ _ ⟨s1.trans (s2.trans s4),t2,xs2,rfl,SqL.of e2,F2⟩
 rintro σ2 H2 ⟨s2,t,xs,rfl,hT,hX2⟩;have slt:=Nz o.pt;have ri:=jM (W:=fun k=>decide (k≠.pu)) slt ds.length (by rw[pV];exact Nat.le_refl _);have hlen:=ri.rl;generalize eR:(cP (fun k=>decide (k≠.pu)) (skl ds) ds.length).2=R at hlen;have hRr:∀c∈R,c.1 < ds.length/\∃st,c.2=(c.1,1) :: st:=fun c hc=>by
  obtain⟨a,k,u,v,st,pts,_,e,_⟩:=ri.r c (by rw[eR];exact hc);exact⟨a,st,e⟩
 obtain⟨ks,hks⟩:∃ks:List Nat,R.map (·.1)=ks:=⟨_,rfl⟩
 have lk:ks.length=R.length:=by rw[<- hks,length_map]
 have eC:Tf ds=ks:=by unfold Tf;rw[eR,hks]
 refine gD (fun σ' H'=>aV H2 H'/\∃(D:Addr),σ'=[some (.ref n),some (.ref b0),some (.ref t),some (.ref D)]/\H' D=some (.lst (ks.map fun (k:Nat)=>V.int (k:Int)))) (fun X hX=>?_) ?_
 ·refine⟨_,rfl,n,l,.non,m,ds,_,rfl,nt.same s2,o.pt,m20,h40,.non,fun r us H3 s3 nr er rg nx=>?_⟩;rw[eR] at rg;refine⟨r,rfl,⟨_,SqL.of er⟩,fun D hD'=>?_⟩;have sD:=aG hD' (.lst []);refine dE (xs:=us) (fun i ws H'=>aV H3 H'/\H' D=some (.lst ws)/\ws=(ks.take i).map fun (k:Nat)=>V.int (k:Int)) ⟨sD,aB,rfl⟩ (fun i ws H' h=>h.2.1) (fun i ws H' _ h=>h.1.seq (SqL.of er)) ?_ ?_
  ·rintro i ws x H5 hx ⟨s5,e5,rfl⟩ C hC;have hl:=rg.l;rw[length_map] at hl;have hi:i < R.length:=by have:=(List.getElem?_eq_some_iff.mp hx).1;lia
   have hc:R[i]?=some R[i]:=getElem?_eq_getElem hi;obtain⟨hc1,st,est⟩:=hRr _ (mem_of_getElem? hc);generalize R[i]=c at hc hc1 est;obtain⟨a,xs',rfl,_,ea,sts⟩:=rg.r i x c.2 hx (by rw[getElem?_map,hc];rfl);rw[est] at sts;have sts5:=sts.same s5;have lx:=sts5.length;obtain⟨y,hy⟩:∃y,xs'[0]?=some y:=⟨_,getElem?_eq_getElem (by rw[lx];exact Nat.succ_pos _)⟩
   obtain⟨t',s',rfl,e0,ht⟩:=sts5.get hy
   cases e0
   refine⟨dD.1,dD.2,fI ?_⟩;refine⟨_,rfl,a,xs',0,.ref t',rfl,rfl,s5.seq (SqL.of ea),bU (j:=0) hy,t',_,0,_,rfl,rfl,ht,rfl,?_⟩;refine⟨e5,bA (by rw[length_map,length_take];lia),hC _ _ ⟨s5.change hD',aB,?_⟩⟩;rw[take_add_one,show ks[i]?=some c.1 by rw[<- hks,getElem?_map,hc];rfl,map_append];rfl
  ·rintro ws H5 ⟨s5,e5,rfl⟩;exact hX _ _ ⟨s3.trans s5,D,rfl,by rw[e5,take_of_length_le (by have:=rg.l;rw[length_map] at this;lia)]⟩
 rintro σ3 H3 ⟨s3,D0,rfl,eD0⟩;refine⟨_,rfl,D0,rfl,⟨_,SqL.of eD0⟩,fun D hD'=>?_⟩;have sD:=aG hD' (.lst []);have s03:=s2.trans s3;have lS:ss.length=ds.length:=sv.l;have lF:(flS m ds sol).length=ds.length:=uF _ _ _ _;refine dE (xs:=ks.map fun (k:Nat)=>V.int (k:Int)) (fun i ws H'=>aV H3 H'/\H' D=some (.lst ws)/\Fqs K H' ws ((amF ds ss (flS m ds sol)).take i)) ⟨sD,aB,.nil⟩ (fun i ws H' h=>h.2.1) (fun i ws H' _ h=>h.1.seq (SqL.of eD0)) ?_ ?_
 ·rintro i ws x H5 hx ⟨s5,e5,f5⟩ C hC;obtain⟨k,ek,rfl⟩:∃k,ks[i]?=some k/\x=V.int (k:Int):=by
   rw[getElem?_map] at hx
   cases h:ks[i]? with
   |none=>rw[h] at hx;cases hx
   |some k=>rw[h] at hx;exact⟨k,rfl,(Option.some.inj hx).symm⟩
  have hk:k < ds.length:=by
   obtain⟨c,hc,rfl⟩:=mem_map.mp (hks.symm ▸ mem_of_getElem? ek:k∈R.map (·.1));exact(hRr c hc).1
  obtain⟨u1,e1,f1⟩:=Fqs.getAt (hF.same (s03.trans s5)) (j:=k) (by lia);obtain⟨u2,e2,f2⟩:=Fqs.getAt (hX2.same (s3.trans s5)) (j:=k) (by lia);have w1:ss.getD k (0,1)∈ss:=qD (by lia);have w2:(flS m ds sol).getD k (0,1)∈flS m ds sol:=qD (by lia);have bd1:=(sv.f _ w1).bd (m:=80) sv.L1 sv.LB (by have:=sv.hN;lia);have nb9:=sv.nb;have eA:(amF ds ss (flS m ds sol))[i]?=some (Mq.minus (ss.getD k (0,1)) ((flS m ds sol).getD k (0,1))):=by
   unfold amF;rw[getElem?_map,eC,ek];rfl
  refine⟨dD.1,dD.2,fI ?_⟩;refine⟨_,rfl,_,rfl,b0,ys,(k:Int),.ref u1,rfl,rfl,(s03.trans s5).seq hS,bU e1,_,rfl,_,rfl,t,xs,(k:Int),.ref u2,rfl,rfl,(s3.trans s5).seq hT,bU e2,u1,u2,_,_,_,_,rfl,f1,f2,(sv.f _ w1).l.pos,(FL _ w2).1.pos,bd1,(FL _ w2).2,by lia,fun v H6 s6 e6=>?_⟩;have e6':=s6 _ _ e5;refine⟨e6',bA (by rw[f5.length,length_take];have:=(List.getElem?_eq_some_iff.mp eA).1;unfold amF at *;rw[length_map,eC] at *;lia),hC _ _ ⟨(s5.trans s6).change hD',aB,?_⟩⟩;rw[take_add_one,eA];exact((f5.same s6).upd e6').app (.cons ((Fq.of e6).upd e6') .nil)
 ·rintro ws H5 ⟨s5,e5,f5⟩;refine q _ _ _ (s03.trans s5) ?_ e5 ?_
  ·exact So s03 hD'
  ·rwa [length_map,take_of_length_le (by unfold amF;rw[length_map,eC];exact Nat.le_refl _)] at f5
end
structure AmR (m b:Nat) (L:Int) (ds:List RD) (sol own:List Q2):Prop where
 am:AmB m b L ds
 m20:m<=20
 h40:ds.length<=40
 sk:Hr m ds sol
 fl:∀p∈own,Low p/\Bd 3900 p
 fle:flS m ds sol=own
theorem AmR.call {CN:Addr}{K:Frag}{H:Hp}{n l b0:Addr}{m b N nb:Nat}{L L':Int}{ds:List RD}{sol own ss:List Q2}{ys:List V}{Q:VK}{E}(a:AmR m b L ds sol own)(nt:fC CN K H n l (m:Int) ds)(hS:SqL K H b0 ys)(hF:Fqs K H ys ss)(sv:Lh m L' N nb ds ss)(q:∀r zs H',aV H H'->H r=none->H' r=some (.lst zs)->Fqs K H' zs (amF ds ss own)->Q (.ref r) H'):vT CN K [.ref n,.ref b0] H Q E:=by
 unfold vT;exact⟨n,l,b0,m,b,_,_,L,ds,sol,ys,ss,L',N,nb,rfl,⟨nt,a.am.ok,a.m20,a.h40,a.am.cu,a.am.eb⟩,a.am.bw39,a.am.eR,a.sk,by rw[a.fle];exact a.fl,hS,hF,sv,by rw[a.fle];exact q⟩
theorem Dk:∀E:List Ez,(rwZ E).zip (E.map (·.2.2))=prZ E
 | []=>rfl
 |e :: r=>by show (e.2.1,e.2.2) :: (rwZ r).zip (r.map (·.2.2))=e.2 :: prZ r;rw[Dk r]
def rgF (ds:List RD):List (Nat × List Stp):=(cP jnW (skl ds) ds.length).2
theorem Mh (ds:List RD)(ss own:List Q2):amF ds ss own=(rgF ds).map fun c=>Mq.minus (ss.getD c.1 (0,1)) (own.getD c.1 (0,1)):=by
 unfold amF Tf;rw[map_map];rfl
theorem zO {l:List Q2}{m:Nat}(hl:l.length=m)(h:∀p,p < m->Low (l.getD p (0,1))/\Mq.val (l.getD p (0,1))=0):∀q∈l,q=(0,1):=fun q hq=>by
 obtain⟨i,hi,rfl⟩:=getElem_of_mem hq;obtain⟨a,b⟩:=h i (by lia);rw[getD_eq_getElem?_getD,getElem?_eq_getElem hi] at a b;exact mH a ⟨by decide,by decide⟩ (by rw[kW];exact b)
theorem Oi {ds:List RD}{i:Nat}{k:Kd}{u v:Nat}(h:(skl ds)[i]?=some (k,u,v))(hk:k≠.pu):∃d,ds[i]?=some d/\d.1≠.pu/\d.2.1.toNat=u/\d.2.2.1.toNat=v:=by
 unfold skl at h;rw[getElem?_map] at h
 cases e:ds[i]? with
 |none=>rw[e] at h;cases h
 |some d=>rw[e] at h;cases h;exact⟨d,rfl,hk,rfl,rfl⟩
section
variable {m t h bl:Nat} {L:Int} {hs:List Q2} {E E0:List Ez} {A:List Q2}
theorem Vq (hk:HtK m hs)(dz:Drz m t m hs E0)(l0:E0.length<=16)(m5:m<=5)(b:Bal m t (LZ E0) hs (bL (rwZ E0)) E 4)(l1:E.length<=E0.length+4)(bal:∀x,1<=x->x < m->ouR x (prZ E)=0):∃bl,bl<=496/\1<=LZ E0/\Mq.B bl (LZ E0)/\AmB m (bl+51) (LZ E0) (rwZ E):=by
 have a1:=Fm E0;have a2:=Hnk.hold_le dz.hn;rw[K46.Xc] at a2;have bb:=Xa (np:=(yZ E0).length) (hh:=bL (rwZ E0)) (mm:=m) (by lia) a2 m5;have L1:=LZ1 dz.en;have LB:=LZB dz.en;exact⟨_,by lia,L1,LB,b.am (bl:=30*(yZ E0).length+16) hk m5 (by lia) L1 ⟨_,rfl⟩ LB (by lia) bb bal⟩
theorem Wo (hk:HtK m hs)(b:Bal m t L hs h E 4)(m5:m<=5)(len:E.length<=20)(L1:1<=L)(LB:Mq.B bl L)(bl496:bl<=496)(d27:(27720:Int) ∣ L)(bal:∀x,1<=x->x < m->ouR x (prZ E)=0)(am:AmB m (bl+51) L (rwZ E)):AmR m (bl+51) L (rwZ E) (iE hs E) (E.map (·.2.2)):=by
 refine⟨am,by lia,by rw[length_map];lia,⟨Rg hk,b.low hk,b.sv hk bal⟩,fun p hp=>?_,b.flows hk⟩;obtain⟨e,he,rfl⟩:=mem_map.mp hp;have f:=(b.en e he).frA hk L1 d27;exact⟨f.l,(f.bd (m:=51) L1 LB (by decide)).mono (by lia)⟩
structure LwR (m:Nat) (L:Int) (bl:Nat) (ds:List RD) (ss:List Q2):Prop where
 o:Nof m ds
 m5:m<=5
 len:ds.length<=20
 L1:1<=L
 d27:(27720:Int) ∣ L
 s1:Lh m L (2 ^ 50) bl ds ss
theorem Yo (hk:HtK m hs)(b:Bal m t L hs h E 4)(m5:m<=5)(len:E.length<=20)(L1:1<=L)(LB:Mq.B bl L)(bl496:bl<=496)(d27:(27720:Int) ∣ L)(bal:∀x,1<=x->x < m->ouR x (prZ E)=0):LwR m L bl (rwZ E) (E.map (·.2.2)):=by
 have o:=b.nof;have pt:∀e∈prZ E,cK (m:Int) e.1.2.1 e.1.2.2.1:=fun e he=>by
  obtain⟨x,hx,rfl⟩:=mem_map.mp he;exact(b.en x hx).pt
 refine⟨o,m5,by rw[length_map];exact len,L1,d27,by rw[length_map,length_map],fun s hs=>?_,L1,LB,by lia,by decide,?_,?_⟩
 ·obtain⟨e,he,rfl⟩:=mem_map.mp hs;exact(b.en e he).frA hk L1 d27
 ·rw[Dk];intro e he k;obtain⟨x,hx,rfl⟩:=mem_map.mp he;exact((b.en x hx).pu k).1
 ·rw[Dk];have z:=Ss o.m1 pt bal;obtain⟨l1,l2⟩:=oO (m:=m) (D:=prZ E) fun e he=>⟨pt e he,by obtain⟨x,hx,rfl⟩:=mem_map.mp he;exact(b.en x hx).slow hk⟩
  exact zO l1 fun p hp=>⟨(l2 p hp).1,by rw[(l2 p hp).2,z p hp]⟩
end
section
variable {m bl:Nat} {L:Int} {ds:List RD} {ss A:List Q2}
theorem LwR.lt (w:LwR m L bl ds ss):∀d∈skl ds,d.2.1 < m/\d.2.2 < m:=Nz w.o.pt
theorem LwR.rk (w:LwR m L bl ds ss):RK (skl ds) m ds.length (cP jnW (skl ds) ds.length):=Lk w.lt (by have:=w.m5;lia) _ (by rw[pV];exact Nat.le_refl _)
theorem LwR.ri (w:LwR m L bl ds ss):RI jnW (skl ds) m ds.length (cP jnW (skl ds) ds.length):=jM w.lt _ (by rw[pV];exact Nat.le_refl _)
theorem LwR.len_rg (w:LwR m L bl ds ss):(rgF ds).length<=20:=Nat.le_trans w.ri.rl w.len
theorem LwR.ring (w:LwR m L bl ds ss){c:Nat × List Stp}(hc:c∈rgF ds):c.1 < ds.length/\c.2.length<=5/\(∀x,wS ds x c.2=0)/\(∀s∈c.2,s.1 < ds.length/\(s.2=1\/s.2=-1)/\∃d,ds[s.1]?=some d/\d.1≠.pu)/\∃st,c.2=(c.1,1) :: st/\∀s∈st,∀c'∈rgF ds,s.1≠c'.1:=by
 have ri:=w.ri;have rk:=w.rk;obtain⟨hc1,k,u,v,st,pts,hsk,ec,hst,ch,stl⟩:=ri.r c hc;have m5:=w.m5;have br:∀y∈(cP jnW (skl ds) ds.length).1,∃d,ds[y.1]?=some d/\d.1≠.pu/\d.2.1.toNat=y.2.1/\d.2.2.1.toNat=y.2.2:=fun y hy=>by
  obtain⟨k',e1,e2⟩:=rk.kb y hy;exact Oi e1 e2
 have hes:∀x,∀y∈(cP jnW (skl ds) ds.length).1,dlk ds y.1 x=dl y.2.1 y.2.2 x:=fun x y hy=>by
  obtain⟨d,e1,_,e3,e4⟩:=br y hy;unfold dlk;rw[e1];show dl d.2.1.toNat d.2.2.1.toNat x=_;rw[e3,e4]
 obtain⟨k',u',v',e1,e2⟩:=rk.kc c hc;rw[hsk] at e1
 cases e1
 obtain⟨d,d1,d2,d3,d4⟩:=Oi hsk e2;have inb:∀s∈st,∃y∈(cP jnW (skl ds) ds.length).1,y.1=s.1:=fun s hs=>mem_map.mp (hst s hs).2;refine⟨hc1,by rw[ec,length_cons];lia,fun x=>?_,fun s hs=>?_,st,ec,fun s hs c' hc' z=>?_⟩
 ·rw[ec];show dlk ds c.1 x*_+wS ds x st=0;rw[Ie ch (hes x)];have:dlk ds c.1 x=dl u v x:=by unfold dlk;rw[d1];show dl d.2.1.toNat d.2.2.1.toNat x=_;rw[d3,d4]
  rw[this];unfold dl;grind
 ·rw[ec] at hs;rcases mem_cons.mp hs with z | z
  ·subst z;exact⟨hc1,.inl rfl,d,d1,d2⟩
  ·obtain⟨y,hy,e⟩:=inb s z;obtain⟨d',f1,f2,_⟩:=br y hy;rw[e] at f1;refine⟨(List.getElem?_eq_some_iff.mp f1).1,?_,d',f1,f2⟩;obtain⟨i,hi,e⟩:=getElem_of_mem z;obtain⟨_,_,_,_,_,_,_,w⟩:=ch.g i s (by rw[<- e];exact getElem?_eq_getElem hi);rcases w with ⟨a,_⟩ | ⟨a,_⟩
   ·exact .inl a
   ·exact .inr a
 ·obtain⟨y,hy,e⟩:=inb s hs;exact rk.nc c' hc' (mem_map.mpr ⟨y,hy,by rw[e,z]⟩)
def tD (ds:List RD)(ss A:List Q2):List Q2:=ldF ss (tOf ((rgF ds).zip A))
theorem LwR.sto (w:LwR m L bl ds ss)(hA:∀p∈A,iA p):∀e∈tOf ((rgF ds).zip A),StO ss.length L (2 ^ 41) e:=fun e he=>by
 unfold tOf at he;obtain⟨c,hc,h1⟩:=mem_flatMap.mp he;obtain⟨s,hs,rfl⟩:=mem_map.mp h1;obtain⟨c1,c2⟩:=of_mem_zip hc;obtain⟨a1,a2,_⟩:=(w.ring c1).2.2.2.1 s hs;have n:=hA _ c2;exact⟨by rw[w.s1.l];exact a1,a2,n.l,Nl w.L1 w.d27 n.fr⟩
theorem LwR.cnt (w:LwR m L bl ds ss):(rgF ds).length+m=(ds.filter fun d=>jnW d.1).length+1:=by
 have:=Ee w.lt w.o.m1 (by have:=w.m5;lia) w.o.cn fun d hd k=>by
  obtain⟨i,hi,e⟩:=getElem_of_mem hd;exact⟨i,d.1,Jv (by rw[<- e];exact getElem?_eq_getElem hi),k⟩
 rw[pV] at this;refine this.trans ?_;congr 1;unfold skl;rw[filter_map,length_map];rfl
theorem LwR.own (w:LwR m L bl ds ss):amF ds ss ss=replicate (rgF ds).length (0,1):=by
 rw[Mh];refine ext_getElem (by rw[length_map,length_replicate]) fun i h1 h2=>?_;rw[getElem_map,getElem_replicate];have hi:i < (rgF ds).length:=by rw[length_map] at h1;exact h1
 have hc:=w.ring (getElem_mem hi);have f:=Pn w.s1.f (i:=(rgF ds)[i].1) (by rw[w.s1.l];exact hc.1);exact mH (dX f.l.pos f.l.pos) ⟨by decide,by decide⟩ (by rw[eV f.l.pos f.l.pos,kW];grind)
theorem LwR.led (w:LwR m L bl ds ss)(lA:A.length=(rgF ds).length)(hA:∀p∈A,iA p):Lh m L (2 ^ 51) bl ds (tD ds ss A)/\amF ds (tD ds ss A) ss=A:=by
 have st:=w.sto hA;have s1:=w.s1;have lR:=w.len_rg;obtain⟨a,f,v⟩:=Ep (A:=2 ^ 41) (tOf ((rgF ds).zip A)) s1.f st;have lT:(tOf ((rgF ds).zip A)).length<=100:=by
  refine Nat.le_trans (yB (k:=5) fun c hc=>(w.ring (of_mem_zip hc).1).2.1) ?_;rw[length_zip];lia
 have fo:∀p∈tD ds ss A,Fw L (2 ^ 51) p:=fun p hp=>(f p hp).mono (by
  have:=Nat.mul_le_mul_right (2 ^ 41) lT;lia)
 have pt:=w.o.pt;have lo:(tD ds ss A).length=ds.length:=a.trans s1.l;have L0:∀i,i < ds.length->Low ((tD ds ss A).getD i (0,1))/\Low (ss.getD i (0,1)):=fun i hi=>⟨(Pn fo (by lia)).l,(Pn s1.f (by rw[s1.l];exact hi)).l⟩
 refine⟨⟨lo,fo,s1.L1,s1.LB,s1.nb,by decide,fun e he k=>?_,?_⟩,?_⟩
 ·obtain⟨i,hi,ei⟩:=getElem_of_mem he;rw[length_zip] at hi;rw[getElem_zip] at ei;subst ei;have h1:ds[i]?=some ds[i]:=getElem?_eq_getElem (by lia);have z:tS i (tOf ((rgF ds).zip A))=0:=Nd fun e' he' z=>by
   unfold tOf at he';obtain⟨c,hc,h2⟩:=mem_flatMap.mp he';obtain⟨s,hs,rfl⟩:=mem_map.mp h2;obtain⟨_,_,d,d1,d2⟩:=(w.ring (of_mem_zip hc).1).2.2.2.1 s hs;rw[show s.1=i from z,h1] at d1
   cases d1
   exact d2 k
  have:=v i (by rw[s1.l];lia);rw[z,Rat.add_zero] at this;have e1:=mH (L0 i (by lia)).1 (L0 i (by lia)).2 this;have hs:i < ss.length:=by rw[s1.l];lia
  have q:=s1.pu (ds[i],ss[i]) (by rw[mem_iff_getElem?];exact⟨i,getElem?_zip_eq_some.mpr ⟨h1,getElem?_eq_getElem hs⟩⟩) k;show (tD ds ss A)[i]=_;rw[getD_eq_getElem?_getD,getElem?_eq_getElem (by lia),getD_eq_getElem?_getD,getElem?_eq_getElem hs] at e1;exact(show (tD ds ss A)[i]=ss[i] from e1).trans q
 ·obtain⟨l1,l2⟩:=oO (m:=m) (D:=ds.zip (tD ds ss A)) fun e he=>⟨pt _ (of_mem_zip he).1,(fo _ (of_mem_zip he).2).l⟩
  obtain⟨g1,g2⟩:=oO (m:=m) (D:=ds.zip ss) fun e he=>⟨pt _ (of_mem_zip he).1,(s1.f _ (of_mem_zip he).2).l⟩
  refine zO l1 fun p hp=>⟨(l2 p hp).1,?_⟩
  rw[(l2 p hp).2];unfold tD;rw[Tq p _ s1.l s1.f st,Ul fun c hc=>(w.ring (of_mem_zip hc).1).2.2.1 p,<- (g2 p hp).2,s1.z _ (qD (by lia)),kW];grind
 ·have nd:(((rgF ds).zip A).map (·.1.1)).Nodup:=by
   have:((rgF ds).zip A).map (·.1.1)=(rgF ds).map (·.1):=by
    rw[show (fun c:Cr=>c.1.1)=(fun c:Nat × List Stp=>c.1) ∘ Prod.fst from rfl,<- map_map,map_fst_zip (by lia)]
   rw[this];exact w.rk.nd
  rw[Mh];refine ext_getElem (by rw[length_map];exact lA.symm) fun i h1 h2=>?_;have hi:i < (rgF ds).length:=by lia
  rw[getElem_map];have hc:=getElem_mem hi;have hz:((rgF ds)[i],A[i])∈(rgF ds).zip A:=by
   rw[mem_iff_getElem?];exact⟨i,getElem?_zip_eq_some.mpr ⟨getElem?_eq_getElem hi,getElem?_eq_getElem h2⟩⟩
  generalize (rgF ds)[i]=c at hc hz;have rc:=w.ring hc;obtain⟨o1,o2⟩:=L0 c.1 rc.1;refine mH (dX o1.pos o2.pos) (hA _ (getElem_mem h2)).l ?_;rw[eV o1.pos o2.pos];unfold tD;rw[v c.1 (by rw[s1.l];exact rc.1),Ub fun c' hc'=>?_,Tt nd _ hz]
  ·grind
  ·obtain⟨st,e,n⟩:=(w.ring (of_mem_zip hc').1).2.2.2.2;exact⟨st,e,fun t ht=>n t ht c hc⟩
end
section
variable {P:Program} {w:World} {K:Frag} {mg:Str->Option Value} {base:Heap} {f g1 g2 g3 g4 g5 g6 g7 g8:Addr} {fd gd1 gd2 gd3 gd4 gd5 gd6 gd7 gd8:FuncData} {CX:CXT}
variable {CR:Addr} {CK:Kd->Addr} {fW fJ fT fS:Kd->Addr} {fdW fdJ fdT fdS:Kd->FuncData}
structure C46 (CN:Addr) (K:Frag) (H:Hp) (m:Nat) (ds:List RD) (ss:List Q2) (n l s R:Addr) (us ys:List V):Prop where
 nt:fC CN K H n l (m:Int) ds
 hS:SqL K H s ys
 hF:Fqs K H ys ss
 hR:SqL K H R us
 rg:∃H0,Rgs K H0 H us ((rgF ds).map (·.2))
theorem C46.same {CN:Addr}{K:Frag}{H H':Hp}{m:Nat}{ds:List RD}{ss:List Q2}{n l s R:Addr}{us ys:List V}(e:aV H H')(c:C46 CN K H m ds ss n l s R us ys):C46 CN K H' m ds ss n l s R us ys:=
 ⟨c.nt.same e,e.seq c.hS,c.hF.same e,e.seq c.hR,let ⟨H0,g⟩:=c.rg;⟨H0,g.same e⟩⟩
theorem Kh {ds:List RD}{i:Nat}{d:RD}(hd:ds[i]?=some d):((ds.take (i+1)).filter fun d=>jnW d.1).length=((ds.take i).filter fun d=>jnW d.1).length+if jnW d.1 then 1 else 0:=by
 rw[take_add_one,hd,filter_append,List.length_append];congr 1
 by_cases hj:jnW d.1=true
 ·rw[if_pos hj];show (List.filter _ [d]).length=1;rw[filter_cons_of_pos (by exact hj)];rfl
 ·rw[if_neg hj];show (List.filter _ [d]).length=0;rw[filter_cons_of_neg (by exact hj)];rfl
def Gr (K:Frag):Sp:=fun vs H Q _=>∃(a:Addr) (ns:List Int),vs=[.ref a]/\SqL K H a (ns.map V.int)/\ns.length<=63/\∀H',Q (.bl true) H'
theorem Sz:(["_law_row"]:List Str).Nodup:=by decide +kernel
abbrev yV:Stmt:=top 92
theorem hV:aQ ["_law_script","_law_many","_law_rows","_law_streams","_law_heights","_law_net_here","_law_known","_law_joined","_law_cell","_law_due","_law_other","_law_ring","_law_amount","_law_number_here","_law_way","_law_handed","_law_found"] ["_law_script"] (aI yV):=sK9 rfl rfl rfl rfl (by decide +kernel)
theorem Vk {dV:Value}(F:aY K "law" "law" yV dV f fd){CN:Addr}(NTx:NT K mg CN)(ml:mg "len"=none)(mr:mg "range"=none)(mli:mg "list"=none)(mz:mg "zip"=none)(G1:aL P w K mg base CX0 1 g1 gd1 ["_law_script","_law_k"] (Dc K))(b1:aM K gd1 ["_law_script","_law_k"] [])(k1:kI9 K g1)(m1:mI9 mg "_law_draw" g1)(G2:aL P w K mg base CX0 4 g2 gd2 ["_law_script","_law_many","_law_most"] (Kn K))(b2:aM K gd2 ["_law_script","_law_many","_law_most"] [])(k2:kI9 K g2)(m2:mI9 mg "_law_answered" g2)(G3:aL P w K mg base CX0 6 g3 gd3 ["_law_many","_law_rows"] (Gp CN K))(b3:aM K gd3 ["_law_many","_law_rows"] [])(k3:kI9 K g3)(m3:mI9 mg "_law_net" g3){ds4:List Value}(G4:aL P w K mg base CX0 5 g4 gd4 ["net","words"] (rK CN K))(bd4:aM K gd4 ["net","words"] ds4)(d4:bZ [.non] ds4)(k4:kI9 K g4)(m4:mI9 mg "rings" g4)(G5:aL P w K mg base CX0 5 g5 gd5 ["net","streams"] (qO CN K))(b5:aM K gd5 ["net","streams"] [])(k5:kI9 K g5)(m5:mI9 mg "serves" g5)(G6:aL P w K mg base CX0 2 g6 gd6 ["_law_found","_law_due"] (Gn K))(b6:aM K gd6 ["_law_found","_law_due"] [])(k6:kI9 K g6)(m6:mI9 mg "_law_told_list" g6)(G7:aL P w K mg base CX0 10 g7 gd7 ["net","streams"] (vT CN K))(b7:aM K gd7 ["net","streams"] [])(k7:kI9 K g7)(m7:mI9 mg "amounts" g7)(G8:aL P w K mg base CX0 2 g8 gd8 ["_law_cell","_law_turn"] pQ)(b8:aM K gd8 ["_law_cell","_law_turn"] [])(k8:kI9 K g8)(m8:mI9 mg "_law_number" g8){g9:Addr}{gd9:FuncData}(G9:aL P w K mg base CX0 1 g9 gd9 ["_law_cell","_law_k"] xF)(b9:aM K gd9 ["_law_cell","_law_k"] [])(k9:kI9 K g9)(m9:mI9 mg "_law_part" g9){g10:Addr}{gd10:FuncData}(G10:aL P w K mg base CX0 1 g10 gd10 ["_law_cell","_law_turn","_law_many"] tP)(b10:aM K gd10 ["_law_cell","_law_turn","_law_many"] [])(k10:kI9 K g10)(m10:mI9 mg "_law_mix" g10){g11:Addr}{gd11:FuncData}(G11:aL P w K mg base CX0 2 g11 gd11 ["_law_one","_law_other"] (gC K Mq.plus))(b11:aM K gd11 ["_law_one","_law_other"] [])(k11:kI9 K g11)(m11:mI9 mg "_law_plus" g11){g12:Addr}{gd12:FuncData}(G12:aL P w K mg base CX0 2 g12 gd12 ["_law_one","_law_other"] (gC K kX))(b12:aM K gd12 ["_law_one","_law_other"] [])(k12:kI9 K g12)(m12:mI9 mg "_law_times" g12) :
  aL P w K mg base CX 11 f fd ["_law_script"] (Gr K):=by
 refine F.ok hV (fun vs H Q E h=>?_) fun cdv A outer s H vs Q E hr h=>?_
 ·obtain⟨_,_,rfl,_⟩:=h;rfl
 obtain⟨a,ns,rfl,hS,h63,Qq⟩:=h;have hu:=hr.units;have r1:=hr.mono (show 1<=10 by lia);have r2:=hr.mono (show 2<=10 by lia);have r3:=hr.mono (show 3<=10 by lia);have r4:=hr.mono (show 4<=10 by lia);have r5:=hr.mono (show 5<=10 by lia);have r6:=hr.mono (show 6<=10 by lia);refine⟨_,(aC (aR (i:=1) hV.nd rfl (Or.inl rfl) (aT cW aE (aT jF (aH G1 r1 rfl m1 k1 b1 .nil aK (aA (pv 0) (aA aE aD))) aE)))
  (aC (gV (aH G2 r4 rfl m2 k2 b2 .nil aK (aA (pv 0) (aA (pv 1) (aA aE aD)))) (gK rfl (bO (aZ (i:=2) hV.nd rfl (Or.inl rfl)) (bO (aZ (i:=3) hV.nd rfl (Or.inl rfl)) (bO (aZ (i:=4) hV.nd rfl (Or.inl rfl)) fH)))))
  (aC (aR (i:=5) hV.nd rfl (Or.inl rfl) (aH G3 r6 rfl m3 k3 b3 .nil aK (aA (pv 1) (aA (pv 2) aD))))
  (aC (aR (i:=6) hV.nd rfl (Or.inl rfl) (aH G4 r5 rfl m4 k4 bd4 d4 aK (aA (pv 5) aD)))
  (aC (oQ (i:=7) (nl:=1) (fr:=[]) (Nc:=["_law_row"]) (cl:=[]) hV.nd rfl rfl rfl ⟨rfl,rfl,by decide +kernel,by decide +kernel,fun x c h=>(by cases h),eP rfl,rfl,fun i n h=>(by simp at h)⟩
    (cU (pv 2)) (fun C s3 H3 fp pins=>(aZ (i:=0) Sz rfl (Or.inl rfl))) (fun C s3 H3 fp pins=>(yN (bG nQ (aS (oW (K:=K) rfl) (pv 0) aE (fun _ _=>rfl)) cL (bK _))))
    (fun C s3 H3 fp pins=>(pv 0)) rfl)
  (aC (cA (bG nQ (bN bC rfl ml PySem.boot_len (aA (pv 6) aD)) (aT cW (aT jD (bN bC rfl ml PySem.boot_len (aA (pv 7) aD)) (pv 1)) aE) (bK _)) (aF (aX iB)) bH)
  (aC (cA (bG vO (aH G5 r5 rfl m5 k5 b5 .nil aK (aA (pv 5) (aA (gX fB rfl mli PyProof.Rows.boot_list (aA (pv 3) aD)) aD))) iB (bK _)) (aF (aX iB)) bH)
  (aC (cA (fV (dU (aH G6 r2 rfl m6 k6 b6 .nil aK (aA (aH G7 hr rfl m7 k7 b7 .nil aK (aA (pv 5) (aA (gX fB rfl mli PyProof.Rows.boot_list (aA (pv 3) aD)) aD))) (aA (aT qM (cZ (aA (dH (aA aE (aA aE aD))) aD)) (bN bC rfl ml PySem.boot_len (aA (pv 6) aD))) aD))))) (aF (aX iB)) bH)
  (aC (aR (i:=8) hV.nd rfl (Or.inr rfl) (aH G1 r1 rfl m1 k1 b1 .nil aK (aA (pv 0) (aA aE aD))))
  (aC (oQ (i:=9) (nl:=1) (fr:=[8]) (Nc:=["_law_k","_law_cell"]) (cl:=[("_law_cell",s.heap.objs.size+1)]) hV.nd rfl rfl rfl ⟨rfl,rfl,by decide +kernel,by decide +kernel,fun x c h=>h,eP rfl,rfl,fun i n h=>match i,h with | 0,h=>by cases h;exact⟨8,rfl,rfl,rfl,rfl,.inl rfl⟩ | k+1,h=>by rw[show 1+(k+1)=k+2 by lia] at h;cases h⟩
    (gW rfl mr (aA (bN bC rfl ml PySem.boot_len (aA (pv 6) aD)) aD)) (fun C s3 H3 fp pins=>(aZ (i:=0) vI rfl (Or.inl rfl))) (fun C s3 H3 fp pins=>dL)
    (fun C s3 H3 fp pins=>(aH G8 r2 rfl m8 k8 b8 .nil aK (aA (aH G9 r1 rfl m9 k9 b9 .nil aK (aA (pv 1) (aA (pv 0) aD))) (aA aE aD)))) rfl)
  (aC (cA (bG zW (bN bC rfl ml PySem.boot_len (aA (pv 9) aD)) aE (bK _)) (aF (gV (dH (aA aE (aA aE aD))) (jI (pv 9) (aH G10 r1 rfl m10 k10 b10 .nil aK (aA (pv 8) (aA aE (aA (bN bC rfl ml PySem.boot_len (aA (pv 9) aD)) aD)))) gB))) bH)
  (aC (aR (i:=10) hV.nd rfl (Or.inl rfl) (gX fB rfl mli PyProof.Rows.boot_list (aA (pv 3) aD)))
  (aC (dW PassesOwn.never rfl (nU rfl mz rfl (aA (pv 6) (aA (pv 9) aD))) (gK rfl (bO (aZ (i:=11) hV.nd rfl (Or.inl rfl)) (bO (aZ (i:=12) hV.nd rfl (Or.inl rfl)) fH)))
   (aF (dW PassesOwn.never rfl (cU (pv 11)) (gK rfl (bO (aZ (i:=13) hV.nd rfl (Or.inl rfl)) (bO (aZ (i:=14) hV.nd rfl (Or.inl rfl)) fH)))
   (aF (gV (aH G11 r2 rfl m11 k11 b11 .nil aK (aA (aS bQ (pv 10) (pv 13) (fun _ _=>rfl)) (aA (aH G12 r2 rfl m12 k12 b12 .nil aK (aA (dH (aA (pv 14) (aA aE aD))) (aA (pv 12) aD))) aD))) (jI (pv 10) (pv 13) gB))))))
  (aC (aR (i:=15) hV.nd rfl (Or.inl rfl) (gX fB rfl mli PyProof.Rows.boot_list (aA (pv 10) aD)))
  (aC (aR (i:=16) hV.nd rfl (Or.inl rfl) (aH G7 hr rfl m7 k7 b7 .nil aK (aA (pv 5) (aA (pv 15) aD))))
  (aC (cA (PW.pt (nT (bG vO (aH G5 r5 rfl m5 k5 b5 .nil aK (aA (pv 5) (aA (pv 15) aD))) iB (bK _)) (lW (fV (dU (aH G6 r2 rfl m6 k6 b6 .nil aK (aA (pv 16) (aA (pv 9) aD)))))))) (aF (aX iB)) bH)
  (aC (bY (jP PySem.F.plainAttrs_list PySem.F.slot_list_append PySem.F.type_list_append fD (pv 16) (aA (dH (aA aE (aA aE aD))) aD)))
  (aC (cA (fV (dU (aH G6 r2 rfl m6 k6 b6 .nil aK (aA (aH G7 hr rfl m7 k7 b7 .nil aK (aA (pv 5) (aA (gX fB rfl mli PyProof.Rows.boot_list (aA (pv 3) aD)) aD))) (aA (aT qM (cZ (aA (dH (aA aE (aA aE aD))) aD)) (bN bC rfl ml PySem.boot_len (aA (pv 6) aD))) aD))))) (aF (aX iB)) bH)
  (aF (aX (kT (aH G6 r2 rfl m6 k6 b6 .nil aK (aA (aH G7 hr rfl m7 k7 b7 .nil aK (aA (pv 5) (aA (pv 15) aD))) (aA (pv 9) aD))) (qH (iK (xM hu) (pv 15) (pv 10) (bK _)))))))))))))))))))))))),?_⟩
 refine gD (fun σ' H'=>∃M:Nat,σ'=[some (.ref a),some (.int (M:Int)),none,none,none,none,none,none,none,none,none,none,none,none,none,none,none]/\1<=M/\M<=5/\aV H H') (fun X hX=>?_) ?_
 ·refine⟨_,rfl,a,ns,0,0,rfl,rfl,hS,h63,fun v H1 s1=>⟨_,_,rfl,rfl,(show (0:Int) < 5 by decide),_,_,rfl,rfl,?_⟩⟩;have f0:=Int.emod_nonneg v (show (5:Int)≠0 by decide);have f9:=Int.emod_lt_of_pos v (show (0:Int) < 5 by decide);obtain⟨M,hM⟩:∃M:Nat,1+v % 5=(M:Int):=⟨(1+v % 5).toNat,by lia⟩
  exact hX _ _ ⟨M,by rw[<- hM];rfl,by lia,by lia,s1⟩
 rintro σ1 H1 ⟨M,rfl,M1,M5,s1⟩
 try dsimp only
 refine⟨_,rfl,_,rfl,a,ns,M,12,rfl,s1.seq hS,h63,M1,M5,by decide,fun t r s hA E0 E hs w' H2 s2 nr ns' nhA n3 hk dz l0 b l1 bal=>?_⟩;obtain⟨bl,bl496,L1,LB,am⟩:=Vq hk dz (by lia) M5 b l1 bal;have AM:=Wo hk b M5 (by lia) L1 LB bl496 ⟨_,rfl⟩ bal am;have W:=Yo hk b M5 (by lia) L1 LB bl496 ⟨_,rfl⟩ bal;obtain⟨us0,er,hR0⟩:=n3.rw;obtain⟨ys,es,hF⟩:=n3.st;refine⟨t,_,rfl,n3.tp,rfl,_,_,rfl,_,_,rfl,_,_,rfl,rfl,?_⟩
 try dsimp only
 have hS2:=(s1.trans s2).seq hS;clear n3 hk dz b bal am nr ns' nhA l0 l1;generalize rwZ E=ds at *
 generalize E.map (·.2.2)=ss at *
 generalize iE hs E=sol at AM;generalize LZ E0=L at *
 have ok:∀d∈ds,Ho (M:Int) d:=fun d hd=>by
  obtain⟨i,hi,e⟩:=getElem_of_mem hd;exact(AM.am.ok i d (by rw[<- e];exact getElem?_eq_getElem hi)).ok
 have l20:=W.len;refine⟨_,rfl,_,rfl,(M:Int),r,us0,ds,rfl,by lia,by lia,SqL.of er,hR0,ok,by lia,fun n l H3 s3 nl nt=>?_⟩
 try dsimp only
 refine⟨_,rfl,n,l,.non,M,ds,_,rfl,nt,W.o.pt,by lia,by lia,.non,fun R us H4 s4 nR eR rg nx=>?_⟩
 try dsimp only
 have cx:C46 CN K H4 M ds ss n l s R us ys:=⟨nt.same s4,(s3.trans s4).seq (SqL.of es),hF.same (s3.trans s4),SqL.of eR,_,rg⟩
 have lus:us.length=(rgF ds).length:=by have:=rg.l;rw[length_map] at this;exact this
 have l20':=W.len_rg;have hR4:=hR0.same (s3.trans s4);have er4:SqL K H4 r us0:=(s3.trans s4).seq (SqL.of er);have hS4:=(s3.trans s4).seq hS2;have lR0:=hR4.length;have lss:=W.s1.l;have lys:=hF.length;clear nt rg nx nR eR nl er hR0 hS2 es hF s1 s2 s3 s4 hS;refine gD (fun σ' H'=>aV H4 H'/\∃(J:Addr) (js:List V),σ'=[some (.ref a),some (.int (M:Int)),some (.ref r),some (.ref s),some (.ref hA),some (.ref n),some (.ref R),some (.ref J),none,none,none,none,none,none,none,none,none]/\SqL K H' J js/\js.length=(ds.filter fun d=>jnW d.1).length) (fun X hX=>?_) ?_
 ·refine⟨_,rfl,r,rfl,⟨_,er4⟩,fun D hD=>?_⟩;have sD:=aG hD (.lst []);refine dE (xs:=us0) (fun i zs H'=>aV H4 H'/\H' D=some (.lst zs)/\zs.length=((ds.take i).filter fun d=>jnW d.1).length) ⟨sD,aB,rfl⟩ (fun i zs H' h=>h.2.1) (fun i zs H' _ h=>h.1.seq er4) ?_ ?_
  ·rintro i zs x H5 hx ⟨s5,e5,l5⟩ C hC;have hi:i < ds.length:=by have:=(List.getElem?_eq_some_iff.mp hx).1;lia
   obtain⟨d,hd⟩:∃d,ds[i]?=some d:=⟨_,getElem?_eq_getElem hi⟩
   obtain⟨t',z,et,ht,fz⟩:=hR4.at hd;have ex:x=.ref t':=by rw[et] at hx;exact(Option.some.inj hx).symm
   subst ex;have tk:=Kh hd;have le:((ds.take i).filter fun d=>jnW d.1).length<=20:=Nat.le_trans (length_filter_le _ _) (by rw[length_take];lia);refine⟨dD.1,dD.2,?_⟩;refine⟨_,rfl,t',_,_,_,rfl,rfl,s5.seqT ht,rfl,rfl,_,rfl,?_⟩
   by_cases hk:d.1=.pu
   ·refine L2.ifF (by show (!decide (V.str d.1.wd=V.str "push"))=false;rw[Eo,decide_eq_true hk];rfl) (hC _ _ ⟨s5,e5,?_⟩);rw[tk,if_neg (by simp[hk])];exact l5
   ·refine L2.ifT (by show (!decide (V.str d.1.wd=V.str "push"))=true;rw[Eo,decide_eq_false hk];rfl) ⟨_,rfl,e5,bA (by lia),hC _ _ ⟨s5.change hD,aB,?_⟩⟩;rw[tk,if_pos (by simp[hk]),List.length_append,l5];rfl
  ·rintro zs H5 ⟨s5,e5,l5⟩;rw[lR0,take_length] at l5;exact hX _ _ ⟨s5,D,zs,rfl,SqL.of e5,l5⟩
 rintro σ5 H5 ⟨s5,J,js,rfl,hJ,lJ⟩;have cnt:=W.cnt;rw[<- lJ,<- lus] at cnt;have cx5:=cx.same s5;refine⟨_,rfl,R,us,rfl,.inl cx5.hR,_,rfl,J,js,rfl,.inl hJ,_,rfl,_,_,rfl,rfl,_,_,rfl,rfl,rfl,_,rfl,?_⟩;refine L2.ifF (by show (!decide (V.int (us.length:Int)=V.int ((js.length:Int) - (M:Int)+1)))=false;rw[show (us.length:Int)=(js.length:Int) - (M:Int)+1 by lia,decide_eq_true rfl];rfl) ?_;refine Xm (fun σ' H'=>aV H5 H'/\σ'=[some (.ref a),some (.int (M:Int)),some (.ref r),some (.ref s),some (.ref hA),some (.ref n),some (.ref R),some (.ref J),none,none,none,none,none,none,none,none,none]) (fun X hX=>?_) ?_
 ·refine⟨_,rfl,_,rfl,s,ys,rfl,.inl cx5.hS,fun s7 hs7=>?_⟩;have q7:=aG hs7 (.lst ys);have e7:upd H5 s7 (.lst ys) s7=some (.lst ys):=aB;generalize upd H5 s7 (.lst ys)=H7 at q7 e7 ⊢;refine⟨n,l,s7,M,ds,ys,ss,L,_,bl,rfl,cx5.nt.same q7,by lia,SqL.of e7,cx5.hF.same q7,W.s1,W.o.pt,by lia,fun H8 s8=>⟨true,true,rfl,rfl,_,rfl,eY ?_⟩⟩;exact hX _ _ ⟨q7.trans s8,rfl⟩
 rintro σ6 H6 ⟨s6,rfl⟩;have cx6:=cx5.same s6;refine gD (fun σ' H'=>aV H6 H'/\σ'=[some (.ref a),some (.int (M:Int)),some (.ref r),some (.ref s),some (.ref hA),some (.ref n),some (.ref R),some (.ref J),none,none,none,none,none,none,none,none,none]) (fun X hX=>?_) ?_
 ·refine⟨_,rfl,_,rfl,s,ys,rfl,.inl cx6.hS,fun s7 hs7=>?_⟩;have q7:=aG hs7 (.lst ys);have e7:upd H6 s7 (.lst ys) s7=some (.lst ys):=aB;generalize upd H6 s7 (.lst ys)=H7 at q7 e7 ⊢;refine AM.call (E:=L2.E0) (cx6.nt.same q7) (SqL.of e7) (cx6.hF.same q7) W.s1 fun r8 z8 H8 q8 n8 e8 f8=>?_;rw[W.own,<- lus] at f8;refine⟨zl9 2,fun p hp=>?_⟩;have s4:=aG hp (.tup [.int 0,.int 1]);have e4:Fq K (upd H8 p (.tup [.int 0,.int 1])) p (0,1):=SqT.of aB;generalize upd H8 p (.tup [.int 0,.int 1])=H9 at s4 e4 ⊢;refine⟨zl9 1,fun l1 hl1=>?_⟩;have s5:=aG hl1 (.lst [.ref p]);have e5:upd H9 l1 (.lst [.ref p]) l1=some (.lst [.ref p]):=aB;generalize upd H9 l1 (.lst [.ref p])=HA at s5 e5 ⊢;have q9:=q7.trans (q8.trans (s4.trans s5));refine⟨_,rfl,R,us,rfl,.inl (q9.seq cx6.hR),l1,(us.length:Int),[.ref p],rfl,rfl,e5,by lia,by lia,?_,fun LL hLL=>?_⟩
  ·rw[Int.toNat_natCast,sizeLine_eq];simp only[length_cons,length_nil];lia
  rw[Int.toNat_natCast,iN];have s6:=aG hLL (.lst (replicate us.length (.ref p)));have e6:upd HA LL (.lst (replicate us.length (.ref p))) LL=some (.lst (replicate us.length (.ref p))):=aB;generalize upd HA LL (.lst (replicate us.length (.ref p)))=HB at s6 e6 ⊢;refine⟨r8,LL,_,_,_,rfl,SqL.of (s6 _ _ (s5 _ _ (s4 _ _ e8))),f8.same (s4.trans (s5.trans s6)),SqL.of e6,iX ((s5.trans s6).fq e4) us.length,by rw[length_replicate];lia,fun HC sC=>⟨_,rfl,eY ?_⟩⟩;exact hX _ _ ⟨q9.trans (s6.trans sC),rfl⟩
 rintro σ7 H7 ⟨s7,rfl⟩;have cx7:=cx6.same s7;refine gD (fun σ' H'=>aV H7 H'/\∃c:Int,σ'=[some (.ref a),some (.int (M:Int)),some (.ref r),some (.ref s),some (.ref hA),some (.ref n),some (.ref R),some (.ref J),some (.int c),none,none,none,none,none,none,none,none]) (fun X hX=>?_) ?_
 ·exact⟨_,rfl,a,ns,2,2,rfl,rfl,(s5.trans (s6.trans s7)).seq hS4,h63,fun c H8 s8=>hX _ _ ⟨s8,c,rfl⟩⟩
 rintro σ8 H8 ⟨s8,c,rfl⟩;have cx8:=cx7.same s8;refine gD (fun σ' H'=>aV H8 H'/\∃(D:Addr) (zs:List V) (ps:List Q2),σ'=[some (.ref a),some (.int (M:Int)),some (.ref r),some (.ref s),some (.ref hA),some (.ref n),some (.ref R),some (.ref J),some (.int c),some (.ref D),none,none,none,none,none,none,none]/\H8 D=none/\H' D=some (.lst zs)/\Fqs K H' zs ps/\ps.length=us.length/\∀p∈ps,iA p) (fun X hX=>?_) ?_
 ·refine⟨_,rfl,R,us,rfl,.inl cx8.hR,(us.length:Int),rfl,by lia,by lia,fun D hD=>?_⟩;rw[Int.toNat_natCast];have sD:=aG hD (.lst []);refine oG (n:=us.length) (fun i zs H'=>aV H8 H'/\H' D=some (.lst zs)/\∃ps:List Q2,Fqs K H' zs ps/\ps.length=i/\∀p∈ps,iA p) ⟨sD,aB,[],.nil,rfl,fun p hp=>by cases hp⟩ (fun i zs H' h=>h.2.1) ?_ ?_
  ·rintro i zs HA hi ⟨s2,e2,ps,F2,l2,o2⟩ C hC;have lz:=F2.length;refine⟨dD.1,dD.2,fI ?_⟩;refine⟨_,rfl,_,rfl,c,_,rfl,by lia,by lia,fun pc=>?_⟩;refine⟨pc,3,rfl,by decide,by decide,fun p np u HB s3 e3=>?_⟩;have e2':=s3 _ _ e2;refine⟨e2',bA (by lia),hC _ _ ⟨(s2.trans s3).change hD,aB,ps++[p],((F2.same s3).app (.cons (Fq.of e3) .nil)).upd e2',by rw[List.length_append,l2];rfl,fun p' hp'=>?_⟩⟩;rcases mem_append.mp hp' with z | z
   ·exact o2 p' z
   ·rw[mem_singleton.mp z];exact np
  ·rintro zs HA ⟨s2,e2,ps,F2,l2,o2⟩;exact hX _ _ ⟨s2,D,zs,ps,rfl,hD,e2,F2,l2,o2⟩
 rintro σ9 H9 ⟨s9,D,zs,ps,rfl,nD,eD,FD,lps,ops⟩;refine gD (fun σ' H'=>aV H8 H'/\∃(zs:List V) (ps:List Q2),σ'=[some (.ref a),some (.int (M:Int)),some (.ref r),some (.ref s),some (.ref hA),some (.ref n),some (.ref R),some (.ref J),some (.int c),some (.ref D),none,none,none,none,none,none,none]/\H' D=some (.lst zs)/\Fqs K H' zs ps/\ps.length=us.length/\∀p∈ps,iA p) (fun X hX=>?_) ?_
 ·have lzs:=FD.length;refine⟨_,rfl,D,zs,rfl,.inl (SqL.of eD),_,_,rfl,rfl,_,rfl,?_⟩
  by_cases k:zs.length=0
  ·exact L2.ifF (by show decide (((zs.length:Nat):Int) > 0)=false;exact decide_eq_false (by lia)) (hX _ _ ⟨s9,zs,ps,rfl,eD,FD,lps,ops⟩)
  refine L2.ifT (by show decide (((zs.length:Nat):Int) > 0)=true;exact decide_eq_true (by lia)) ?_;refine⟨zl9 2,fun p hp=>?_⟩;have s4:=aG hp (.tup [.int 0,.int 1]);have e4:Fq K (upd H9 p (.tup [.int 0,.int 1])) p (0,1):=SqT.of aB;generalize upd H9 p (.tup [.int 0,.int 1])=HA at s4 e4 ⊢;refine⟨_,rfl,_,rfl,_,rfl,D,zs,rfl,.inl (SqL.of (s4 _ _ eD)),c,1,(zs.length:Int),rfl,by decide,by decide,by lia,fun q HB q0 q1 sB=>?_⟩;obtain⟨k',rfl⟩:∃k':Nat,q=(k':Int):=⟨q.toNat,by lia⟩
  have eDB:=sB _ _ (s4 _ _ eD);refine⟨D,zs,_,k',rfl,rfl,eDB,gZ (by lia),hX _ _ ⟨(s9.trans (s4.trans sB)).change nD,_,ps.set k' (0,1),rfl,aB,(Fqs.set (sB.fq e4) k' (FD.same (s4.trans sB))).upd eDB,by rw[length_set];exact lps,fun p' hp'=>?_⟩⟩;rcases mem_or_eq_of_mem_set hp' with z | z
  ·exact ops p' z
  ·rw[z];exact⟨⟨by decide,by decide⟩,⟨by show (0:Nat) < 2 ^ 41;decide,by show (1:Nat) < 2 ^ 41;decide⟩,by decide⟩
 clear eD FD lps ops s9;rintro σA HA ⟨sA,zs,A,rfl,eD,FD,lA,oA⟩;rw[lus] at lA;have cxA:=cx8.same sA;obtain⟨sv2,am2⟩:=W.led lA oA;refine gD (fun σ' H'=>aV HA H'/\∃O:Addr,σ'=[some (.ref a),some (.int (M:Int)),some (.ref r),some (.ref s),some (.ref hA),some (.ref n),some (.ref R),some (.ref J),some (.int c),some (.ref D),some (.ref O),none,none,none,none,none,none]/\HA O=none/\H' O=some (.lst ys)) (fun X hX=>?_) ?_
 ·exact⟨_,rfl,s,ys,rfl,.inl cxA.hS,fun O hO=>hX _ _ ⟨aG hO _,O,rfl,hO,aB⟩⟩
 rintro σB HB ⟨sB,O,rfl,nO,eO⟩;have lzA:=FD.length;refine gD (fun σ' H'=>aV HA H'/\∃(os:List V) (z1 z2 z3 z4:Option V),σ'=[some (.ref a),some (.int (M:Int)),some (.ref r),some (.ref s),some (.ref hA),some (.ref n),some (.ref R),some (.ref J),some (.int c),some (.ref D),some (.ref O),z1,z2,z3,z4,none,none]/\H' O=some (.lst os)/\Fqs K H' os (tD ds ss A)) (fun X hX=>?_) ?_
 ·refine⟨_,rfl,_,rfl,R,D,rfl,⟨_,sB.seq cxA.hR⟩,⟨_,SqL.of (sB _ _ eD)⟩,?_⟩;refine rD (xs:=us) (ys:=zs) (fun i σ' H'=>aV HA H'/\∃(os:List V) (z1 z2 z3 z4:Option V),σ'=[some (.ref a),some (.int (M:Int)),some (.ref r),some (.ref s),some (.ref hA),some (.ref n),some (.ref R),some (.ref J),some (.int c),some (.ref D),some (.ref O),z1,z2,z3,z4,none,none]/\H' O=some (.lst os)/\Fqs K H' os (ldF ss (tOf (((rgF ds).zip A).take i)))) ⟨sB,ys,_,_,_,_,rfl,eO,cxA.hF.same sB⟩ (fun i σ' H' _ h=>⟨h.1.seq cxA.hR,SqL.of (h.1 _ _ eD)⟩) ?_ ?_
  ·rintro i x y σ' HC T1 ex ey ⟨sC,os,z1,z2,z3,z4,rfl,eC,FC⟩ hT;have hi:i < (rgF ds).length:=by have:=(List.getElem?_eq_some_iff.mp ex).1;lia
   have hc:(rgF ds)[i]?=some (rgF ds)[i]:=getElem?_eq_getElem hi;have hcm:=getElem_mem hi;generalize (rgF ds)[i]=cc at hc hcm;obtain⟨w,p,rfl,ep,fw⟩:=FD.get ey;have hzz:((rgF ds).zip A)[i]?=some (cc,p):=getElem?_zip_eq_some.mpr ⟨hc,ep⟩;have tk:((rgF ds).zip A).take (i+1)=((rgF ds).zip A).take i++[(cc,p)]:=by rw[take_add_one,hzz];rfl
   obtain⟨H0,rg⟩:=cxA.rg;obtain⟨ra,xr,rfl,_,ea,sts⟩:=rg.r i x cc.2 ex (by rw[getElem?_map,hc];rfl);have np:=oA p (mem_of_getElem? ep);have rr:=(W.ring hcm).2.2.2.1;have c5:=(W.ring hcm).2.1;have sT:=aG hT (.tup [.ref ra,.ref w]);refine⟨T1,_,rfl,SqT.of aB,rfl,_,_,rfl,_,_,rfl,rfl,?_⟩;have s03:=sC.trans sT;have e3:=sT _ _ eC;have F3:=FC.same sT;generalize upd HC T1 (.tup [.ref ra,.ref w])=HD at sT s03 e3 F3 ⊢;have T0:∀e∈tOf (((rgF ds).zip A).take i),StO ss.length L (2 ^ 41) e:=fun e he=>W.sto oA e (by
    unfold tOf at he ⊢;obtain⟨q,hq,h⟩:=mem_flatMap.mp he;exact mem_flatMap.mpr ⟨q,mem_of_mem_take hq,h⟩)
   have lT:(tOf (((rgF ds).zip A).take i)).length<=100:=by
    refine Nat.le_trans (yB (k:=5) fun q hq=>(W.ring (of_mem_zip (mem_of_mem_take hq)).1).2.1) ?_;rw[length_take,length_zip];lia
   obtain⟨la,fa,_⟩:=Ep (A:=2 ^ 41) _ W.s1.f T0;have fa:∀p∈ldF ss (tOf (((rgF ds).zip A).take i)),Fw L (2 ^ 51) p:=fun p hp=>(fa p hp).mono (by have:=Nat.mul_le_mul_right (2 ^ 41) lT;lia);rw[tk,Ki,Ex];generalize ldF ss (tOf (((rgF ds).zip A).take i))=o at la fa F3 ⊢;refine⟨_,rfl,ra,rfl,⟨_,SqL.of (s03 _ _ ea)⟩,?_⟩;have stl:=sts.length;refine gP (xs:=xr) (fun j σ' H'=>aV HA H'/\∃(os:List V) (z3 z4:Option V),σ'=[some (.ref a),some (.int (M:Int)),some (.ref r),some (.ref s),some (.ref hA),some (.ref n),some (.ref R),some (.ref J),some (.int c),some (.ref D),some (.ref O),some (.ref ra),some (.ref w),z3,z4,none,none]/\H' O=some (.lst os)/\Fqs K H' os (ldF o ((cc.2.take j).map fun s=>(s,p)))) ⟨s03,os,z3,z4,rfl,e3,F3⟩ (fun j σ' H' _ h=>SqL.of (h.1 _ _ ea)) ?_ ?_
   ·rintro j x σ' HE hx ⟨sE,os,z3,z4,rfl,eE,FE⟩;obtain⟨t',s',rfl,es',ht⟩:=sts.get hx;have hj:j < cc.2.length:=(List.getElem?_eq_some_iff.mp es').1;obtain⟨i1,w1,_⟩:=rr s' (mem_of_getElem? es');have U0:∀e∈(cc.2.take j).map fun s=>(s,p),StO o.length L (2 ^ 41) e:=fun e he=>by
     obtain⟨s,hs,rfl⟩:=mem_map.mp he;obtain⟨i1,w1,_⟩:=rr s (mem_of_mem_take hs);exact⟨by rw[la,lss];exact i1,w1,np.l,Nl W.L1 W.d27 np.fr⟩
    obtain⟨lb,fb,_⟩:=Ep (A:=2 ^ 41) _ fa U0;have fb:∀q∈ldF o ((cc.2.take j).map fun s=>(s,p)),Fw L (2 ^ 52) q:=fun q hq=>(fb q hq).mono (by
     have:((cc.2.take j).map fun s=>(s,p)).length<=5:=by rw[length_map,length_take];lia
     have:=Nat.mul_le_mul_right (2 ^ 41) this;lia)
    have tk2:(cc.2.take (j+1)).map (fun s=>(s,p))=(cc.2.take j).map (fun s=>(s,p))++[(s',p)]:=by rw[take_add_one,es',map_append];rfl
    rw[tk2,Ex];generalize ldF o ((cc.2.take j).map fun s=>(s,p))=o2 at lb fb FE ⊢;have li:s'.1 < o2.length:=by rw[lb,la,lss];exact i1
    obtain⟨u1,eu1,fu1⟩:=Fqs.getAt FE (j:=s'.1) li;have g1:=Pn fb li;have lE:=FE.length;refine⟨t',_,rfl,sE.seqT ht,rfl,_,_,rfl,_,_,rfl,rfl,?_⟩;refine⟨_,rfl,_,rfl,O,os,_,_,rfl,rfl,SqL.of eE,bU eu1,_,rfl,zl9 2,fun pp hp=>?_⟩;have s4:=aG hp (.tup [.int s'.2,.int 1]);have e4:Fq K (upd HE pp (.tup [.int s'.2,.int 1])) pp (s'.2,1):=SqT.of aB;generalize upd HE pp (.tup [.int s'.2,.int 1])=HG at s4 e4 ⊢;have b1:Bd 1 (s'.2,1):=by rcases w1 with z | z<;>rw[z]<;>exact⟨by show (1:Nat) < 2 ^ 1;decide,by show (1:Nat) < 2 ^ 1;decide⟩
    have tt:=(StO.t (n:=s'.1+1) (L:=L) (A:=2 ^ 41) (e:=(s',p)) ⟨Nat.lt_succ_self _,w1,np.l,Nl W.L1 W.d27 np.fr⟩).1;have tb:=Mq.Pi b1 np.b (Int.le_refl 1) np.l.pos;refine⟨_,rfl,pp,w,_,p,1,41,rfl,e4,(sE.trans s4).fq fw,Int.le_refl 1,np.l.pos,b1,np.b,by decide,fun v1 HI s5 e5=>?_⟩;refine⟨u1,v1,_,_,_,_,rfl,(s4.trans s5).fq fu1,Fq.of e5,g1.l.pos,tt.l.pos,g1.bd (m:=53) W.L1 LB (by decide),tb,by lia,fun v2 HJ s6 e6=>?_⟩;have q6:=s4.trans (s5.trans s6);have eJ:=q6 _ _ eE;refine⟨_,rfl,_,rfl,O,os,_,s'.1,rfl,rfl,eJ,gZ (by lia),(sE.trans q6).change nO,_,_,_,rfl,aB,?_⟩;exact(Fqs.set (Fq.of e6) s'.1 (FE.same q6)).upd eJ
   ·rintro σ' HE ⟨sE,os,z3,z4,rfl,eE,FE⟩;rw[stl,take_length] at FE;exact⟨sE,os,_,_,z3,z4,rfl,eE,FE⟩
  ·rintro σ' HC ⟨sC,os,z1,z2,z3,z4,rfl,eC,FC⟩;rw[take_of_length_le (by rw[length_zip];lia)] at FC;exact hX _ _ ⟨sC,os,z1,z2,z3,z4,rfl,eC,FC⟩
 rintro σC HC ⟨sC,os,z1,z2,z3,z4,rfl,eC,FC⟩;refine gD (fun σ' H'=>aV HC H'/\∃hd:Addr,σ'=[some (.ref a),some (.int (M:Int)),some (.ref r),some (.ref s),some (.ref hA),some (.ref n),some (.ref R),some (.ref J),some (.int c),some (.ref D),some (.ref O),z1,z2,z3,z4,some (.ref hd),none]/\H' hd=some (.lst os)) (fun X hX=>?_) ?_
 ·exact⟨_,rfl,O,os,rfl,.inl (SqL.of eC),fun hd hhd=>hX _ _ ⟨aG hhd _,hd,rfl,aB⟩⟩
 rintro σD HD ⟨sD,hd,rfl,eH⟩;have cxD:=cxA.same (sC.trans sD);have FH:=FC.same sD;have DD:=(sC.trans sD) _ _ eD;have FDD:=FD.same (sC.trans sD);have lzA':A.length<=1000:=by lia
 refine gD (fun σ' H'=>aV HD H'/\∃(fo:Addr) (zf:List V),σ'=[some (.ref a),some (.int (M:Int)),some (.ref r),some (.ref s),some (.ref hA),some (.ref n),some (.ref R),some (.ref J),some (.int c),some (.ref D),some (.ref O),z1,z2,z3,z4,some (.ref hd),some (.ref fo)]/\HD fo=none/\H' fo=some (.lst zf)/\Fqs K H' zf A) (fun X hX=>?_) ?_
 ·refine⟨_,rfl,_,rfl,AM.call (E:=L2.E0) cxD.nt (SqL.of eH) FH sv2 fun r8 z8 H8 q8 n8 e8 f8=>?_⟩;rw[am2] at f8;exact hX _ _ ⟨q8,r8,z8,rfl,n8,e8,f8⟩
 rintro σE HE ⟨sE,fo,zf,rfl,nfo,eF,FF⟩;refine gD (fun σ' H'=>aV HE H'/\σ'=[some (.ref a),some (.int (M:Int)),some (.ref r),some (.ref s),some (.ref hA),some (.ref n),some (.ref R),some (.ref J),some (.int c),some (.ref D),some (.ref O),z1,z2,z3,z4,some (.ref hd),some (.ref fo)]) (fun X hX=>?_) ?_
 ·refine⟨_,rfl,_,rfl,n,l,hd,M,ds,os,_,L,_,bl,rfl,(cxD.same sE).nt,by lia,SqL.of (sE _ _ eH),FH.same sE,sv2,W.o.pt,by lia,fun H8 s8=>⟨true,true,rfl,rfl,_,rfl,eY ?_⟩⟩;refine⟨_,rfl,_,rfl,fo,D,zf,zs,A,rfl,SqL.of (s8 _ _ eF),FF.same s8,SqL.of (s8 _ _ (sE _ _ DD)),FDD.same (sE.trans s8),lzA',fun H9 s9=>⟨_,rfl,eY ?_⟩⟩;exact hX _ _ ⟨s8.trans s9,rfl⟩
 rintro σF HF ⟨sF,rfl⟩;refine gD (fun σ' H'=>aV HD H'/\σ'=[some (.ref a),some (.int (M:Int)),some (.ref r),some (.ref s),some (.ref hA),some (.ref n),some (.ref R),some (.ref J),some (.int c),some (.ref D),some (.ref O),z1,z2,z3,z4,some (.ref hd),some (.ref fo)]) (fun X hX=>?_) ?_
 ·refine⟨_,rfl,.inl ⟨rfl,zf,SqL.of (sF _ _ eF)⟩,zl9 2,fun p hp=>?_⟩;have s4:=aG hp (.tup [.int 1,.int 1]);generalize upd HF p (.tup [.int 1,.int 1])=HG at s4 ⊢;have lzf:=FF.length;exact⟨fo,zf,_,rfl,rfl,s4 _ _ (sF _ _ eF),bA (by lia),hX _ _ ⟨(sE.trans (sF.trans s4)).change nfo,rfl⟩⟩
 rintro σG HG ⟨sG,rfl⟩;have cxG:=cxD.same sG;refine gD (fun σ' H'=>aV HG H'/\σ'=[some (.ref a),some (.int (M:Int)),some (.ref r),some (.ref s),some (.ref hA),some (.ref n),some (.ref R),some (.ref J),some (.int c),some (.ref D),some (.ref O),z1,z2,z3,z4,some (.ref hd),some (.ref fo)]) (fun X hX=>?_) ?_
 ·refine⟨_,rfl,_,rfl,s,ys,rfl,.inl cxG.hS,fun s7 hs7=>?_⟩;have q7:=aG hs7 (.lst ys);have e7:upd HG s7 (.lst ys) s7=some (.lst ys):=aB;generalize upd HG s7 (.lst ys)=H7 at q7 e7 ⊢;refine AM.call (E:=L2.E0) (cxG.nt.same q7) (SqL.of e7) (cxG.hF.same q7) W.s1 fun r8 z8 H8 q8 n8 e8 f8=>?_;rw[W.own,<- lus] at f8;refine⟨zl9 2,fun p hp=>?_⟩;have s4:=aG hp (.tup [.int 0,.int 1]);have e4:Fq K (upd H8 p (.tup [.int 0,.int 1])) p (0,1):=SqT.of aB;generalize upd H8 p (.tup [.int 0,.int 1])=H9 at s4 e4 ⊢;refine⟨zl9 1,fun l1 hl1=>?_⟩;have s5:=aG hl1 (.lst [.ref p]);have e5:upd H9 l1 (.lst [.ref p]) l1=some (.lst [.ref p]):=aB;generalize upd H9 l1 (.lst [.ref p])=HA at s5 e5 ⊢;have q9:=q7.trans (q8.trans (s4.trans s5));refine⟨_,rfl,R,us,rfl,.inl (q9.seq cxG.hR),l1,(us.length:Int),[.ref p],rfl,rfl,e5,by lia,by lia,?_,fun LL hLL=>?_⟩
  ·rw[Int.toNat_natCast,sizeLine_eq];simp only[length_cons,length_nil];lia
  rw[Int.toNat_natCast,iN];have s6:=aG hLL (.lst (replicate us.length (.ref p)));have e6:upd HA LL (.lst (replicate us.length (.ref p))) LL=some (.lst (replicate us.length (.ref p))):=aB;generalize upd HA LL (.lst (replicate us.length (.ref p)))=HB at s6 e6 ⊢;refine⟨r8,LL,_,_,_,rfl,SqL.of (s6 _ _ (s5 _ _ (s4 _ _ e8))),f8.same (s4.trans (s5.trans s6)),SqL.of e6,iX ((s5.trans s6).fq e4) us.length,by rw[length_replicate];lia,fun HC sC=>⟨_,rfl,eY ?_⟩⟩;exact hX _ _ ⟨q9.trans (s6.trans sC),rfl⟩
 rintro σH HH ⟨sH,rfl⟩;have sDH:=sG.trans sH;refine⟨_,rfl,_,rfl,AM.call (E:=L2.E0) (cxG.same sH).nt (SqL.of (sDH _ _ eH)) (FH.same sDH) sv2 fun r8 z8 H8 q8 n8 e8 f8=>?_⟩;rw[am2] at f8;have q:=sDH.trans q8;refine⟨_,rfl,r8,D,z8,zs,A,rfl,SqL.of e8,f8,SqL.of (q _ _ DD),FDD.same q,lzA',fun H9 s9=>⟨_,rfl,fI ?_⟩⟩;have q9:=q.trans s9;exact⟨_,rfl,_,rfl,Wf (SqL.of (q9 _ _ eH)) (SqL.of (q9 _ _ (sD _ _ eC))) (FH.same q9) (FH.same q9) (Qq _)⟩
end
theorem Wi {l:W.OpenLaw}{w:World}{K:Frag}{mg:Str->Option Value}{fa:Addr}(hfa:mg "law"=some (.ref fa)){c_Row c_Piece c_Push c_Hold c_Net c_Answer f1 f2 f3 f4 f5 f6 f7 f8 f9 f10 f11 f12 f13 f14 f15 f16 f17 f18 f19 f20 f21 f22 f23 f24 f25 f26 f27 f28 f29 f30 f31 f32 f33 f34 f35 f36 f37 f38 f39 f40 f41 f42 f43 f44 f45 f46 f47 f48 f49 f50 f51 f52 f53 f54 f55 f56 f57 f58 f59 f60 f61 f62 f63 f64 f65 f66 f67 f68 f69 f70 f71 f72 f73 f74:Addr}{d1 d2 d3 d5 d6 d7 d8 d9 d10 d11 d12 d13 d14 d15 d16 d17 d18 d19 d20 d21 d22 d23 d24 d25 d26 d27 d28 d29 d30 d31 d32 d33 d34 d36 d37 d38 d39 d40 d41 d42 d43 d44 d45 d46 d47 d48 d49 d50 d51 d52 d53 d54 d55 d56 d57 d58 d59 d60 d61 d62 d63 d64 d65 d66 d67 d68 d69 d70 d71 d72 d73:FuncData}{od4 an4:Option Addr}{sl4:Array (Option Value)}{oc4 kV4 dc4 pm4 cd4 ct4:Value}{T4:Addr}{oT4:Value}{dT4:Option Addr}{nT4:Nat}{sT4:Array (Option Value)}{tk4:Tok}{od35 an35:Option Addr}{sl35:Array (Option Value)}{oc35 kV35 dc35 pm35 cd35 ct35:Value}{T35:Addr}{oT35:Value}{dT35:Option Addr}{nT35:Nat}{sT35:Array (Option Value)}{od74 an74:Option Addr}{sl74:Array (Option Value)}{oc74 kV74 dc74 pm74 cd74 ct74:Value}{aO:Addr}{dO:Option Addr}{nO:Nat}{sO:Array (Option Value)}{t2 t3:Tok}{aN:Addr}{dN:Option Addr}{nN:Nat}{sN:Array (Option Value)}{t0 t1:Tok}{aJ:Addr}{dJ:Option Addr}{nJ:Nat}{sJ:Array (Option Value)}{tj0 tj1:Tok}{tM:Tok}{tR:Tok}(mc_Row:mI9 mg "Row" c_Row)(mc_Piece:mI9 mg "Piece" c_Piece)(mc_Push:mI9 mg "Push" c_Push)(mc_Hold:mI9 mg "Hold" c_Hold)(mc_Net:mI9 mg "Net" c_Net)(mc_Answer:mI9 mg "Answer" c_Answer)(m1:mI9 mg "is_whole" f1)(F1:aY K "is_whole" "is_whole" Dv .none f1 d1)(m2:mI9 mg "greatest_common" f2)(F2:aY K "greatest_common" "greatest_common" sGc .none f2 d2)(m3:mI9 mg "under" f3)(F3:aY K "under" "under" Bv .none f3 d3)(m4:mI9 mg "fraction" f4)(l4:K.lookup f4=some ⟨oc4,od4,.func (W.fnOf "fraction" "fraction" (eT kL) (cN kL) (aI kL) (.ref T4) kV4 dc4 pm4 an4 cd4 ct4),sl4⟩)(c4:W.codeIn K cd4 "fraction"=true)(k4:kI9 K f4)(lt4:K.lookup T4=some ⟨oT4,dT4,.seq #[.int 1 tk4] nT4,sT4⟩)(m5:mI9 mg "minus" f5)(F5:aY K "minus" "minus" Dg .none f5 d5)(m6:mI9 mg "plus" f6)(F6:aY K "plus" "plus" Mb .none f6 d6)(m7:mI9 mg "over" f7)(F7:aY K "over" "over" Os .none f7 d7)(m8:mI9 mg "is_fraction" f8)(F8:aY K "is_fraction" "is_fraction" Vm .none f8 d8)(a9_0:W.findIn K (.ref c_Piece) "__init__"=some (some (.ref f9)))(a9_1:W.findIn K (.ref c_Push) "__init__"=some (some (.ref f9)))(a9_2:W.findIn K (.ref c_Hold) "__init__"=some (some (.ref f9)))(i9:W.isFn K (.ref f9)=true)(F9:aY K "__init__" "Row.__init__" Cc .none f9 d9)(a10_0:W.findIn K (.ref c_Piece) "word"=some (some (.ref f10)))(i10:W.isFn K (.ref f10)=true)(F10:aY K "word" "Piece.word" uI .none f10 d10)(a11_0:W.findIn K (.ref c_Push) "word"=some (some (.ref f11)))(i11:W.isFn K (.ref f11)=true)(F11:aY K "word" "Push.word" tW .none f11 d11)(a12_0:W.findIn K (.ref c_Hold) "word"=some (some (.ref f12)))(i12:W.isFn K (.ref f12)=true)(F12:aY K "word" "Hold.word" rV .none f12 d12)(a13_0:W.findIn K (.ref c_Piece) "joins"=some (some (.ref f13)))(i13:W.isFn K (.ref f13)=true)(F13:aY K "joins" "Piece.joins" qJ .none f13 d13)(a14_0:W.findIn K (.ref c_Push) "joins"=some (some (.ref f14)))(i14:W.isFn K (.ref f14)=true)(F14:aY K "joins" "Push.joins" qA .none f14 d14)(a15_0:W.findIn K (.ref c_Hold) "joins"=some (some (.ref f15)))(i15:W.isFn K (.ref f15)=true)(F15:aY K "joins" "Hold.joins" pT .none f15 d15)(a16_0:W.findIn K (.ref c_Piece) "told"=some (some (.ref f16)))(a16_1:W.findIn K (.ref c_Push) "told"=some (some (.ref f16)))(a16_2:W.findIn K (.ref c_Hold) "told"=some (some (.ref f16)))(i16:W.isFn K (.ref f16)=true)(F16:aY K "told" "Row.told" Ca .none f16 d16)(m17:mI9 mg "row_of" f17)(F17:aY K "row_of" "row_of" Bk .none f17 d17)(a18_0:W.findIn K (.ref c_Piece) "stream"=some (some (.ref f18)))(i18:W.isFn K (.ref f18)=true)(F18:aY K "stream" "Piece.stream" nY .none f18 d18)(a19_0:W.findIn K (.ref c_Push) "stream"=some (some (.ref f19)))(i19:W.isFn K (.ref f19)=true)(F19:aY K "stream" "Push.stream" oC .none f19 d19)(a20_0:W.findIn K (.ref c_Hold) "stream"=some (some (.ref f20)))(i20:W.isFn K (.ref f20)=true)(F20:aY K "stream" "Hold.stream" oH .none f20 d20)(m21:mI9 mg "is_piece_size" f21)(F21:aY K "is_piece_size" "is_piece_size" sPS .none f21 d21)(m22:mI9 mg "is_number_below" f22)(F22:aY K "is_number_below" "is_number_below" sNB .none f22 d22)(m23:mI9 mg "refuse_size" f23)(F23:aY K "refuse_size" "refuse_size" sRS .none f23 d23)(m24:mI9 mg "refuse_points" f24)(F24:aY K "refuse_points" "refuse_points" sRP .none f24 d24)(a25_0:W.findIn K (.ref c_Net) "__init__"=some (some (.ref f25)))(i25:W.isFn K (.ref f25)=true)(F25:aY K "__init__" "Net.__init__" Dx .none f25 d25)(a26_0:W.findIn K (.ref c_Net) "many"=some (some (.ref f26)))(i26:W.isFn K (.ref f26)=true)(F26:aY K "many" "Net.many" Mi .none f26 d26)(a27_0:W.findIn K (.ref c_Net) "add"=some (some (.ref f27)))(i27:W.isFn K (.ref f27)=true)(F27:aY K "add" "Net.add" Wv .none f27 d27)(a28_0:W.findIn K (.ref c_Net) "rows"=some (some (.ref f28)))(i28:W.isFn K (.ref f28)=true)(F28:aY K "rows" "Net.rows" Pd .none f28 d28)(m29:mI9 mg "fall_of" f29)(F29:aY K "fall_of" "fall_of" Lc .none f29 d29)(m30:mI9 mg "joined" f30)(F30:aY K "joined" "joined" yW .none f30 d30)(m31:mI9 mg "marks_of" f31)(F31:aY K "marks_of" "marks_of" Eg .none f31 d31)(m32:mI9 mg "floating" f32)(F32:aY K "floating" "floating" Dh .none f32 d32)(m33:mI9 mg "steps_from" f33)(F33:aY K "steps_from" "steps_from" Cl .none f33 d33)(m34:mI9 mg "way_along" f34)(F34:aY K "way_along" "way_along" Wu .none f34 d34)(m35:mI9 mg "rings" f35)(l35:K.lookup f35=some ⟨oc35,od35,.func (W.fnOf "rings" "rings" (eT iD) (cN iD) (aI iD) (.ref T35) kV35 dc35 pm35 an35 cd35 ct35),sl35⟩)(c35:W.codeIn K cd35 "rings"=true)(k35:kI9 K f35)(lt35:K.lookup T35=some ⟨oT35,dT35,.seq #[.none] nT35,sT35⟩)(m36:mI9 mg "raise_at" f36)(F36:aY K "raise_at" "raise_at" Cd .none f36 d36)(m37:mI9 mg "enter_stream" f37)(F37:aY K "enter_stream" "enter_stream" Bn .none f37 d37)(m38:mI9 mg "enter_piece" f38)(F38:aY K "enter_piece" "enter_piece" zK .none f38 d38)(m39:mI9 mg "enter_push" f39)(F39:aY K "enter_push" "enter_push" xT .none f39 d39)(m40:mI9 mg "enter_hold" f40)(F40:aY K "enter_hold" "enter_hold" xN .none f40 d40)(m41:mI9 mg "equations" f41)(F41:aY K "equations" "equations" Wl .none f41 d41)(m42:mI9 mg "in_wholes" f42)(F42:aY K "in_wholes" "in_wholes" sIW .none f42 d42)(m43:mI9 mg "pivot_place" f43)(F43:aY K "pivot_place" "pivot_place" Vs .none f43 d43)(m44:mI9 mg "cleared" f44)(F44:aY K "cleared" "cleared" Vl .none f44 d44)(m45:mI9 mg "cleared_rows" f45)(F45:aY K "cleared_rows" "cleared_rows" tU .none f45 d45)(m46:mI9 mg "eliminated" f46)(F46:aY K "eliminated" "eliminated" Pl .none f46 d46)(m47:mI9 mg "solved" f47)(F47:aY K "solved" "solved" xX .none f47 d47)(m48:mI9 mg "refuse_unanswered" f48)(F48:aY K "refuse_unanswered" "refuse_unanswered" Wt .none f48 d48)(m49:mI9 mg "flows_of" f49)(F49:aY K "flows_of" "flows_of" Ed .none f49 d49)(a50_0:W.findIn K (.ref c_Answer) "__init__"=some (some (.ref f50)))(i50:W.isFn K (.ref f50)=true)(F50:aY K "__init__" "Answer.__init__" Ci .none f50 d50)(a51_0:W.findIn K (.ref c_Answer) "streams"=some (some (.ref f51)))(i51:W.isFn K (.ref f51)=true)(F51:aY K "streams" "Answer.streams" Nj .none f51 d51)(a52_0:W.findIn K (.ref c_Net) "count"=some (some (.ref f52)))(i52:W.isFn K (.ref f52)=true)(F52:aY K "count" "Net.count" Cj .none f52 d52)(m53:mI9 mg "are_fractions" f53)(F53:aY K "are_fractions" "are_fractions" sAF .none f53 d53)(m54:mI9 mg "rests_of" f54)(F54:aY K "rests_of" "rests_of" Do .none f54 d54)(m55:mI9 mg "serves" f55)(F55:aY K "serves" "serves" zA .none f55 d55)(m56:mI9 mg "amounts" f56)(F56:aY K "amounts" "amounts" Xt .none f56 d56)(m57:mI9 mg "_law_draw" f57)(F57:aY K "_law_draw" "_law_draw" Nr .none f57 d57)(m58:mI9 mg "_law_mix" f58)(F58:aY K "_law_mix" "_law_mix" yO .none f58 d58)(m59:mI9 mg "_law_part" f59)(F59:aY K "_law_part" "_law_part" Na .none f59 d59)(m60:mI9 mg "_law_far" f60)(F60:aY K "_law_far" "_law_far" Wq .none f60 d60)(m61:mI9 mg "_law_lowest" f61)(F61:aY K "_law_lowest" "_law_lowest" yH .none f61 d61)(m62:mI9 mg "_law_plus" f62)(F62:aY K "_law_plus" "_law_plus" Bx .none f62 d62)(m63:mI9 mg "_law_less" f63)(F63:aY K "_law_less" "_law_less" Dq .none f63 d63)(m64:mI9 mg "_law_times" f64)(F64:aY K "_law_times" "_law_times" zD .none f64 d64)(m65:mI9 mg "_law_by" f65)(F65:aY K "_law_by" "_law_by" Vw .none f65 d65)(m66:mI9 mg "_law_number" f66)(F66:aY K "_law_number" "_law_number" yI .none f66 d66)(m67:mI9 mg "_law_size" f67)(F67:aY K "_law_size" "_law_size" Om .none f67 d67)(m68:mI9 mg "_law_told" f68)(F68:aY K "_law_told" "_law_told" Lp .none f68 d68)(m69:mI9 mg "_law_told_list" f69)(F69:aY K "_law_told_list" "_law_told_list" Cf .none f69 d69)(m70:mI9 mg "_law_net" f70)(F70:aY K "_law_net" "_law_net" Ec .none f70 d70)(m71:mI9 mg "_law_put" f71)(F71:aY K "_law_put" "_law_put" Xl .none f71 d71)(m72:mI9 mg "_law_balanced" f72)(F72:aY K "_law_balanced" "_law_balanced" Ni .none f72 d72)(m73:mI9 mg "_law_answered" f73)(F73:aY K "_law_answered" "_law_answered" Kw .none f73 d73)(m74:mI9 mg "law" f74)(l74:K.lookup f74=some ⟨oc74,od74,.func (W.fnOf "law" "law" (eT yV) (cN yV) (aI yV) .none kV74 dc74 pm74 an74 cd74 ct74),sl74⟩)(c74:W.codeIn K cd74 "law"=true)(k74:kI9 K f74)(mv_ONE:mI9 mg "ONE" aO)(mv_NOUGHT:mI9 mg "NOUGHT" aN)(mv_JOINING_WORDS:mI9 mg "JOINING_WORDS" aJ)(mv_MOST_POINTS:mg "MOST_POINTS"=some (.int 20 tM))(mv_MOST_ROWS:mg "MOST_ROWS"=some (.int 40 tR))(lO:K.lookup aO=some ⟨.type "tuple",dO,.seq #[.int 1 t2,.int 1 t3] nO,sO⟩)(lN:K.lookup aN=some ⟨.type "tuple",dN,.seq #[.int 0 t0,.int 1 t1] nN,sN⟩)(lJ:K.lookup aJ=some ⟨.type "tuple",dJ,.seq #[.str "piece" tj0,.str "hold" tj1] nJ,sJ⟩)(pg_Piece:W.plainGet K c_Piece Str.empty=true)(hd_Piece:W.hasDictIn K c_Piece=true)(po_Piece:W.plainOver K c_Piece=true)(sa_Piece:W.findIn K (.ref c_Piece) "__setattr__"=some (some (.builtin "object.__setattr__")))(mk_Piece:W.makesIn K c_Piece=true)(kc_Piece:kI9 K c_Piece)(t1_Piece:W.findIn K (.ref c_Piece) "__class__"=some (some (.builtin "object.__class__")))(t4_Piece:W.mroIn K c_Piece (.type "object")=some true)(na_Piece_start:W.findIn K (.ref c_Piece) "start"=some none)(na_Piece_goal:W.findIn K (.ref c_Piece) "goal"=some none)(na_Piece_size:W.findIn K (.ref c_Piece) "size"=some none)(pg_Push:W.plainGet K c_Push Str.empty=true)(hd_Push:W.hasDictIn K c_Push=true)(po_Push:W.plainOver K c_Push=true)(sa_Push:W.findIn K (.ref c_Push) "__setattr__"=some (some (.builtin "object.__setattr__")))(mk_Push:W.makesIn K c_Push=true)(kc_Push:kI9 K c_Push)(t1_Push:W.findIn K (.ref c_Push) "__class__"=some (some (.builtin "object.__class__")))(t4_Push:W.mroIn K c_Push (.type "object")=some true)(na_Push_start:W.findIn K (.ref c_Push) "start"=some none)(na_Push_goal:W.findIn K (.ref c_Push) "goal"=some none)(na_Push_size:W.findIn K (.ref c_Push) "size"=some none)(pg_Hold:W.plainGet K c_Hold Str.empty=true)(hd_Hold:W.hasDictIn K c_Hold=true)(po_Hold:W.plainOver K c_Hold=true)(sa_Hold:W.findIn K (.ref c_Hold) "__setattr__"=some (some (.builtin "object.__setattr__")))(mk_Hold:W.makesIn K c_Hold=true)(kc_Hold:kI9 K c_Hold)(t1_Hold:W.findIn K (.ref c_Hold) "__class__"=some (some (.builtin "object.__class__")))(t4_Hold:W.mroIn K c_Hold (.type "object")=some true)(na_Hold_start:W.findIn K (.ref c_Hold) "start"=some none)(na_Hold_goal:W.findIn K (.ref c_Hold) "goal"=some none)(na_Hold_size:W.findIn K (.ref c_Hold) "size"=some none)(tt2:W.specialIn K (.builtin "object.__class__") "__get__"=some (some (.builtin "getset_descriptor.__get__")))(tt3:W.takesIn K (.builtin "object.__class__")=some true)(isR_Piece:W.kitOne K (.ref c_Piece) (.ref c_Row)=some true)(isR_Push:W.kitOne K (.ref c_Push) (.ref c_Row)=some true)(isR_Hold:W.kitOne K (.ref c_Hold) (.ref c_Row)=some true)(isK_Piece_Push:W.kitOne K (.ref c_Piece) (.ref c_Push)=some false)(isK_Piece_Hold:W.kitOne K (.ref c_Piece) (.ref c_Hold)=some false)(isK_Push_Piece:W.kitOne K (.ref c_Push) (.ref c_Piece)=some false)(isK_Push_Hold:W.kitOne K (.ref c_Push) (.ref c_Hold)=some false)(isK_Hold_Piece:W.kitOne K (.ref c_Hold) (.ref c_Piece)=some false)(isK_Hold_Push:W.kitOne K (.ref c_Hold) (.ref c_Push)=some false)(pg_Net:W.plainGet K c_Net Str.empty=true)(hd_Net:W.hasDictIn K c_Net=true)(po_Net:W.plainOver K c_Net=true)(sa_Net:W.findIn K (.ref c_Net) "__setattr__"=some (some (.builtin "object.__setattr__")))(mk_Net:W.makesIn K c_Net=true)(kc_Net:kI9 K c_Net)(t1_Net:W.findIn K (.ref c_Net) "__class__"=some (some (.builtin "object.__class__")))(t4_Net:W.mroIn K c_Net (.type "object")=some true)(na_Net_point_count:W.findIn K (.ref c_Net) "point_count"=some none)(na_Net_kept:W.findIn K (.ref c_Net) "kept"=some none)(pg_Answer:W.plainGet K c_Answer Str.empty=true)(hd_Answer:W.hasDictIn K c_Answer=true)(po_Answer:W.plainOver K c_Answer=true)(sa_Answer:W.findIn K (.ref c_Answer) "__setattr__"=some (some (.builtin "object.__setattr__")))(mk_Answer:W.makesIn K c_Answer=true)(kc_Answer:kI9 K c_Answer)(t1_Answer:W.findIn K (.ref c_Answer) "__class__"=some (some (.builtin "object.__class__")))(t4_Answer:W.mroIn K c_Answer (.type "object")=some true)(na_Answer_lines:W.findIn K (.ref c_Answer) "lines"=some none)(na_Answer_levels:W.findIn K (.ref c_Answer) "levels"=some none)(na_Answer_flows:W.findIn K (.ref c_Answer) "flows"=some none)(n_isinstance:mg "isinstance"=none)(n_int:mg "int"=none)(n_bool:mg "bool"=none)(n_abs:mg "abs"=none)(n_len:mg "len"=none)(n_range:mg "range"=none)(n_str:mg "str"=none)(n_tuple:mg "tuple"=none)(n_list:mg "list"=none)(n_all:mg "all"=none)(n_zip:mg "zip"=none)(n_enumerate:mg "enumerate"=none) :
  ∃fd:FuncData,(∀(s:Shared) (v:Value),BindsTo s fd ⟨[v],[]⟩ [("_law_script",v)])/\∀base:Heap,K.In base->base.Ns mainGlobals mg->aL l.prog w K mg base CX0 11 fa fd ["_law_script"] (Gr K):=by
 have e:=hfa.symm.trans m74
 cases e
 have b1:=F1.b1 "thing" (by intros;rfl);have b2:=F2.b2 "one" "other" (by intros;rfl);have b3:=F3.b2 "one" "other" (by intros;rfl);have F4:=rO (st:=kL) l4 c4 k4;have b4:aM K _ ["top","bottom"] []:=fun s us XX hl=>match us,hl with | [_,_],_=>W.binds_K (fd:=W.fnOf "fraction" "fraction" (eT kL) (cN kL) (aI kL) (.ref T4) kV4 dc4 pm4 an4 cd4 ct4) XX rfl lt4 rfl rfl rfl
 have bd4:aM K _ ["top","bottom"] [.int 1 tk4]:=fun s us XX hl=>match us,(show us.length=1 by simp at hl;lia) with | [_],_=>W.binds_K (fd:=W.fnOf "fraction" "fraction" (eT kL) (cN kL) (aI kL) (.ref T4) kV4 dc4 pm4 an4 cd4 ct4) XX rfl lt4 rfl rfl rfl
 have b5:=F5.b2 "one" "other" (by intros;rfl);have b6:=F6.b2 "one" "other" (by intros;rfl);have b7:=F7.b2 "one" "other" (by intros;rfl);have b8:=F8.b1 "thing" (by intros;rfl);have b9:=F9.b4 "self" "start" "goal" "size" (by intros;rfl);have b10:=F10.b1 "self" (by intros;rfl);have b11:=F11.b1 "self" (by intros;rfl);have b12:=F12.b1 "self" (by intros;rfl);have b13:=F13.b1 "self" (by intros;rfl);have b14:=F14.b1 "self" (by intros;rfl);have b15:=F15.b1 "self" (by intros;rfl);have b16:=F16.b1 "self" (by intros;rfl);have b17:=F17.b1 "told" (by intros;rfl);have b18:=F18.b3 "self" "fall" "held" (by intros;rfl);have b19:=F19.b3 "self" "fall" "held" (by intros;rfl);have b20:=F20.b3 "self" "fall" "held" (by intros;rfl);have b21:=F21.b1 "thing" (by intros;rfl);have b22:=F22.b2 "thing" "bound" (by intros;rfl);have b23:=F23.b2 "word" "size" (by intros;rfl);have b24:=F24.b2 "some" "many" (by intros;rfl);have b25:=F25.b2 "self" "many" (by intros;rfl);have b26:=F26.b1 "self" (by intros;rfl);have b27:=F27.b2 "self" "row" (by intros;rfl);have b28:=F28.b1 "self" (by intros;rfl);have b29:=F29.b2 "row" "heights" (by intros;rfl);have b30:=F30.b2 "marks" "row" (by intros;rfl);have b31:=F31.b1 "net" (by intros;rfl);have b32:=F32.b1 "net" (by intros;rfl);have b33:=F33.b3 "rows" "numbers" "point" (by intros;rfl);have b34:=F34.b4 "rows" "numbers" "begin" "end" (by intros;rfl);have F35:=rO (st:=iD) l35 c35 k35;have b35:aM K _ ["net","words"] []:=fun s us XX hl=>match us,hl with | [_,_],_=>W.binds_K (fd:=W.fnOf "rings" "rings" (eT iD) (cN iD) (aI iD) (.ref T35) kV35 dc35 pm35 an35 cd35 ct35) XX rfl lt35 rfl rfl rfl
 have bd35:aM K _ ["net","words"] [.none]:=fun s us XX hl=>match us,(show us.length=1 by simp at hl;lia) with | [_],_=>W.binds_K (fd:=W.fnOf "rings" "rings" (eT iD) (cN iD) (aI iD) (.ref T35) kV35 dc35 pm35 an35 cd35 ct35) XX rfl lt35 rfl rfl rfl
 have b36:=F36.b3 "line" "column" "amount" (by intros;rfl);have b37:=F37.b4 "matrix" "row" "column" "amount" (by intros;rfl);have b38:=F38.b2 "matrix" "row" (by intros;rfl);have b39:=F39.b2 "right" "row" (by intros;rfl);have b40:=F40.b4 "matrix" "right" "row" "column" (by intros;rfl);have b41:=F41.b1 "net" (by intros;rfl);have b42:=F42.b1 "some" (by intros;rfl);have b43:=F43.b3 "rows" "rank" "column" (by intros;rfl);have b44:=F44.b4 "row" "upper" "column" "divisor" (by intros;rfl);have b45:=F45.b4 "rows" "rank" "column" "divisor" (by intros;rfl);have b46:=F46.b2 "rows" "width" (by intros;rfl);have b47:=F47.b2 "matrix" "right" (by intros;rfl);have b48:=F48.b1 "net" (by intros;rfl);have b49:=F49.b3 "rows" "levels" "held" (by intros;rfl);have b50:=F50.b2 "self" "net" (by intros;rfl);have b51:=F51.b1 "self" (by intros;rfl);have b52:=F52.b1 "self" (by intros;rfl);have b53:=F53.b2 "some" "many" (by intros;rfl);have b54:=F54.b3 "rows" "streams" "many" (by intros;rfl);have b55:=F55.b2 "net" "streams" (by intros;rfl);have b56:=F56.b2 "net" "streams" (by intros;rfl);have b57:=F57.b2 "_law_script" "_law_k" (by intros;rfl);have b58:=F58.b3 "_law_cell" "_law_turn" "_law_many" (by intros;rfl);have b59:=F59.b2 "_law_cell" "_law_k" (by intros;rfl);have b60:=F60.b2 "_law_cell" "_law_turn" (by intros;rfl);have b61:=F61.b2 "_law_top" "_law_bottom" (by intros;rfl);have b62:=F62.b2 "_law_one" "_law_other" (by intros;rfl);have b63:=F63.b2 "_law_one" "_law_other" (by intros;rfl);have b64:=F64.b2 "_law_one" "_law_other" (by intros;rfl);have b65:=F65.b2 "_law_one" "_law_other" (by intros;rfl);have b66:=F66.b2 "_law_cell" "_law_turn" (by intros;rfl);have b67:=F67.b1 "_law_cell" (by intros;rfl);have b68:=F68.b2 "_law_found" "_law_due" (by intros;rfl);have b69:=F69.b2 "_law_found" "_law_due" (by intros;rfl);have b70:=F70.b2 "_law_many" "_law_rows" (by intros;rfl);have b71:=F71.b4 "_law_net_here" "_law_cell" "_law_word" "_law_ends" (by intros;rfl);have b72:=F72.b2 "_law_net_here" "_law_cell" (by intros;rfl);have b73:=F73.b3 "_law_script" "_law_many" "_law_most" (by intros;rfl);have F74:=rO (st:=yV) l74 c74 k74;refine⟨W.fnOf "law" "law" (eT yV) (cN yV) (aI yV) .none kV74 dc74 pm74 an74 cd74 ct74,fun s v=>.of_eq rfl,fun base _ _=>?_⟩;have bl:Bl mg:=⟨n_isinstance,n_int,n_bool,n_abs⟩
 have T:RT K mg c_Row (kd3 c_Piece c_Push c_Hold):=⟨iV ⟨pg_Piece,hd_Piece,po_Piece,sa_Piece⟩ ⟨pg_Push,hd_Push,po_Push,sa_Push⟩ ⟨pg_Hold,hd_Hold,po_Hold,sa_Hold⟩,iV na_Piece_start na_Push_start na_Hold_start,iV na_Piece_goal na_Push_goal na_Hold_goal,iV na_Piece_size na_Push_size na_Hold_size,iV t1_Piece t1_Push t1_Hold,tt2,tt3,iV t4_Piece t4_Push t4_Hold,iV isR_Piece isR_Push isR_Hold,iV (iV (tN _ _) isK_Piece_Push isK_Piece_Hold) (iV isK_Push_Piece (tN _ _) isK_Push_Hold) (iV isK_Hold_Piece isK_Hold_Push (tN _ _)),mc_Row,iV mc_Piece mc_Push mc_Hold⟩
 have fN:∀H,Fq K H aN (0,1):=Fq.mod lN;have fO:∀H,Fq K H aO (1,1):=Fq.mod lO;have fJ:∀H,SqT K H aJ [.str "piece",.str "hold"]:=fun H=>.inr ⟨_,_,_,lJ,rfl,rfl,(zl9 2),.cons ⟨_,rfl⟩ (.cons ⟨_,rfl⟩ .nil)⟩;have NTx:NT K mg c_Net:=⟨⟨pg_Net,hd_Net,po_Net,sa_Net⟩,na_Net_point_count,na_Net_kept,t1_Net,tt2,tt3,t4_Net,mc_Net⟩
 have ABx:AB K mg c_Answer:=⟨⟨pg_Answer,hd_Answer,po_Answer,sa_Answer⟩,na_Answer_lines,na_Answer_levels,na_Answer_flows,mc_Answer⟩
 have R1:=Mj (P:=l.prog) (w:=w) (K:=K) (mg:=mg) (base:=base) (CX:=CX0) F1 bl;have R2:=Zy (P:=l.prog) (w:=w) (K:=K) (mg:=mg) (base:=base) (CX:=CX0) F2 bl;have R3:=Nn (P:=l.prog) (w:=w) (K:=K) (mg:=mg) (base:=base) (CX:=CX0) F3;have R4:=Tn (P:=l.prog) (w:=w) (K:=K) (mg:=mg) (base:=base) (CX:=CX0) F4  R1 b1 F1.kp m1 R2 b2 F2.kp m2;have R5:=Oy (P:=l.prog) (w:=w) (K:=K) (mg:=mg) (base:=base) (CX:=CX0) F5  R4 b4 F4.kp m4;have R6:=Tk (P:=l.prog) (w:=w) (K:=K) (mg:=mg) (base:=base) (CX:=CX0) F6  R4 b4 F4.kp m4;have R7:=Sg (P:=l.prog) (w:=w) (K:=K) (mg:=mg) (base:=base) (CX:=CX0) F7  R4 b4 F4.kp m4;have R8:=Vt (P:=l.prog) (w:=w) (K:=K) (mg:=mg) (base:=base) (CX:=CX0) F8 bl n_len n_tuple R1 b1 F1.kp m1 R2 b2 F2.kp m2;have R9:=Js (P:=l.prog) (w:=w) (K:=K) (mg:=mg) (base:=base) (CX:=CX0) F9 T;have R10:=Dl (P:=l.prog) (w:=w) (K:=K) (mg:=mg) (base:=base) (CX:=CX0) F10;have R11:=Cz (P:=l.prog) (w:=w) (K:=K) (mg:=mg) (base:=base) (CX:=CX0) F11;have R12:=De (P:=l.prog) (w:=w) (K:=K) (mg:=mg) (base:=base) (CX:=CX0) F12;have GW:∀k,aL l.prog w K mg base CX0 1 (kd3 f10 f11 f12 k) (kd3 _ _ _ k) ["self"] (jW k):=iV (R10) (R11) (R12);have bW:∀k,aM K (kd3 _ _ _ k) ["self"] []:=iV (b10) (b11) (b12);have mW:∀k,gL K (kd3 c_Piece c_Push c_Hold k) "word" (kd3 f10 f11 f12 k):=iV (⟨a10_0,i10,F10.kp⟩) (⟨a11_0,i11,F11.kp⟩) (⟨a12_0,i12,F12.kp⟩);have R13:=As (P:=l.prog) (w:=w) (K:=K) (mg:=mg) (base:=base) (CX:=CX0) F13;have R14:=Ac (P:=l.prog) (w:=w) (K:=K) (mg:=mg) (base:=base) (CX:=CX0) F14;have R15:=zR (P:=l.prog) (w:=w) (K:=K) (mg:=mg) (base:=base) (CX:=CX0) F15;have GJ:∀k,aL l.prog w K mg base CX0 1 (kd3 f13 f14 f15 k) (kd3 _ _ _ k) ["self"] (oS k):=iV (R13) (R14) (R15);have bJ:∀k,aM K (kd3 _ _ _ k) ["self"] []:=iV (b13) (b14) (b15);have mJ:∀k,gL K (kd3 c_Piece c_Push c_Hold k) "joins" (kd3 f13 f14 f15 k):=iV (⟨a13_0,i13,F13.kp⟩) (⟨a14_0,i14,F14.kp⟩) (⟨a15_0,i15,F15.kp⟩);have R16:=Nk (P:=l.prog) (w:=w) (K:=K) (mg:=mg) (base:=base) (CX:=CX0) F16 T GW bW mW;have mT:∀k,gL K (kd3 c_Piece c_Push c_Hold k) "told" f16:=iV (⟨a16_0,i16,F16.kp⟩) (⟨a16_1,i16,F16.kp⟩) (⟨a16_2,i16,F16.kp⟩);have MK:∀k,Mk K (kd3 c_Piece c_Push c_Hold k) f9:=iV (⟨mk_Piece,a9_0,i9,kc_Piece⟩) (⟨mk_Push,a9_1,i9,kc_Push⟩) (⟨mk_Hold,a9_2,i9,kc_Hold⟩);have R17:=Mw (P:=l.prog) (w:=w) (K:=K) (mg:=mg) (base:=base) (CX:=CX0) F17 T bl n_str R9 b9 MK;have R18:=zJ (P:=l.prog) (w:=w) (K:=K) (mg:=mg) (base:=base) (CX:=CX0) F18 T R7 b7 F7.kp m7;have R19:=xW (P:=l.prog) (w:=w) (K:=K) (mg:=mg) (base:=base) (CX:=CX0) F19 T;have R20:=xU (P:=l.prog) (w:=w) (K:=K) (mg:=mg) (base:=base) (CX:=CX0) F20 T;have GS:∀k,aL l.prog w K mg base CX0 4 (kd3 f18 f19 f20 k) (kd3 _ _ _ k) ["self","fall","held"] (tL K (kd3 c_Piece c_Push c_Hold) k):=iV (R18) (R19) (R20);have bS:∀k,aM K (kd3 _ _ _ k) ["self","fall","held"] []:=iV (b18) (b19) (b20);have mS:∀k,gL K (kd3 c_Piece c_Push c_Hold k) "stream" (kd3 f18 f19 f20 k):=iV (⟨a18_0,i18,F18.kp⟩) (⟨a19_0,i19,F19.kp⟩) (⟨a20_0,i20,F20.kp⟩);have R21:=Yu (P:=l.prog) (w:=w) (K:=K) (mg:=mg) (base:=base) (CX:=CX0) F21 fN mv_NOUGHT (sQ R8) b8 F8.kp m8 R3 b3 F3.kp m3;have R22:=Zx (P:=l.prog) (w:=w) (K:=K) (mg:=mg) (base:=base) (CX:=CX0) F22  R1 b1 F1.kp m1;have R23:=Zd (P:=l.prog) (w:=w) (K:=K) (mg:=mg) (base:=base) (CX:=CX0) F23 (sQ R8) b8 F8.kp m8 R21 b21 F21.kp m21;have R24:=qa9 (P:=l.prog) (w:=w) (K:=K) (mg:=mg) (base:=base) (CX:=CX0) F24 n_all R22 b22 F22.kp m22;have R25:=Mv (P:=l.prog) (w:=w) (K:=K) (mg:=mg) (base:=base) (CX:=CX0) F25 NTx mv_MOST_POINTS R1 b1 F1.kp m1;have R26:=Ri (P:=l.prog) (w:=w) (K:=K) (mg:=mg) (base:=base) (CX:=CX0) F26 NTx;have R27:=Vp (P:=l.prog) (w:=w) (K:=K) (mg:=mg) (base:=base) (CX:=CX0) F27 NTx mv_MOST_ROWS n_len T R16 b16 mT R24 b24 F24.kp m24 R23 b23 F23.kp m23;have R28:=Sn (P:=l.prog) (w:=w) (K:=K) (mg:=mg) (base:=base) (CX:=CX0) F28 NTx R17 b17 F17.kp m17;have MN:Mk K c_Net f25:=⟨mk_Net,a25_0,i25,kc_Net⟩
 have R29:=Qd (P:=l.prog) (w:=w) (K:=K) (mg:=mg) (base:=base) (CX:=CX0) F29 T R5 b5 F5.kp m5;have R30:=Ik (P:=l.prog) (w:=w) (K:=K) (mg:=mg) (base:=base) (CX:=CX0) F30 T;have R31:=Ls (P:=l.prog) (w:=w) (K:=K) (mg:=mg) (base:=base) (CX:=CX0) F31 n_list n_range NTx T GJ bJ mJ R26 b26 ⟨a26_0,i26,F26.kp⟩ R28 b28 ⟨a28_0,i28,F28.kp⟩ R30 b30 F30.kp m30;have R32:=Pm (P:=l.prog) (w:=w) (K:=K) (mg:=mg) (base:=base) (CX:=CX0) F32 n_enumerate R31 b31 F31.kp m31;have R33:=Pb (P:=l.prog) (w:=w) (K:=K) (mg:=mg) (base:=base) (CX:=CX0) F33 T;have R34:=Vn (P:=l.prog) (w:=w) (K:=K) (mg:=mg) (base:=base) (CX:=CX0) F34 n_len R33 b33 F33.kp m33;have R35:=Me (P:=l.prog) (w:=w) (K:=K) (mg:=mg) (base:=base) (CX:=CX0) F35 NTx T n_enumerate fJ mv_JOINING_WORDS GW bW mW R28 b28 ⟨a28_0,i28,F28.kp⟩ R34 b34 F34.kp m34;have R36:=Kp (P:=l.prog) (w:=w) (K:=K) (mg:=mg) (base:=base) (CX:=CX0) F36  R6 b6 F6.kp m6;have R37:=Mf (P:=l.prog) (w:=w) (K:=K) (mg:=mg) (base:=base) (CX:=CX0) F37 T fN mv_NOUGHT R36 b36 F36.kp m36 R5 b5 F5.kp m5;have R38:=Hs (P:=l.prog) (w:=w) (K:=K) (mg:=mg) (base:=base) (CX:=CX0) F38 T fN mv_NOUGHT fO mv_ONE R7 b7 F7.kp m7 R37 b37 F37.kp m37 R5 b5 F5.kp m5;have R39:=Jp (P:=l.prog) (w:=w) (K:=K) (mg:=mg) (base:=base) (CX:=CX0) F39 T fN mv_NOUGHT R36 b36 F36.kp m36 R5 b5 F5.kp m5;have R40:=Jl (P:=l.prog) (w:=w) (K:=K) (mg:=mg) (base:=base) (CX:=CX0) F40 T fN mv_NOUGHT fO mv_ONE R37 b37 F37.kp m37 R36 b36 F36.kp m36 R5 b5 F5.kp m5;have R41:=Ve (P:=l.prog) (w:=w) (K:=K) (mg:=mg) (base:=base) (CX:=CX0) F41 NTx T n_len n_range fN mv_NOUGHT GW bW mW R28 b28 ⟨a28_0,i28,F28.kp⟩ R26 b26 ⟨a26_0,i26,F26.kp⟩ R38 b38 F38.kp m38 R39 b39 F39.kp m39 R40 b40 F40.kp m40;have R42:=Zc (P:=l.prog) (w:=w) (K:=K) (mg:=mg) (base:=base) (CX:=CX0) F42  R2 b2 F2.kp m2;have R43:=Xn (P:=l.prog) (w:=w) (K:=K) (mg:=mg) (base:=base) (CX:=CX0) F43 n_len n_range;have R44:=Uz (P:=l.prog) (w:=w) (K:=K) (mg:=mg) (base:=base) (CX:=CX0) F44 n_zip;have R45:=Bo (P:=l.prog) (w:=w) (K:=K) (mg:=mg) (base:=base) (CX:=CX0) F45 n_enumerate R44 b44 F44.kp m44;have R46:=Sh (P:=l.prog) (w:=w) (K:=K) (mg:=mg) (base:=base) (CX:=CX0) F46 n_range n_list R43 b43 F43.kp m43 R45 b45 F45.kp m45;have R47:=Hk (P:=l.prog) (w:=w) (K:=K) (mg:=mg) (base:=base) (CX:=CX0) F47 n_len n_zip R42 b42 F42.kp m42 R46 b46 F46.kp m46 R4 b4 F4.kp m4;have R48:=Wc (P:=l.prog) (w:=w) (K:=K) (mg:=mg) (base:=base) (CX:=CX0) F48 n_len R35 b35 F35.kp m35 R32 b32 F32.kp m32;have R49:=Ll (P:=l.prog) (w:=w) (K:=K) (mg:=mg) (base:=base) (CX:=CX0) F49 T fN mv_NOUGHT GW bW mW GS bS mS R29 b29 F29.kp m29;have R50:=Nf (P:=l.prog) (w:=w) (K:=K) (mg:=mg) (base:=base) (CX:=CX0) F50 ABx NTx fN mv_NOUGHT R28 b28 ⟨a28_0,i28,F28.kp⟩ R26 b26 ⟨a26_0,i26,F26.kp⟩ R48 b48 F48.kp m48 R41 b41 F41.kp m41 R47 b47 F47.kp m47 R49 b49 F49.kp m49;have MA:Mk K c_Answer f50:=⟨mk_Answer,a50_0,i50,kc_Answer⟩
 have R51:=Si (P:=l.prog) (w:=w) (K:=K) (mg:=mg) (base:=base) (CX:=CX0) F51 ABx n_list;have R52:=Lz (P:=l.prog) (w:=w) (K:=K) (mg:=mg) (base:=base) (CX:=CX0) F52 NTx n_len;have R53:=Yh (P:=l.prog) (w:=w) (K:=K) (mg:=mg) (base:=base) (CX:=CX0) F53 bl n_len n_list n_all (sQ R8) b8 F8.kp m8;have R54:=Nu (P:=l.prog) (w:=w) (K:=K) (mg:=mg) (base:=base) (CX:=CX0) F54 T n_zip fN mv_NOUGHT R6 b6 F6.kp m6 R5 b5 F5.kp m5;have R55:=Hf (P:=l.prog) (w:=w) (K:=K) (mg:=mg) (base:=base) (CX:=CX0) F55 NTx T n_all n_zip fN mv_NOUGHT GW bW mW R52 b52 ⟨a52_0,i52,F52.kp⟩ R26 b26 ⟨a26_0,i26,F26.kp⟩ R28 b28 ⟨a28_0,i28,F28.kp⟩ R53 b53 F53.kp m53 R54 b54 F54.kp m54;have R56:=Vd (P:=l.prog) (w:=w) (K:=K) (mg:=mg) (base:=base) (CX:=CX0) F56 (CN:=c_Net) ABx R50 b50 MA R51 b51 ⟨a51_0,i51,F51.kp⟩ R55 b55 F55.kp m55 R35 bd35 (.cons rfl .nil) F35.kp m35 R5 b5 F5.kp m5;have R57:=Sb (P:=l.prog) (w:=w) (K:=K) (mg:=mg) (base:=base) (CX:=CX0) F57;have R58:=Yc (P:=l.prog) (w:=w) (K:=K) (mg:=mg) (base:=base) (CX:=CX0) F58 n_range;have R59:=Sc (P:=l.prog) (w:=w) (K:=K) (mg:=mg) (base:=base) (CX:=CX0) F59 n_range;have R60:=Wz (P:=l.prog) (w:=w) (K:=K) (mg:=mg) (base:=base) (CX:=CX0) F60 n_range;have R61:=Iz (P:=l.prog) (w:=w) (K:=K) (mg:=mg) (base:=base) (CX:=CX0) F61 bl;have R62:=Jz (P:=l.prog) (w:=w) (K:=K) (mg:=mg) (base:=base) (CX:=CX0) F62  R61 b61 F61.kp m61;have R63:=Md (P:=l.prog) (w:=w) (K:=K) (mg:=mg) (base:=base) (CX:=CX0) F63  R61 b61 F61.kp m61;have R64:=Ii (P:=l.prog) (w:=w) (K:=K) (mg:=mg) (base:=base) (CX:=CX0) F64  R61 b61 F61.kp m61;have R65:=We (P:=l.prog) (w:=w) (K:=K) (mg:=mg) (base:=base) (CX:=CX0) F65  R61 b61 F61.kp m61;have R66:=Iw (P:=l.prog) (w:=w) (K:=K) (mg:=mg) (base:=base) (CX:=CX0) F66  R58 b58 F58.kp m58 R60 b60 F60.kp m60 R61 b61 F61.kp m61;have R67:=Rv (P:=l.prog) (w:=w) (K:=K) (mg:=mg) (base:=base) (CX:=CX0) F67  R58 b58 F58.kp m58 R60 b60 F60.kp m60 R61 b61 F61.kp m61;have R68:=To (P:=l.prog) (w:=w) (K:=K) (mg:=mg) (base:=base) (CX:=CX0) F68 bl n_len n_tuple;have R69:=Mg (P:=l.prog) (w:=w) (K:=K) (mg:=mg) (base:=base) (CX:=CX0) F69 bl n_len n_list n_all n_zip R68 b68 F68.kp m68;have R70:=Op (P:=l.prog) (w:=w) (K:=K) (mg:=mg) (base:=base) (CX:=CX0) F70 NTx R27 b27 ⟨a27_0,i27,F27.kp⟩ R25 b25 MN R17 b17 F17.kp m17;have R71:=Vx (P:=l.prog) (w:=w) (K:=K) (mg:=mg) (base:=base) (CX:=CX0) F71 n_len R63 b63 F63.kp m63 R66 b66 F66.kp m66 R67 b67 F67.kp m67 R65 b65 F65.kp m65 R58 b58 F58.kp m58;have R72:=Qw (P:=l.prog) (w:=w) (K:=K) (mg:=mg) (base:=base) (CX:=CX0) F72 n_len n_range n_zip R62 b62 F62.kp m62 R63 b63 F63.kp m63 R58 b58 F58.kp m58 R59 b59 F59.kp m59;have R73:=Tg (P:=l.prog) (w:=w) (K:=K) (mg:=mg) (base:=base) (CX:=CX0) F73 n_range R57 b57 F57.kp m57 R66 b66 F66.kp m66 R59 b59 F59.kp m59 R63 b63 F63.kp m63 R58 b58 F58.kp m58 R71 b71 F71.kp m71 R72 b72 F72.kp m72;exact Vk (P:=l.prog) (w:=w) (K:=K) (mg:=mg) (base:=base) (CX:=CX0) F74 NTx n_len n_range n_list n_zip R57 b57 F57.kp m57 R73 b73 F73.kp m73 R70 b70 F70.kp m70 R35 bd35 (.cons rfl .nil) F35.kp m35 R55 b55 F55.kp m55 R69 b69 F69.kp m69 R56 b56 F56.kp m56 R66 b66 F66.kp m66 R59 b59 F59.kp m59 R58 b58 F58.kp m58 R62 b62 F62.kp m62 R64 b64 F64.kp m64
theorem qd0 {l:W.OpenLaw}{q:Program}{loose:List Str}{XP:(Str->Option Value)->Heap->Prop}{YP:World->Heap->Prop}{d:DefRec}{K:Params->Frag}(hn:l.most=some 63)(hdf:d.params.defaults=[])(hY:∀(w:World) (h:Heap),YP w h->(K w.params).In h)(F:∀(w:World) (mg:Str->Option Value) (fa:Addr) (h:Heap),(K w.params).In h->h.Ns mainGlobals mg->mg d.name=some (.ref fa)->
   ∃fd:FuncData,(∀(s:Shared) (u:Value),BindsTo s fd ⟨[u],[]⟩ [("_law_script",u)])/\∀base:Heap,(K w.params).In base->base.Ns mainGlobals mg->aL l.prog w (K w.params) mg base CX0 11 fa fd ["_law_script"] (Gr (K w.params))) :
  W.WalkO q loose XP YP l.row.toRowW d [] (fun f vs=>PySem.call f vs):=
 L2.Th (n:=63) (k:=11) (x:="_law_script") (CX:=fun _=>CX0) (sp:=fun w=>Gr (K w.params)) hn (by decide) hdf ⟨rfl,by decide,by decide⟩ hY F (fun _ _ a ns hl _ hS=>⟨a,ns,rfl,hS,hl,fun _=>rfl⟩) fun _ _ _ _ _ z=>z
end K46
local macro_rules | `(tactic| walk_at "F9")=>`(tactic| (refine' L2.rO ?l9 ?c9 ?kk9;(case l9=>k_is);(case c9=>k_is);(case kk9=>show _=_;k_is)))
namespace PySem.W.Fast
def Q:=Nat
def tw11927580477112938165:=Q
def tw4703346555483321614:=Q
def tw7217570594834444567:=Q
def tw15725215514300106946:=Q
def tw7038319980931339541:=Q
def tw3373086692382245565:=Q
def tw1781934580656311662:=Q
def tw4049570382040073863:=Q
def tw1094361688114781710:=Q
def tw15644551958724155525:=Q
def tw4725445953489377369:=Q
def tw10542733337091989227:=Q
def tw13457944888574829398:=Q
def tw5735398308787732715:=Q
def tw6664707059809283138:=Q
def tw9036965709376772319:=Q
def tw7563746956827333494:=Q
def tw12142826311701703000:=Q
def tw13767325216828933812:=Q
def tw6082123723286837533:=Q
def tw1262206654514942368:=Q
def tw16339326206958784106:=Q
def tw12983955322621980777:=Q
def tw9682739369366917017:=Q
def tw1702623651949460297:=Q
def tw15583247241455356691:=Q
def tw8435989975234074638:=Q
def tw8342225366872635698:=Q
def tw8056812077146766719:=Q
def tw17998218052058788425:=Q
def tw16436139018408971342:=Q
def tw4596691501426707815:=Q
def tw2837138185404941778:=Q
def tw13970208602647423311:=Q
def tw18160858271509695476:=Q
def tw14457589509443067873:=Q
def tw7261882199404253844:=Q
def tw556400014815391391:=Q
def tw7597408939046198834:=Q
def tw13811820053269019940:=Q
def tw8698407400887554776:=Q
def tw5152805025110615862:=Q
def tw3675279902520772653:=Q
def tw2083061311846033462:=Q
def tw13456791556289079035:=Q
def tw1404182132318558597:=Q
def tw12948117518103976697:=Q
def tw12110250883847700935:=Q
def tw9077420641962464118:=Q
def tw15416641578602235921:=Q
def tw5085665911138913953:=Q
def tw9043739366132296476:=Q
def tw17510699278497802765:=Q
def tw7132099040001058076:=Q
def tw14154673119238443358:=Q
def tw17495092785739414458:=Q
def tw2685138563896551323:=Q
def tw5481685810804130420:=Q
def tw9491172965329659968:=Q
def tw4173762131959192230:=Q
def tw3921186659378672369:=Q
def tw9391241560152583257:=Q
def tw17188235510916211848:=Q
def tw11779010423455598656:=Q
def tw17098918110275488111:=Q
def tw12331096887735671089:=Q
def tw12656626601155712744:=Q
def tw11526208204877274730:=Q
def tw5217629122194640996:=Q
def tw16789689290576768340:=Q
def tw15384546751664381822:=Q
def tw7354728289777860826:=Q
def tw13340339561129358056:=Q
def tw5348915586627682215:=Q
def tw11045093956531179841:=Q
def tw10013262077753753756:=Q
def tw2862174418038367725:=Q
def tw695944079996121250:=Q
def tw2574159034369803123:=Q
def tw118622794125714336:=Q
def tw10121916274169098824:=Q
def tw3522778354769751278:=Q
def tw12886674477664225690:=Q
def tw15749313999937598324:=Q
def tw228900555257783007:=Q
def tw717307009860836844:=Q
def tw2283758151300001404:=Q
def tw6263616725955203001:=Q
def tw5315205711294950477:=Q
def tw11522835968257756139:=Q
def tw17367665308231351641:=Q
def tw10257452872130362282:=Q
def tw13450705110468536772:=Q
def tw11207570341658210652:=Q
def tw6259412714525501330:=Q
def tw17069812057367636171:=Q
def tw4155072740059425526:=Q
def tw9042197892284048701:=Q
def tw17523933336350074491:=Q
def tw7924521835176930296:=Q
def tw5526997474296655627:=Q
def tw7750456798485222562:=Q
def tw16378627863535118057:=Q
def tw18190483173826893385:=Q
def tw8830449930364111041:=Q
def tw827965693701365436:=Q
def tw1230979511966461517:=Q
def tw914216493760810671:=Q
def tw13870297263751982306:=Q
def tw3539264486631603483:=Q
def tw2483292225126131148:=Q
def tw334983008177728340:=Q
def tw11990054272114226500:=Q
def tw4639562348277005:=Q
def tw12543269456990934956:=Q
def tw10956797992041716475:=Q
def tw13926856687181022240:=Q
def tw2713017975438598822:=Q
def tw2500046821720715543:=Q
def tw5475777072386468951:=Q
def tw3288862219268303322:=Q
def tw16368249105033479239:=Q
def tw15781092618176130707:=Q
def tw12249323286509617622:=Q
def tw15646053060666616474:=Q
def tw13013136757292531450:=Q
def tw4537439381907559888:=Q
def tw8498504392146592799:=Q
def tw15249243945642824501:=Q
def tw5008499467371559364:=Q
def tw10743913328071971493:=Q
def tw2449641694876654244:=Q
def tw12780649353878923692:=Q
def tw16113074312052541154:=Q
def tw122130566667595267:=Q
def tw13930875082318398415:=Q
def tw5983719786551507409:=Q
def tw5965241865426292681:=Q
def tw14915378534304899638:=Q
def tw17685668994462631649:=Q
def tw3761575542829207037:=Q
def tw6598482700760531634:=Q
def tw5434424737029614710:=Q
def tw4591312984397140012:=Q
def tw314588679910900633:=Q
def tw16454828081322577750:=Q
def tw17886116799872325150:=Q
def tw16862580135983436657:=Q
def tw5188847007879836969:=Q
def tw15220085859911854017:=Q
def tw746641491441349928:=Q
def tw16970839479846514702:=Q
def tw12753884318943147552:=Q
def tw3518185057371856538:=Q
def tw14936879422318928795:=Q
def tw4325244628737123206:=Q
def tw14688128684484512179:=Q
def tw12715730968626956416:=Q
def tw4704741470327158819:=Q
def tw8053939938305742391:=Q
def tw3591545233970344242:=Q
def tw1940547887787476313:=Q
def tw4475239267150332471:=Q
def tw11044435264100150961:=Q
def tw5977313475943522417:=Q
def tw9410507865637748831:=Q
def tw8425156770962709332:=Q
def tw12446120471182320267:=Q
def tw11632653702597967091:=Q
def tw16770007228438291380:=Q
def tw14453764440961295571:=Q
def tw11011252253023441386:=Q
def tw12232246706070387291:=Q
def tw6548688912299220314:=Q
def tw3311218627760624038:=Q
def tw17449851934287011848:=Q
def tw9480788687818844947:=Q
def tw3373682248830519178:=Q
def tw10164000342414285723:=Q
def tw289367875664876470:=Q
def tw15698569129612741992:=Q
def tw17250894644232712748:=Q
def tw7226476073779848540:=Q
def tw10373599147176352811:=Q
def tw18048284413709544548:=Q
def tw16268376312212561351:=Q
def tw12295364347404429902:=Q
def tw1507887385240635302:=Q
def tw16162503531936469234:=Q
def tw17406383802632616263:=Q
def tw18441511167694847376:=Q
def tw4712449820870190983:=Q
def tw11788501917466892893:=Q
def tw12125518975414441251:=Q
def tw11191469601605869451:=Q
def tw14282296137780444027:=Q
def tw18158019383490754672:=Q
def tw17305634675770212771:=Q
def tw6285481550590691511:=Q
def tw678841165352573755:=Q
def tw3665224248714155915:=Q
def tw12868023470115217073:=Q
def tw3357773542725811310:=Q
def tw13839505952259319544:=Q
def tw15920990096155649143:=Q
def tw5016067467387226753:=Q
def tw12006044466607736695:=Q
def tw1392183468429071423:=Q
def tw14097887208826410153:=Q
def tw4848401579576825065:=Q
def tw14260295738311208427:=Q
def tw3025583542853249795:=Q
def tw8533390687216519010:=Q
def tw10871995231186223957:=Q
def tw2447036181769748580:=Q
def tw9267919774517711365:=Q
def tw2217055015423722938:=Q
def tw2494029640907495549:=Q
def tw3484003959178175533:=Q
def tw4122945243000038978:=Q
def tw1392180379242555300:=Q
def tw15806282988047130714:=Q
def tw10844664733789205636:=Q
def tw6925918012948093581:=Q
def tw5913648188049783256:=Q
def tw17769735938867994945:=Q
def tw2916479289574495594:=Q
def tw11447799259942318362:=Q
def tw5723312089839959337:=Q
def tw16327941443590230837:=Q
def tw16863387369529405138:=Q
def tw5089239500959308299:=Q
def tw5052322767397941971:=Q
def tw462598391117399637:=Q
def tw9280999401005831353:=Q
def tw3502345440413478903:=Q
def tw17218608021439007929:=Q
def tw12352757073845774065:=Q
def tw9639885835143420677:=Q
def tw5137081455000308465:=Q
def tw8064304178225496804:=Q
def tw9821586438852476375:=Q
def tw3161274571267084145:=Q
def tw10633724207572406087:=Q
def tw6567110907809555584:=Q
def tw14551016631060342681:=Q
def tw13621359064960851652:=Q
def tw7954133219207888955:=Q
def tw4023685470433857752:=Q
def tw2344906275829833341:=Q
def tw3310964831982963568:=Q
def tw9848048642270324470:=Q
def tw4913421558309084202:=Q
def tw15173937341837508387:=Q
def tw7576975318940308904:=Q
def tw5117997288135355922:=Q
def tw14203461668303040940:=Q
def tw4608461811108287406:=Q
def tw13926168571308314297:=Q
def tw6645690405156724315:=Q
def tw15062950493033138152:=Q
def tw702273795492044862:=Q
def tw15864749555734768228:=Q
def tw2334849301503095507:=Q
def tw9523588299293765698:=Q
def tw8953994225425918805:=Q
def tw8140793771734827115:=Q
def tw11885861875924545090:=Q
def tw360560292775648377:=Q
def tw11718844614507682983:=Q
def tw1982790147287592992:=Q
def tw18061184175753263887:=Q
def tw11041478726602204446:=Q
def tw5261910098038206136:=Q
def tw5620973300366576314:=Q
def tw13433868261872851788:=Q
def tw17950759354118606880:=Q
def tw9085918537391787521:=Q
def tw10497297221577882875:=Q
def tw6823259727378372064:=Q
def tw11985739173729602001:=Q
def tw6262533728829404449:=Q
def tw6410928805588083430:=Q
def tw3402600101928506749:=Q
def tw17658965351679542109:=Q
def tw5938140448931657760:=Q
def tw14758861486014300199:=Q
def tw4948154342307939676:=Q
def tw4130111991534156451:=Q
def tw5776821612912133686:=Q
def tw12465064752256371762:=Q
def tw9934768419076057044:=Q
def tw6043137105656099685:=Q
def tw18098430646600593326:=Q
def tw9867496262618910157:=Q
def tw18375582324651787315:=Q
def tw10244371749767678864:=Q
def tw17664403224690388373:=Q
def tw17106163817839779638:=Q
def tw12672036891198194721:=Q
def tw14548011628158423189:=Q
def tw12131063374771724371:=Q
def tw1735253728458307676:=Q
def tw10642850676026120044:=Q
def tw7761589954942553123:=Q
def tw976823543355335182:=Q
def tw984431589963973438:=Q
def tw5375620005580407161:=Q
def tw18021198579930838642:=Q
def tw10260559751077871292:=Q
def tw17104384450222738742:=Q
def tw10817749944628233369:=Q
def tw12907927436172245119:=Q
def tw4285957812498474252:=Q
def tw13594849249555905052:=Q
def tw5000851165327273527:=Q
def tw1033932625401819288:=Q
def tw2292326240866561939:=Q
def tw5324448479053819066:=Q
def tw14205719458089335902:=Q
def tw9410722025131008397:=Q
def tw2257480436778883300:=Q
def tw760117440576206501:=Q
def tw9766073529885279700:=Q
def tw15604178707579788843:=Q
def tw11079794830075476901:=Q
def tw12394788839043753806:=Q
def tw9820831833716110787:=Q
def tw1839151672041798507:=Q
def tw10287293936335406727:=Q
def tw14985866506319663971:=Q
def tw2540965892761609918:=Q
def tw9733706497260192275:=Q
def tw8067507311935554512:=Q
def tw1318647702803621851:=Q
def tw11095390387051178868:=Q
def tw18105403589536268302:=Q
def tw12408949170910146244:=Q
def tw7351715541046192584:=Q
def tw2096847055738717085:=Q
def tw17939220765191758975:=Q
def tw15495802186029044319:=Q
def tw15797984506161134499:=Q
def tw13093794501606594427:=Q
def tw14656861266511898659:=Q
def tw16526274785526712230:=Q
def tw4205571702523167468:=Q
def tw7777884507385079337:=Q
def tw8479045173745885853:=Q
def tw14498477695814412060:=Q
def tw2885024377746435699:=Q
def tw11887920414100938331:=Q
def tw7742588246237083712:=Q
def tw12715913903092677908:=Q
def tw6923916706749972199:=Q
def tw718780465990485843:=Q
def tw11475514320015974651:=Q
def tw5992603273346385278:=Q
def tw1088759822167957738:=Q
def tw1442723198615855457:=Q
def tw5732663682643661043:=Q
def tw9554842751256545864:=Q
def tw9815913106396559324:=Q
def tw11505924754106575760:=Q
def tw9269267465098746828:=Q
def tw12433770377086156882:=Q
def tw1514616155935810495:=Q
def tw368091544685417578:=Q
def tw8313916960666692791:=Q
def tw10751191945322400508:=Q
def tw2874900122036867413:=Q
def tw6746019818729268444:=Q
def tw8107284911642183728:=Q
def tw11251972895304570649:=Q
def tw16818785583139350145:=Q
def tw16737503773867483779:=Q
def tw18439190827918048472:=Q
def tw15743899752502537126:=Q
def tw1791363714401664870:=Q
def tw2359754592488630153:=Q
def tw8232881717818228838:=Q
def tw11352887380506770985:=Q
def tw13668404534040109784:=Q
def tw16111017485378529375:=Q
def tw4851493900175850357:=Q
def tw1066557247221803379:=Q
def tw8549919752654422256:=Q
def tw14173109634708733002:=Q
def tw3397541940637112595:=Q
def tw7239163581544213844:=Q
def tw16018865682675090085:=Q
def tw16496524452408048046:=Q
def tw9230961893402124312:=Q
def tw4437383191529943664:=Q
def tw5900223717744152004:=Q
def tw18411929798378715224:=Q
def tw17925733961836460035:=Q
def tw2207694447237759583:=Q
def tw852068643324072063:=Q
def tw3947105296064290558:=Q
def tw15414824477848809490:=Q
def tw2626730511944380035:=Q
def tw16636758020169950148:=Q
def tw13016940330489413811:=Q
def tw4451300960763533642:=Q
def tw2355582239345314606:=Q
def tw1214237517289039791:=Q
def tw16278162759933541270:=Q
def tw10022378266975263679:=Q
def tw2731688920058658784:=Q
def tw3688492085659326869:=Q
def tw11218136883124747564:=Q
def tw3699091383047578661:=Q
def tw7687151288230652318:=Q
def tw4254456143068373215:=Q
def tw6273605428009750499:=Q
def tw693653522957701259:=Q
def tw7090814643524458988:=Q
def tw16641343204434280466:=Q
def tw2947923861115260369:=Q
def tw1480776677144221808:=Q
def tw14532043144099968909:=Q
def tw13455292498136821258:=Q
def tw3001797442152923707:=Q
def tw15452985343089095614:=Q
def tw4490198296881372119:=Q
def tw3149338452939011663:=Q
def tw765400619570649206:=Q
def tw17261939180573494349:=Q
def tw9142318131549726559:=Q
def tw7027661992416949038:=Q
def tw17597618948626383185:=Q
def tw7655790253565712551:=Q
def tw17075581802628528034:=Q
def tw1598116135970378126:=Q
def tw16046104013141726942:=Q
def tw9468025608694065702:=Q
def tw966969817624048388:=Q
def tw3175179951848696937:=Q
def tw12839903982206590207:=Q
def tw2366705063495693119:=Q
def tw7789336618730469265:=Q
def tw14872626321444860758:=Q
def tw11264843704112765517:=Q
def tw5066776203060111168:=Q
def tw854717971097100984:=Q
def tw13136451826171058632:=Q
def tw9995285017650269353:=Q
def tw15326135437541215368:=Q
def tw2447355730707683238:=Q
def tw5386136289366922180:=Q
def tw741108512719881939:=Q
def tw10571593951479164006:=Q
def tw14021902764804291939:=Q
def tw16573457857307905377:=Q
def tw14122215085378769360:=Q
def tw3342176963767845029:=Q
def tw4693345621607814693:=Q
def tw14697238109917967204:=Q
def tw10749671212678323932:=Q
def tw11981453220907517792:=Q
def tw12440369764582872713:=Q
def tw542457141224891298:=Q
def tw1491155211861369050:=Q
def tw10262057541258031973:=Q
def tw11223486333241507504:=Q
def tw4839761831734473171:=Q
def tw16626883383153309335:=Q
def tw13022896581372637119:=Q
def tw17929825146972320551:=Q
def tw13926379458866587155:=Q
def tw4197665944162530529:=Q
def tw18312000859846048359:=Q
def tw3292458992430570537:=Q
def tw8217276852204875143:=Q
def tw18276727889600487669:=Q
def tw9534398401379323751:=Q
def tw11331800663455637442:=Q
def tw15497583090701790759:=Q
def tw7405379209569753351:=Q
def tw10668141910067156166:=Q
def tw10947707440862656517:=Q
def tw2020443587882111868:=Q
def tw2127608474691503745:=Q
def tw17726816314939377887:=Q
def tw4542271735259064424:=Q
def tw8305830939515321002:=Q
def tw18303012752524157198:=Q
def tw4103334373716391247:=Q
def tw15623403321442426533:=Q
def tw12908198710431033804:=Q
def tw13163638902917661141:=Q
def tw10332675599232323487:=Q
def tw1450458081765951148:=Q
def tw1232600589019281184:=Q
def tw16364240747047824606:=Q
def tw7335479792601722020:=Q
def tw664668072935503483:=Q
def tw1513402064189698477:=Q
def tw10235972680414196169:=Q
def tw3288393347989922663:=Q
def tw6923268611497958714:=Q
def tw14646777859648307881:=Q
def tw8705451280155061373:=Q
def tw16228111776940687504:=Q
def tw3236784282601887740:=Q
def tw1389701356277443241:=Q
def tw16683858982736150704:=Q
def tw13485881374329886401:=Q
def tw18321528570394230004:=Q
end PySem.W.Fast
open PySem PySem.W PyProof.Rows
set_option maxRecDepth 100000 in
set_option maxHeartbeats 0 in
theorem PySem.Challenge.cw_ohmyard_k46_amounts_holds : PySem.Challenge.rw_ohmyard_k46_amounts.Holds := by
  w_on; o_law; z_head; (case hw => w_witness2)
  k_fill
  refine L2.Kx (fun _ => by kernel_rfl) (K46.qd0 (l := PySem.Challenge.rw_ohmyard_k46_amounts) rfl rfl (fun w h Y => Y) ?F)
  case F =>
    intro w mg fa h KX G hmg
    refine' K46.Wi hmg (mg_of KX G ?y_Row) (mg_of KX G ?y_Piece) (mg_of KX G ?y_Push) (mg_of KX G ?y_Hold) (mg_of KX G ?y_Net) (mg_of KX G ?y_Answer) (mg_of KX G ?a1) ?F1 (mg_of KX G ?a2) ?F2 (mg_of KX G ?a3) ?F3 (mg_of KX G ?a4) ?l4 ?c4 ?k4 ?lt4 (mg_of KX G ?a5) ?F5 (mg_of KX G ?a6) ?F6 (mg_of KX G ?a7) ?F7 (mg_of KX G ?a8) ?F8 ?a9_0 ?a9_1 ?a9_2 ?i9 ?F9 ?a10_0 ?i10 ?F10 ?a11_0 ?i11 ?F11 ?a12_0 ?i12 ?F12 ?a13_0 ?i13 ?F13 ?a14_0 ?i14 ?F14 ?a15_0 ?i15 ?F15 ?a16_0 ?a16_1 ?a16_2 ?i16 ?F16 (mg_of KX G ?a17) ?F17 ?a18_0 ?i18 ?F18 ?a19_0 ?i19 ?F19 ?a20_0 ?i20 ?F20 (mg_of KX G ?a21) ?F21 (mg_of KX G ?a22) ?F22 (mg_of KX G ?a23) ?F23 (mg_of KX G ?a24) ?F24 ?a25_0 ?i25 ?F25 ?a26_0 ?i26 ?F26 ?a27_0 ?i27 ?F27 ?a28_0 ?i28 ?F28 (mg_of KX G ?a29) ?F29 (mg_of KX G ?a30) ?F30 (mg_of KX G ?a31) ?F31 (mg_of KX G ?a32) ?F32 (mg_of KX G ?a33) ?F33 (mg_of KX G ?a34) ?F34 (mg_of KX G ?a35) ?l35 ?c35 ?k35 ?lt35 (mg_of KX G ?a36) ?F36 (mg_of KX G ?a37) ?F37 (mg_of KX G ?a38) ?F38 (mg_of KX G ?a39) ?F39 (mg_of KX G ?a40) ?F40 (mg_of KX G ?a41) ?F41 (mg_of KX G ?a42) ?F42 (mg_of KX G ?a43) ?F43 (mg_of KX G ?a44) ?F44 (mg_of KX G ?a45) ?F45 (mg_of KX G ?a46) ?F46 (mg_of KX G ?a47) ?F47 (mg_of KX G ?a48) ?F48 (mg_of KX G ?a49) ?F49 ?a50_0 ?i50 ?F50 ?a51_0 ?i51 ?F51 ?a52_0 ?i52 ?F52 (mg_of KX G ?a53) ?F53 (mg_of KX G ?a54) ?F54 (mg_of KX G ?a55) ?F55 (mg_of KX G ?a56) ?F56 (mg_of KX G ?a57) ?F57 (mg_of KX G ?a58) ?F58 (mg_of KX G ?a59) ?F59 (mg_of KX G ?a60) ?F60 (mg_of KX G ?a61) ?F61 (mg_of KX G ?a62) ?F62 (mg_of KX G ?a63) ?F63 (mg_of KX G ?a64) ?F64 (mg_of KX G ?a65) ?F65 (mg_of KX G ?a66) ?F66 (mg_of KX G ?a67) ?F67 (mg_of KX G ?a68) ?F68 (mg_of KX G ?a69) ?F69 (mg_of KX G ?a70) ?F70 (mg_of KX G ?a71) ?F71 (mg_of KX G ?a72) ?F72 (mg_of KX G ?a73) ?F73 (mg_of KX G ?a74) ?l74 ?c74 ?k74 (mg_of KX G ?v_ONE) (mg_of KX G ?v_NOUGHT) (mg_of KX G ?v_JOINING_WORDS) (mg_of KX G ?v_MOST_POINTS) (mg_of KX G ?v_MOST_ROWS) ?lO ?lN ?lJ ?pg_Piece ?hd_Piece ?po_Piece ?sa_Piece ?mk_Piece ?kc_Piece ?t1_Piece ?t4_Piece ?na_Piece_start ?na_Piece_goal ?na_Piece_size ?pg_Push ?hd_Push ?po_Push ?sa_Push ?mk_Push ?kc_Push ?t1_Push ?t4_Push ?na_Push_start ?na_Push_goal ?na_Push_size ?pg_Hold ?hd_Hold ?po_Hold ?sa_Hold ?mk_Hold ?kc_Hold ?t1_Hold ?t4_Hold ?na_Hold_start ?na_Hold_goal ?na_Hold_size ?tt2 ?tt3 ?isR_Piece ?isR_Push ?isR_Hold ?isK_Piece_Push ?isK_Piece_Hold ?isK_Push_Piece ?isK_Push_Hold ?isK_Hold_Piece ?isK_Hold_Push ?pg_Net ?hd_Net ?po_Net ?sa_Net ?mk_Net ?kc_Net ?t1_Net ?t4_Net ?na_Net_point_count ?na_Net_kept ?pg_Answer ?hd_Answer ?po_Answer ?sa_Answer ?mk_Answer ?kc_Answer ?t1_Answer ?t4_Answer ?na_Answer_lines ?na_Answer_levels ?na_Answer_flows (mg_none_of KX G ?z1) (mg_none_of KX G ?z2) (mg_none_of KX G ?z3) (mg_none_of KX G ?z4) (mg_none_of KX G ?z5) (mg_none_of KX G ?z6) (mg_none_of KX G ?z7) (mg_none_of KX G ?z8) (mg_none_of KX G ?z9) (mg_none_of KX G ?z10) (mg_none_of KX G ?z11) (mg_none_of KX G ?z12)
    (case y_Row=>k_is)
    (case y_Piece=>k_is)
    (case y_Push=>k_is)
    (case y_Hold=>k_is)
    (case y_Net=>k_is)
    (case y_Answer=>k_is)
    (case a1=>k_is)
    (case F1=>walk_at "F9")
    (case a2=>k_is)
    (case F2=>walk_at "F9")
    (case a3=>k_is)
    (case F3=>walk_at "F9")
    (case a4=>k_is)
    (case l4=>k_is)
    (case c4=>k_is)
    (case k4=>show _=_;k_is)
    (case lt4=>k_is)
    (case a5=>k_is)
    (case F5=>walk_at "F9")
    (case a6=>k_is)
    (case F6=>walk_at "F9")
    (case a7=>k_is)
    (case F7=>walk_at "F9")
    (case a8=>k_is)
    (case F8=>walk_at "F9")
    (case a9_0=>k_is)
    (case a9_1=>k_is)
    (case a9_2=>k_is)
    (case i9=>k_is)
    (case F9=>walk_at "F9")
    (case a10_0=>k_is)
    (case i10=>k_is)
    (case F10=>walk_at "F9")
    (case a11_0=>k_is)
    (case i11=>k_is)
    (case F11=>walk_at "F9")
    (case a12_0=>k_is)
    (case i12=>k_is)
    (case F12=>walk_at "F9")
    (case a13_0=>k_is)
    (case i13=>k_is)
    (case F13=>walk_at "F9")
    (case a14_0=>k_is)
    (case i14=>k_is)
    (case F14=>walk_at "F9")
    (case a15_0=>k_is)
    (case i15=>k_is)
    (case F15=>walk_at "F9")
    (case a16_0=>k_is)
    (case a16_1=>k_is)
    (case a16_2=>k_is)
    (case i16=>k_is)
    (case F16=>walk_at "F9")
    (case a17=>k_is)
    (case F17=>walk_at "F9")
    (case a18_0=>k_is)
    (case i18=>k_is)
    (case F18=>walk_at "F9")
    (case a19_0=>k_is)
    (case i19=>k_is)
    (case F19=>walk_at "F9")
    (case a20_0=>k_is)
    (case i20=>k_is)
    (case F20=>walk_at "F9")
    (case a21=>k_is)
    (case F21=>walk_at "F9")
    (case a22=>k_is)
    (case F22=>walk_at "F9")
    (case a23=>k_is)
    (case F23=>walk_at "F9")
    (case a24=>k_is)
    (case F24=>walk_at "F9")
    (case a25_0=>k_is)
    (case i25=>k_is)
    (case F25=>walk_at "F9")
    (case a26_0=>k_is)
    (case i26=>k_is)
    (case F26=>walk_at "F9")
    (case a27_0=>k_is)
    (case i27=>k_is)
    (case F27=>walk_at "F9")
    (case a28_0=>k_is)
    (case i28=>k_is)
    (case F28=>walk_at "F9")
    (case a29=>k_is)
    (case F29=>walk_at "F9")
    (case a30=>k_is)
    (case F30=>walk_at "F9")
    (case a31=>k_is)
    (case F31=>walk_at "F9")
    (case a32=>k_is)
    (case F32=>walk_at "F9")
    (case a33=>k_is)
    (case F33=>walk_at "F9")
    (case a34=>k_is)
    (case F34=>walk_at "F9")
    (case a35=>k_is)
    (case l35=>k_is)
    (case c35=>k_is)
    (case k35=>show _=_;k_is)
    (case lt35=>k_is)
    (case a36=>k_is)
    (case F36=>walk_at "F9")
    (case a37=>k_is)
    (case F37=>walk_at "F9")
    (case a38=>k_is)
    (case F38=>walk_at "F9")
    (case a39=>k_is)
    (case F39=>walk_at "F9")
    (case a40=>k_is)
    (case F40=>walk_at "F9")
    (case a41=>k_is)
    (case F41=>walk_at "F9")
    (case a42=>k_is)
    (case F42=>walk_at "F9")
    (case a43=>k_is)
    (case F43=>walk_at "F9")
    (case a44=>k_is)
    (case F44=>walk_at "F9")
    (case a45=>k_is)
    (case F45=>walk_at "F9")
    (case a46=>k_is)
    (case F46=>walk_at "F9")
    (case a47=>k_is)
    (case F47=>walk_at "F9")
    (case a48=>k_is)
    (case F48=>walk_at "F9")
    (case a49=>k_is)
    (case F49=>walk_at "F9")
    (case a50_0=>k_is)
    (case i50=>k_is)
    (case F50=>walk_at "F9")
    (case a51_0=>k_is)
    (case i51=>k_is)
    (case F51=>walk_at "F9")
    (case a52_0=>k_is)
    (case i52=>k_is)
    (case F52=>walk_at "F9")
    (case a53=>k_is)
    (case F53=>walk_at "F9")
    (case a54=>k_is)
    (case F54=>walk_at "F9")
    (case a55=>k_is)
    (case F55=>walk_at "F9")
    (case a56=>k_is)
    (case F56=>walk_at "F9")
    (case a57=>k_is)
    (case F57=>walk_at "F9")
    (case a58=>k_is)
    (case F58=>walk_at "F9")
    (case a59=>k_is)
    (case F59=>walk_at "F9")
    (case a60=>k_is)
    (case F60=>walk_at "F9")
    (case a61=>k_is)
    (case F61=>walk_at "F9")
    (case a62=>k_is)
    (case F62=>walk_at "F9")
    (case a63=>k_is)
    (case F63=>walk_at "F9")
    (case a64=>k_is)
    (case F64=>walk_at "F9")
    (case a65=>k_is)
    (case F65=>walk_at "F9")
    (case a66=>k_is)
    (case F66=>walk_at "F9")
    (case a67=>k_is)
    (case F67=>walk_at "F9")
    (case a68=>k_is)
    (case F68=>walk_at "F9")
    (case a69=>k_is)
    (case F69=>walk_at "F9")
    (case a70=>k_is)
    (case F70=>walk_at "F9")
    (case a71=>k_is)
    (case F71=>walk_at "F9")
    (case a72=>k_is)
    (case F72=>walk_at "F9")
    (case a73=>k_is)
    (case F73=>walk_at "F9")
    (case a74=>k_is)
    (case l74=>k_is)
    (case c74=>k_is)
    (case k74=>show _=_;k_is)
    (case v_ONE=>k_is)
    (case v_NOUGHT=>k_is)
    (case v_JOINING_WORDS=>k_is)
    (case v_MOST_POINTS=>k_is)
    (case v_MOST_ROWS=>k_is)
    (case lO=>k_is)
    (case lN=>k_is)
    (case lJ=>k_is)
    (case pg_Piece=>k_is)
    (case hd_Piece=>k_is)
    (case po_Piece=>k_is)
    (case sa_Piece=>k_is)
    (case mk_Piece=>k_is)
    (case kc_Piece=>show _=_;k_is)
    (case t1_Piece=>k_is)
    (case t4_Piece=>k_is)
    (case na_Piece_start=>k_is)
    (case na_Piece_goal=>k_is)
    (case na_Piece_size=>k_is)
    (case pg_Push=>k_is)
    (case hd_Push=>k_is)
    (case po_Push=>k_is)
    (case sa_Push=>k_is)
    (case mk_Push=>k_is)
    (case kc_Push=>show _=_;k_is)
    (case t1_Push=>k_is)
    (case t4_Push=>k_is)
    (case na_Push_start=>k_is)
    (case na_Push_goal=>k_is)
    (case na_Push_size=>k_is)
    (case pg_Hold=>k_is)
    (case hd_Hold=>k_is)
    (case po_Hold=>k_is)
    (case sa_Hold=>k_is)
    (case mk_Hold=>k_is)
    (case kc_Hold=>show _=_;k_is)
    (case t1_Hold=>k_is)
    (case t4_Hold=>k_is)
    (case na_Hold_start=>k_is)
    (case na_Hold_goal=>k_is)
    (case na_Hold_size=>k_is)
    (case tt2=>k_is)
    (case tt3=>k_is)
    (case isR_Piece=>kit_is)
    (case isR_Push=>kit_is)
    (case isR_Hold=>kit_is)
    (case isK_Piece_Push=>kit_is)
    (case isK_Piece_Hold=>kit_is)
    (case isK_Push_Piece=>kit_is)
    (case isK_Push_Hold=>kit_is)
    (case isK_Hold_Piece=>kit_is)
    (case isK_Hold_Push=>kit_is)
    (case pg_Net=>k_is)
    (case hd_Net=>k_is)
    (case po_Net=>k_is)
    (case sa_Net=>k_is)
    (case mk_Net=>k_is)
    (case kc_Net=>show _=_;k_is)
    (case t1_Net=>k_is)
    (case t4_Net=>k_is)
    (case na_Net_point_count=>k_is)
    (case na_Net_kept=>k_is)
    (case pg_Answer=>k_is)
    (case hd_Answer=>k_is)
    (case po_Answer=>k_is)
    (case sa_Answer=>k_is)
    (case mk_Answer=>k_is)
    (case kc_Answer=>show _=_;k_is)
    (case t1_Answer=>k_is)
    (case t4_Answer=>k_is)
    (case na_Answer_lines=>k_is)
    (case na_Answer_levels=>k_is)
    (case na_Answer_flows=>k_is)
    (case z1=>k_is)
    (case z2=>k_is)
    (case z3=>k_is)
    (case z4=>k_is)
    (case z5=>k_is)
    (case z6=>k_is)
    (case z7=>k_is)
    (case z8=>k_is)
    (case z9=>k_is)
    (case z10=>k_is)
    (case z11=>k_is)
    (case z12=>k_is)
