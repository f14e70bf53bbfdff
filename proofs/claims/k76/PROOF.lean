import PyProof.Rows.All
import Wide.Line
import OpenK.ZGo
import OpenK.KOwn
import KE.RegKIsAll
import KE.RegKTryMore
import Wide.FinOn
import Lean
import PyProof.EqAt
import PyProof.EqKinds
import PyProof.TupleCall
import PyProof.Cells
import PyProof.SumWalkG
import PyProof.EnumStmt
import PyProof.EnumMake
import PyProof.InstStoreFacts
import KE.KDictList
import KE.KItem
import KE.KIntText
import PySem.Challenge.RW_ohmyard_k76_refused_watch
set_option Elab.async false
set_option linter.all false
set_option maxRecDepth 100000
open PySem.W (Frag)
set_option maxHeartbeats 4000000
open List
namespace L2
open PySem PySem.Spec PyProof.Rows
abbrev Key:=Sum Int Str
def xX:Key->Value->Bool
 | .inl k,v=>Value.isInt k v
 | .inr x,v=>Value.isStrOf x v
def qm3 (w:World):Key->Int
 | .inl k=>hashInt k
 | .inr x=>hashStr w x
theorem dX:∀{k:Key} {v:Value},xX k v=true->(∃i t,k=Sum.inl i/\v=Value.int i t)\/(∃x t,k=Sum.inr x/\v=Value.str x t)
 | .inl i,v,h=>by
  obtain⟨t,e⟩:=Value.isInt_shape (k:=i) (v:=v) h;exact .inl ⟨i,t,rfl,e⟩
 | .inr x,v,h=>by
  obtain⟨t,e⟩:=Value.isStrOf_shape (x:=x) (v:=v) h;exact .inr ⟨x,t,rfl,e⟩
theorem Me (i:Int)(t:Tok):xX (.inl i) (.int i t)=true:=by simp[xX,Value.isInt]
theorem La (x:Str)(t:Tok):xX (.inr x) (.str x t)=true:=by simp[xX,Value.isStrOf]
theorem qa2 (a b:Int):decide ((Sum.inl a:Key)=Sum.inl b)=(a == b):=by
 by_cases e:a=b
 ·subst e;simp
 ·have h:¬(Sum.inl a:Key)=Sum.inl b:=fun q=>e (Sum.inl.inj q);rw[decide_eq_false h];exact(beq_eq_false_iff_ne.mpr e).symm
theorem qa0 (a b:Str):decide ((Sum.inr a:Key)=Sum.inr b)=decide (a=b):=by
 by_cases e:a=b
 ·subst e;simp
 ·have h:¬(Sum.inr a:Key)=Sum.inr b:=fun q=>e (Sum.inr.inj q);rw[decide_eq_false h,decide_eq_false e]
theorem qe4 (a:Int)(b:Str):decide ((Sum.inl a:Key)=Sum.inr b)=false:=decide_eq_false (fun q=>nomatch q)
theorem qc6 (a:Str)(b:Int):decide ((Sum.inr a:Key)=Sum.inl b)=false:=decide_eq_false (fun q=>nomatch q)
def dZ (prog:Program)(w:World):PySem.KeyKind prog w Key where
 is:=xX
 hash:=qm3 w
 inj:=fun v a b ha hb=>by
  rcases dX ha with ⟨i,t,rfl,rfl⟩ | ⟨x,t,rfl,rfl⟩
  ·rcases dX hb with ⟨j,u,rfl,e⟩ | ⟨y,u,rfl,e⟩
   ·injection e with e1 _;rw[e1]
   ·exact nomatch e
  ·rcases dX hb with ⟨j,u,rfl,e⟩ | ⟨y,u,rfl,e⟩
   ·exact nomatch e
   ·injection e with e1 _;rw[e1]
 byValue:=fun k v h=>by
  rcases dX h with ⟨i,t,rfl,rfl⟩ | ⟨x,t,rfl,rfl⟩<;>rfl
 pyHash:=fun hv h=>by
  rcases dX hv with ⟨i,t,rfl,rfl⟩ | ⟨x,t,rfl,rfl⟩
  ·exact wpAny_pyHash_int h
  ·exact wpAny_pyHash_str h
 eqBool:=fun hu hv h=>by
  rcases dX hu with ⟨i,t,rfl,rfl⟩ | ⟨x,t,rfl,rfl⟩
  ·rcases dX hv with ⟨j,u,rfl,rfl⟩ | ⟨y,u,rfl,rfl⟩
   ·rw[qa2] at h;exact wpAny_eqBool_int h
   ·rw[qe4] at h;exact SeqAt.EqAt.int_str i t y u _ _ _ _ h
  ·rcases dX hv with ⟨j,u,rfl,rfl⟩ | ⟨y,u,rfl,rfl⟩
   ·rw[qc6] at h;exact SeqAt.EqAt.str_int x t j u _ _ _ _ h
   ·rw[qa0] at h;exact wpAny_eqBool_str h
 «strs»:=fun k x t v h=>by
  rcases dX h with ⟨i,u,rfl,e⟩ | ⟨y,u,rfl,e⟩
  ·exact nomatch e
  ·injection e with e1 _
   subst e1
   cases v<;>rfl
theorem Dx (prog:Program)(w:World)(i:Int)(t:Tok):(dZ prog w).is (.inl i) (.int i t)=true:=Me i t
theorem Ea (prog:Program)(w:World)(x:Str)(t:Tok):(dZ prog w).is (.inr x) (.str x t)=true:=La x t
inductive V where
 |non | bl (b:Bool) | int (i:Int) | str (x:Str) | byt (b:Array UInt8) | flt (b:UInt64) | ref (a:Addr) | ty (n:String)
 deriving DecidableEq
def cC:V->Value->Prop
 | .non,u=>u=Value.none
 | .bl b,u=>u=Value.bool b
 | .int i,u=>∃t,u=Value.int i t
 | .str x,u=>∃t,u=Value.str x t
 | .byt b,u=>∃t,u=Value.bytes b t
 | .flt b,u=>∃t,u=Value.float b t
 | .ref a,u=>u=Value.ref a
 | .ty n,u=>u=Value.type n
abbrev bV:List V->List Value->Prop:=Paired cC
theorem bV.length (r:bV xs us):xs.length=us.length:=Paired.length r
theorem bV.get:∀{xs:List V} {us:List Value} {i:Nat} {x:V},bV xs us->xs[i]?=some x->∃u,us[i]?=some u/\cC x u
 |_,_,_,_,.nil,e=>by simp at e
 |_,_,0,_,.cons r _,e=>by simp at e;subst e;exact⟨_,rfl,r⟩
 |_,_,i+1,x,.cons _ t,e=>by
  obtain⟨u,h1,h2⟩:=bV.get (i:=i) (x:=x) t (by simpa using e);exact⟨u,by simpa using h1,h2⟩
theorem bV.set (r:cC x u):∀{xs:List V} {us:List Value} (i:Nat),bV xs us->bV (xs.set i x) (us.set i u)
 |_,_,_,.nil=>.nil
 |_,_,0,.cons _ t=>.cons r t
 |_,_,i+1,.cons q t=>.cons q (bV.set r i t)
theorem bV.append:∀{xs ys:List V} {us ws:List Value},bV xs us->bV ys ws->bV (xs++ys) (us++ws)
 |_,_,_,_,.nil,s=>s
 |_,_,_,_,.cons r t,s=>.cons r (bV.append t s)
theorem bV.take:∀{xs:List V} {us:List Value} (n:Nat),bV xs us->bV (xs.take n) (us.take n)
 |_,_,0,_=>.nil
 |_,_,_+1,.nil=>.nil
 |_,_,n+1,.cons r t=>.cons r (bV.take n t)
theorem bV.drop:∀{xs:List V} {us:List Value} (n:Nat),bV xs us->bV (xs.drop n) (us.drop n)
 |_,_,0,r=>r
 |_,_,_+1,.nil=>.nil
 |_,_,n+1,.cons _ t=>bV.drop n t
def jY:Option V->Option Value->Prop
 |some v,some u=>cC v u
 |none,none=>True
 |_,_=>False
def KV {κ:Type}:List (κ × V)->List (κ × Value)->Prop:=Paired fun (p:κ × V) (q:κ × Value)=>p.1=q.1/\cC p.2 q.2
def kV:Key->V
 | .inl i=>.int i
 | .inr x=>.str x
inductive HO where
 |lst (xs:List V)
 |tup (xs:List V)
 |dK (kvs:List (Key × V)) | dT (kvs:List (List Key × V))
 |set (S:Int->Bool) (n:Nat)
 |ins (C dx:Addr) (fs:List (Str × V))
 |own (x:Addr)
 |xd (fs:List (Str × V))
 |met (f x:Addr)
 |rng (lo hi:Int)
 |frz (o:Obj) (u:HO)
 |tbl (ps:Array Value)
 |ext (φ:Heap->Prop)
abbrev Hp:=Addr->Option HO
def upd (H:Hp)(a:Addr)(o:HO):Hp:=fun b=>if b=a then some o else H b
theorem aB:upd H a o a=some o:=by unfold upd;rw[if_pos rfl]
theorem aQ (h:b≠a):upd H a o b=H b:=by unfold upd;rw[if_neg h]
theorem pU:upd (upd H a o) a u=upd H a u:=by
 funext b;unfold upd;split<;>rfl
theorem fD {H:Hp}(h:H a=some o)(h':H b=some u)(d:o≠u):a≠b:=by
 intro e;subst e;rw[h] at h';exact d (Option.some.inj h')
theorem aX {H:Hp}(h:H a=some o)(h':H b=none):a≠b:=by
 intro e;subst e;rw[h] at h';cases h'
section
variable (P:Program) (w:World)
def cN (H:Hp)(h:Heap)(a:Addr):HO->Prop
 | .lst xs=>xs.length<=sizeLine/\∃(its:List Value) (n:Nat),bV xs its/\h.get? a=some { cls:=.type "list",data:=.seq its.toArray n }
 | .tup xs=>xs.length<=sizeLine/\∃its:List Value,bV xs its/\IsTup h a its.toArray
 | .dK kvs=>kvs.length<=sizeLine/\(a == sysModules)=false/\∃vs,KV kvs vs/\h.DictOf (dZ P w) a vs
 | .dT kvs=>kvs.length<=sizeLine/\(a == sysModules)=false/\∃xs:List (List Key × Addr × Value),
   Paired (fun (p:List Key × V) (q:List Key × Addr × Value)=>p.1=q.1/\H q.2.1=some (.tup (p.1.map kV))/\cC p.2 q.2.2) kvs xs/\
   ∃o es ep,h.get? a=some o/\o.ExactDict/\o.data=.dict es ep/\es.toList=xs.map (entryOfKey (tupleKind (dZ P w)))/\(xs.map (·.1)).Nodup
 | .set S n=>h.SetOf (intKind P w) a S n
 | .ins C dx fs=>H dx=some (.own a)/\fs.length<=1000/\dx≠a/\h.get? a=some (W.instObj C dx)/\
   ∃mA,h.Ns1 dx mA/\(∀f,jY (fs.lookup f) (mA f))/\PySem.Within mA (fs.map (·.1))
 | .own _=>∃o,h.get? a=some o
 | .xd fs=>∃mA,h.Ns1 a mA/\∀f,jY (fs.lookup f) (mA f)
 | .rng lo hi=>∃t u v,h.get? a=some { cls:=.type "range",data:=.fields #[.int lo t,.int hi u,.int 1 v] }
 | .frz o u=>h.get? a=some o/\cN H h a u
 | .tbl ps=>h.get? a=some { cls:=.none,data:=.fields ps }
 | .met f x=>h.get? a=some (W.methodObj (.ref f) (.ref x))
 | .ext φ=>φ h/\(∃o,h.get? a=some o)/\∀h1 h2:Heap,φ h1->(∀o,h1.get? a=some o->h2.get? a=some o)->φ h2
def HOk (H:Hp)(h:Heap):Prop:=∀a o,H a=some o->cN P w H h a o
end
section
variable {P:Program} {w:World} {H H':Hp} {h h':Heap} {a:Addr} {o:HO}
theorem cN.lt (x:cN P w H h a o):a < h.objs.size:=by
 cases o with
 |lst xs=>obtain⟨_,_,_,_,e⟩:=x;exact Heap.lt_size e
 |tup xs=>obtain⟨_,_,_,p⟩:=x;exact p.lt
 |dK kvs=>obtain⟨_,_,_,_,o,_,_,e,_⟩:=x;exact Heap.lt_size e
 |dT kvs=>obtain⟨_,_,_,_,o,_,_,e,_⟩:=x;exact Heap.lt_size e
 |set S n=>obtain⟨o,_,_,_,e,_⟩:=x;exact Heap.lt_size e
 |ins C dx fs=>obtain⟨_,_,_,e,_⟩:=x;exact Heap.lt_size e
 |own y=>obtain⟨_,e⟩:=x;exact Heap.lt_size e
 |xd fs=>obtain⟨_,⟨_,_,_,e,_⟩,_⟩:=x;exact Heap.lt_size e
 |rng lo hi=>obtain⟨_,_,_,e⟩:=x;exact Heap.lt_size e
 |frz ob u=>obtain⟨e,_⟩:=x;exact Heap.lt_size e
 |tbl ps=>exact Heap.lt_size (show h.get? a=some _ from x)
 |met f y=>exact Heap.lt_size (show h.get? a=some _ from x)
 |ext φ=>obtain⟨_,⟨_,e⟩,_⟩:=x;exact Heap.lt_size e
theorem Paired.mapP:∀{l₁:List α} {l₂:List β},Paired F l₁ l₂->(∀a b,F a b->G a b)->Paired G l₁ l₂
 |_,_,.nil,_=>.nil
 |_,_,.cons r t,f=>.cons (f _ _ r) (Paired.mapP t f)
theorem cN.stay (x:cN P w H h a o)(k:∀b u,(b=a\/H b=some (.own a))->h.get? b=some u->h'.get? b=some u)(ho:∀b,H b=some (.own a)->H' b=some (.own a))(ht:∀b xs,H b=some (.tup xs)->H' b=some (.tup xs)):cN P w H' h' a o:=by
 induction o with
 |lst xs=>obtain⟨z,its,n,r,e⟩:=x;exact⟨z,its,n,r,k _ _ (.inl rfl) e⟩
 |tup xs=>obtain⟨z,its,r,ob,e,c⟩:=x;exact⟨z,its,r,ob,k _ _ (.inl rfl) e,c⟩
 |dK kvs=>obtain⟨z,y,vs,r,ob,es,ep,e,c⟩:=x;exact⟨z,y,vs,r,ob,es,ep,k _ _ (.inl rfl) e,c⟩
 |dT kvs=>
  obtain⟨z,y,xs,r,ob,es,ep,e,c⟩:=x;exact⟨z,y,xs,Paired.mapP r fun p q z=>⟨z.1,ht _ _ z.2.1,z.2.2⟩,ob,es,ep,k _ _ (.inl rfl) e,c⟩
 |set S n=>obtain⟨ob,es,ep,t,e,c⟩:=x;exact⟨ob,es,ep,t,k _ _ (.inl rfl) e,c⟩
 |ins C dx fs=>
  obtain⟨d,z,ne,e,mA,⟨od,es,ep,e2,c⟩,r⟩:=x;exact⟨ho _ d,z,ne,k _ _ (.inl rfl) e,mA,⟨od,es,ep,k _ _ (.inr d) e2,c⟩,r⟩
 |own y=>obtain⟨ob,e⟩:=x;exact⟨ob,k _ _ (.inl rfl) e⟩
 |xd fs=>obtain⟨mA,⟨od,es,ep,e,c⟩,r⟩:=x;exact⟨mA,⟨od,es,ep,k _ _ (.inl rfl) e,c⟩,r⟩
 |rng lo hi=>obtain⟨t,u,v,e⟩:=x;exact⟨t,u,v,k _ _ (.inl rfl) e⟩
 |frz ob u ih=>obtain⟨e,q⟩:=x;exact⟨k _ _ (.inl rfl) e,ih q⟩
 |tbl ps=>
  have e:h.get? a=some { cls:=.none,data:=.fields ps }:=x;show h'.get? a=some { cls:=.none,data:=.fields ps };exact k a _ (.inl rfl) e
 |met f y=>
  have e:h.get? a=some (W.methodObj (.ref f) (.ref y)):=x;show h'.get? a=some (W.methodObj (.ref f) (.ref y));exact k a _ (.inl rfl) e
 |ext φ=>obtain⟨p,⟨o,e⟩,st⟩:=x;exact⟨st _ _ p fun o q=>k _ _ (.inl rfl) q,⟨o,k _ _ (.inl rfl) e⟩,st⟩
theorem HOk.lt (x:HOk P w H h)(e:H a=some o):a < h.objs.size:=(x a o e).lt
theorem HOk.fresh (x:HOk P w H h)(e:h.objs.size<=a):H a=none:=by
 cases q:H a with
 |none=>rfl
 |some u=>exact absurd (Nat.lt_of_lt_of_le (x.lt q) e) (Nat.lt_irrefl _)
theorem HOk.kept (x:HOk P w H h)(k:∀b u,h.get? b=some u->h'.get? b=some u):HOk P w H h':=fun a o e=>
 (x a o e).stay (fun b u _ q=>k b u q) (fun _ q=>q) fun _ _ q=>q
theorem HOk.laid (x:HOk P w H h)(k:∀b u,h.get? b=some u->h'.get? b=some u)(hp:h.objs.size<=a)(new:cN P w (upd H a o) h' a o):HOk P w (upd H a o) h':=fun b u e=>by
 have hn:=x.fresh hp
 by_cases hb:b=a
 ·subst hb;rw[aB] at e;cases e;exact new
 ·rw[aQ hb] at e;exact(x b u e).stay (fun c v _ q=>k c v q) (fun c q=>by rw[aQ (aX q hn)];exact q) fun c xs q=>by rw[aQ (aX q hn)];exact q
end
def Rd (H:Hp)(a:Addr)(u:HO):Prop:=H a=some u\/∃o,H a=some (.frz o u)
theorem Rd.ok (r:Rd H a u)(x:HOk P w H h):cN P w H h a u:=by
 rcases r with r | ⟨o,r⟩
 ·exact x a u r
 ·obtain⟨_,q⟩:=x a _ r;exact q
def Mut:Option HO->Prop
 |some (.lst _)=>True
 |some (.dK _)=>True
 |some (.dT _)=>True
 |some (.set _ _)=>True
 |some (.ins _ _ _)=>True
 |some (.ext _)=>True
 |_=>False
section
variable {P:Program} {w:World} {H:Hp} {h h':Heap} {x e:Addr} {o':HO}
theorem HOk.write (ok:HOk P w H h)(mu:Mut (H x))(he:e=x\/H e=some (.own x))(k:∀b u,b≠e->h.get? b=some u->h'.get? b=some u)(heo:∃u,h'.get? e=some u)(new:cN P w (upd H x o') h' x o'):HOk P w (upd H x o') h':=fun b u q=>by
 have nown:∀c y,H c=some (.own y)->c≠x:=fun c y r z=>by subst z;rw[r] at mu;exact mu
 have ntup:∀c xs,H c=some (.tup xs)->c≠x:=fun c xs r z=>by subst z;rw[r] at mu;exact mu
 by_cases hb:b=x
 ·subst hb;rw[aB] at q;cases q;exact new
 ·rw[aQ hb] at q
  by_cases hbe:b=e
  ·have q':H b=some (.own x):=by
    rcases he with z | z
    ·exact absurd (hbe.trans z) hb
    ·rw[hbe];exact z
   rw[q] at q';cases q';obtain⟨v,hv⟩:=heo;exact⟨v,by rw[hbe];exact hv⟩
  ·refine(ok b u q).stay (fun c v hc r=>k c v ?_ r) (fun c r=>by rw[aQ (nown c b r)];exact r) fun c xs r=>by rw[aQ (ntup c xs r)];exact r
   rcases hc with rfl | hc
   ·exact hbe
   ·rintro rfl;rcases he with z | z
    ·exact nown c b hc z
    ·rw[hc] at z;cases z;exact hb rfl
end
structure Un (fs ex:List Addr) (H H':Hp) (h h':Heap):Prop where
 keep:∀b o,h.get? b=some o->H b=none->b∉fs->b∉ex->h'.get? b=some o
 slot:∀b o,h.get? b=some o->H b=none->b∈fs->b∉ex->∃sl,h'.get? b=some { o with slots:=sl }
 free:∀b o,h.get? b=some o->H b=none->b∉ex->H' b=none
 there:∀b o,h.get? b=some o->b∉ex->∃o',h'.get? b=some o'
 tups:∀b xs,H b=some (.tup xs)->H' b=some (.tup xs)
 frzs:∀b o u,H b=some (.frz o u)->H' b=some (.frz o u)
 tbls:∀b ps,H b=some (.tbl ps)->∃more,H' b=some (.tbl (ps++more))
section
variable {fs fs' ex ex':List Addr} {H H1 H2:Hp} {h h1 h2 h':Heap} {a x e:Addr} {o:HO}
theorem Un.any (u:Un fs ex H H1 h h1)(q:h.get? b=some ob)(n:H b=none)(hx:b∉ex):∃sl,h1.get? b=some { ob with slots:=sl }:=by
 by_cases hb:b∈fs
 ·exact u.slot b ob q n hb hx
 ·exact⟨ob.slots,u.keep b ob q n hb hx⟩
theorem Un.kept (k:∀b u,h.get? b=some u->h'.get? b=some u):Un fs ex H H h h':=
 ⟨fun b ob q _ _ _=>k b ob q,fun b ob q _ _ _=>⟨ob.slots,k b ob q⟩,fun _ _ _ n _=>n,fun b ob q _=>⟨ob,k b ob q⟩,fun _ _ q=>q,fun _ _ _ q=>q,fun _ ps q=>⟨#[],by rw[q];simp⟩⟩
theorem Un.refl:Un fs ex H H h h:=Un.kept fun _ _ q=>q
theorem Un.laid (k:∀b u,h.get? b=some u->h'.get? b=some u)(hp:h.objs.size<=a)(hn:H a=none):Un fs ex H (upd H a o) h h' where
 keep:=fun b u q _ _ _=>k b u q
 slot:=fun b u q _ _ _=>⟨u.slots,k b u q⟩
 free:=fun b u q n _=>by rw[aQ (Nat.ne_of_lt (Nat.lt_of_lt_of_le (Heap.lt_size q) hp))];exact n
 there:=fun b u q _=>⟨u,k b u q⟩
 tups:=fun b xs q=>by rw[aQ (aX q hn)];exact q
 frzs:=fun b u xs q=>by rw[aQ (aX q hn)];exact q
 tbls:=fun b ps q=>⟨#[],by rw[aQ (aX q hn),q];simp⟩
theorem Un.write (mu:Mut (H x))(he:e=x\/H e=some (.own x))(k:∀b u,b≠e->h.get? b=some u->h'.get? b=some u)(heo:∃u,h'.get? e=some u):Un fs ex H (upd H x o) h h':=by
 have hx:∀b,H b=none->b≠x:=fun b n z=>by subst z;rw[n] at mu;exact mu
 have hb:∀b,H b=none->b≠e:=fun b n z=>by
  subst z;rcases he with r | r
  ·exact hx b n r
  ·rw[n] at r;cases r
 have hm:∀b u,H b=some u->¬Mut (some u)->b≠x:=fun b u q nm z=>by subst z;rw[q] at mu;exact nm mu
 refine⟨fun b u q n _ _=>k b u (hb b n) q,fun b u q n _ _=>⟨u.slots,k b u (hb b n) q⟩,fun b u q n _=>by rw[aQ (hx b n)];exact n,fun b u q _=>?_,
  fun b xs q=>by rw[aQ (hm b _ q fun z=>z)];exact q,fun b u xs q=>by rw[aQ (hm b _ q fun z=>z)];exact q,fun b ps q=>⟨#[],by rw[aQ (hm b _ q fun z=>z),q];simp⟩⟩
 by_cases hbe:b=e
 ·subst hbe;exact heo
 ·exact⟨u,k b u hbe q⟩
end
def trk (h:Heap)(H:Hp):List Addr:=(List.range h.objs.size).filter fun a=>(H a).isSome
def yY (h:Heap)(H:Hp):Heap:=W.hideAll h (trk h H)
theorem Lb (h:Heap)(H:Hp):(yY h H).objs.size=h.objs.size:=W.hideAll_size _ _
theorem Pp (e:h.get? b=some o)(n:H b=none):(yY h H).get? b=some o:=
 W.hideAll_get _ e fun hm=>by
  have q:(H b).isSome=true:=(mem_filter.mp hm).2;rw[n] at q;simp at q
theorem Uw (e:(yY h H).get? b=some o):h.get? b=some o/\H b=none:=by
 have e':h.get? b=some o:=W.of_hideAll (trk h H) e;refine⟨e',?_⟩
 cases q:H b with
 |none=>rfl
 |some x=>
  have hm:b∈trk h H:=mem_filter.mpr ⟨mem_range.mpr (Heap.lt_size e'),by simp[q]⟩;have z:(yY h H).get? b=none:=W.hideAll_none (trk h H) hm;rw[z] at e;cases e
structure Mod (K:Frag) (mg:Str->Option Value) (base:Heap):Prop where
 kin:K.In base
 glob:base.Ns mainGlobals mg
 blt:∃mb,base.Ns builtinsNs mb/\∀x:Str,x≠"__name__"->mb x=bootBuiltins x
 nolimit:base.NoLimit
structure Cx where
 prog:Program
 w:World
 K:Frag
 mg:Str->Option Value
 base:Heap
 A:Around
 N:List Str
 s₀:Shared
 H₀:Hp
 env:Env
 outer:List Env
 stack:List Env
 ex:List Addr
 fn:Str->Bool
 calm:Bool
 pn:List (Addr × Obj)
 xe:Value->Shared->Prop
def frs (l:List Env):List Addr:=l.filterMap (·.frame)
abbrev Cx.fs (X:Cx):List Addr:=frs X.outer
def Vis (sc:Scope)(x:Str):Prop:=sc.names.lookup x=some .local\/sc.names.lookup x=some .cell\/sc.names.lookup x=some .free
def Loc (sc:Scope)(x:Str):Prop:=sc.names.lookup x=some .local\/sc.names.lookup x=some .cell
def qm7 (env:Env)(h:Heap)(m:Str->Option Value)(x:Str)(u:Value):Prop:=
 (env.kindOf x=some .local/\m x=some u)\/((env.kindOf x=some .cell\/env.kindOf x=some .free)/\∃c,env.cells.lookup x=some c/\h.IsCell c (some u))
structure Cx.Ok (X:Cx):Prop where
 mod:Mod X.K X.mg X.base
 kind:X.env.scope.kind=.function
 glob:X.env.globals=mainGlobals
 blt:X.env.builtins=builtinsNs
 above:X.s₀.heap.objs.size<=X.env.locals
 inj:∀x y c,X.env.cells.lookup x=some c->X.env.cells.lookup y=some c->x=y
 has:∀x,(X.env.kindOf x=some .cell\/X.env.kindOf x=some .free)->∃c,X.env.cells.lookup x=some c
 cab:∀x c,X.fn x=true->X.env.cells.lookup x=some c->X.s₀.heap.objs.size<=c
 hd:X.calm=true->X.A.handled=none
 frames:X.A.frames=some X.stack
 stk:X.stack=X.outer\/(X.stack=X.env :: X.outer/\X.env.frame=some X.env.locals)
 exf:∀b∈X.ex,b≠X.env.locals/\∀x c,X.env.cells.lookup x=some c->c≠b
 bs:∀b o,X.base.get? b=some o->X.s₀.heap.get? b=some o/\X.H₀ b=none
 bsz:X.base.objs.size<=X.s₀.heap.objs.size
 noex:∀b o,X.base.get? b=some o->b∉X.ex
 exfs:∀b∈X.ex,b∉X.fs
 funs:X.s₀.heap.FunFrames X.base X.outer
 frf:∀b∈X.fs,X.H₀ b=none
structure Inv (X:Cx) (pins:List (Addr × Obj)) (σ:List (Option V)) (H:Hp) (s:Shared):Prop where
 ok:X.Ok
 os:s.os=X.s₀.os
 bare:AllBare s.gens
 base:Un X.fs X.ex X.H₀ H X.s₀.heap s.heap
 loc:∃m,s.heap.Ns X.env.locals m/\∀(i:Nat) (x:Str) (v:V),X.N[i]?=some x->σ[i]?=some (some v)->Vis X.env.scope x->∃u,cC v u/\qm7 X.env s.heap m x u
 cell:∀x c,X.env.cells.lookup x=some c->∃v,s.heap.IsCell c v
 free:H X.env.locals=none
 freeC:∀x c,X.env.cells.lookup x=some c->H c=none
 pin:∀p∈X.pn++pins,s.heap.get? p.1=some p.2/\H p.1=none/\p.1≠X.env.locals/\p.1∉X.fs/\∀v,p.2.data≠.cell v
 hok:HOk X.prog X.w H s.heap
 len:σ.length=X.N.length
section
variable {X:Cx} {pins:List (Addr × Obj)} {σ:List (Option V)} {H H':Hp} {s:Shared} {h':Heap}
theorem Cx.Ok.nofr (ok:X.Ok)(e:X.base.get? b=some o):b∉X.fs:=fun hb=>by
 have:=(ok.funs.mem hb).1;rw[e] at this;cases this
theorem Inv.bs (I:Inv X pins σ H s):∀b o,X.base.get? b=some o->s.heap.get? b=some o/\H b=none:=fun b o e=>
 ⟨I.base.keep b o (I.ok.bs b o e).1 (I.ok.bs b o e).2 (I.ok.nofr e) (I.ok.noex b o e),I.base.free b o (I.ok.bs b o e).1 (I.ok.bs b o e).2 (I.ok.noex b o e)⟩
theorem Inv.bk (I:Inv X pins σ H s):∀b o,X.base.get? b=some o->s.heap.get? b=some o:=fun b o e=>(I.bs b o e).1
theorem Inv.mod (I:Inv X pins σ H s):Mod X.K X.mg X.base:=I.ok.mod
theorem Inv.kIn (I:Inv X pins σ H s):X.K.In s.heap:=I.ok.mod.kin.keeps I.bk
theorem Inv.lt (I:Inv X pins σ H s):X.env.locals < s.heap.objs.size:=let ⟨_,hn,_⟩:=I.loc;hn.lt
theorem Inv.sz (I:Inv X pins σ H s):X.s₀.heap.objs.size<=s.heap.objs.size:=Nat.le_trans I.ok.above (Nat.le_of_lt I.lt)
theorem Inv.nofs (I:Inv X pins σ H s)(h:s.heap.objs.size<=a):a∉X.fs:=fun hb=>by
 obtain⟨_,o,ho,_⟩:=I.ok.funs.mem hb;exact absurd (Nat.lt_of_lt_of_le (Heap.lt_size ho) (Nat.le_trans I.sz h)) (Nat.lt_irrefl _)
theorem Inv.cne (I:Inv X pins σ H s):∀x c,X.env.cells.lookup x=some c->c≠X.env.locals:=fun x c e z=>by
 obtain⟨v,o,ho,hd⟩:=I.cell x c e;obtain⟨m,⟨o',es,ep,ho',hd',_⟩,_⟩:=I.loc;rw[z,ho'] at ho;cases ho;rw[hd'] at hd;cases hd
theorem Inv.funs (I:Inv X pins σ H s):s.heap.FunFrames X.base X.outer:=by
 have all:∀(l:List Env),(∀b∈frs l,b∈X.fs)->X.s₀.heap.FunFrames X.base l->s.heap.FunFrames X.base l:=by
  intro l
  induction l with
  |nil=>intro _ _;trivial
  |cons env r ih=>
   intro hs hl;obtain⟨hk,⟨L,o,hf,hn,ho,hd⟩,hr⟩:=hl;have hL:L∈X.fs:=hs L (by unfold frs;rw[filterMap_cons,hf];exact mem_cons_self);obtain⟨sl,e⟩:=I.base.slot L o ho (I.ok.frf L hL) hL fun z=>I.ok.exfs L z hL;exact⟨hk,⟨L,_,hf,hn,e,hd⟩,ih (fun b hb=>hs b (by unfold frs;rw[filterMap_cons,hf];exact mem_cons_of_mem _ hb)) hr⟩
 exact all X.outer (fun _ hb=>hb) I.ok.funs
theorem Inv.stack (I:Inv X pins σ H s):s.heap.FunFrames X.base X.stack:=by
 rcases I.ok.stk with e | ⟨e,hf⟩
 ·rw[e];exact I.funs
 ·rw[e];obtain⟨m,hn,_⟩:=I.loc;refine .cons (by rw[I.ok.kind];decide) hf hn ?_ I.funs;exact Heap.get?_none_of_le (Nat.le_trans I.ok.bsz I.ok.above)
theorem Inv.stkSub (I:Inv X pins σ H s):∀b∈frs X.stack,b∈X.env.locals :: X.fs:=fun b hb=>by
 rcases I.ok.stk with e | ⟨e,hf⟩
 ·rw[e] at hb;exact mem_cons_of_mem _ hb
 ·rw[e] at hb;unfold frs at hb;rw[filterMap_cons,hf] at hb;exact hb
theorem Inv.stkFree (I:Inv X pins σ H s):∀b∈frs X.stack,H b=none:=fun b hb=>by
 rcases mem_cons.mp (I.stkSub b hb) with e | hb
 ·rw[e];exact I.free
 ·obtain⟨_,o,ho,_⟩:=I.ok.funs.mem hb;exact I.base.free b o ho (I.ok.frf b hb) fun z=>I.ok.exfs b z hb
theorem Inv.step {ch:List Addr}(I:Inv X pins σ H s)(hch:∀b∈ch,(b∈X.ex\/X.s₀.heap.objs.size<=b)/\b≠X.env.locals/\(∀x c,X.env.cells.lookup x=some c->c≠b)/\∀p∈X.pn++pins,p.1≠b)(keep:∀b o,b≠X.env.locals->b∉X.fs->b∉ch->s.heap.get? b=some o->H b=none->h'.get? b=some o)(slot:∀b o,b≠X.env.locals->b∈X.fs->b∉ch->s.heap.get? b=some o->H b=none->∃sl,h'.get? b=some { o with slots:=sl })(free:∀b o,b∉ch->s.heap.get? b=some o->H b=none->H' b=none)(there:∀b o,b∉ch->s.heap.get? b=some o->∃o',h'.get? b=some o')(tups:∀b xs,H b=some (.tup xs)->H' b=some (.tup xs))(frzs:∀b o u,H b=some (.frz o u)->H' b=some (.frz o u))(tbls:∀b ps,H b=some (.tbl ps)->∃more,H' b=some (.tbl (ps++more)))(ns:∀m,s.heap.Ns X.env.locals m->h'.Ns X.env.locals m)(hok:HOk X.prog X.w H' h')(hg:AllBare g'):
  Inv X pins σ H' { s with heap:=h',gens:=g',drawn:=d',toks:=t' }:=by
 have neL:∀b o,X.s₀.heap.get? b=some o->b≠X.env.locals:=fun b o e=>Nat.ne_of_lt (Nat.lt_of_lt_of_le (Heap.lt_size e) I.ok.above);have neC:∀b o,X.s₀.heap.get? b=some o->b∉X.ex->b∉ch:=fun b o e hx hb=>by
  rcases (hch b hb).1 with z | z
  ·exact hx z
  ·exact absurd (Nat.lt_of_lt_of_le (Heap.lt_size e) z) (Nat.lt_irrefl _)
 have cellK:∀x c,X.env.cells.lookup x=some c->∀v,s.heap.IsCell c v->h'.IsCell c v:=fun x c e v ⟨o,ho,hd⟩=>by
  have nch:c∉ch:=fun z=>(hch c z).2.2.1 x c e rfl
  by_cases hc:c∈X.fs
  ·obtain⟨sl,q⟩:=slot c o (I.cne x c e) hc nch ho (I.freeC x c e);exact⟨_,q,hd⟩
  ·exact⟨o,keep c o (I.cne x c e) hc nch ho (I.freeC x c e),hd⟩
 refine⟨I.ok,I.os,hg,⟨fun b o e n hb hx=>?_,fun b o e n hb hx=>?_,fun b o e n hx=>?_,fun b o e hx=>?_,fun b xs e=>tups b xs (I.base.tups b xs e),fun b o xs e=>frzs b o xs (I.base.frzs b o xs e),fun b ps e=>?_⟩,?_,fun x c e=>?_,?_,fun x c e=>?_,fun p hp=>?_,hok,I.len⟩
 ·exact keep b o (neL b o e) hb (neC b o e hx) (I.base.keep b o e n hb hx) (I.base.free b o e n hx)
 ·obtain⟨sl,e1⟩:=I.base.slot b o e n hb hx;obtain⟨sl',e2⟩:=slot b _ (neL b o e) hb (neC b o e hx) e1 (I.base.free b o e n hx);exact⟨sl',e2⟩
 ·obtain⟨o',e1⟩:=I.base.there b o e hx;exact free b o' (neC b o e hx) e1 (I.base.free b o e n hx)
 ·obtain⟨o',e1⟩:=I.base.there b o e hx;exact there b o' (neC b o e hx) e1
 ·obtain⟨m1,e1⟩:=I.base.tbls b ps e;obtain⟨m2,e2⟩:=tbls b _ e1;exact⟨m1++m2,by rw[e2,Array.append_assoc]⟩
 ·obtain⟨m,hn,hl⟩:=I.loc;refine⟨m,ns m hn,fun i x v e1 e2 e3=>?_⟩;obtain⟨u,r,l⟩:=hl i x v e1 e2 e3;refine⟨u,r,?_⟩;rcases l with l | ⟨k,c,e,z⟩
  ·exact .inl l
  ·exact .inr ⟨k,c,e,cellK x c e _ z⟩
 ·obtain⟨v,z⟩:=I.cell x c e;exact⟨v,cellK x c e v z⟩
 ·obtain⟨m,⟨o,_,_,ho,_⟩,_⟩:=I.loc;exact free _ o (fun z=>(hch _ z).2.1 rfl) ho I.free
 ·obtain⟨v,o,ho,hd⟩:=I.cell x c e;exact free c o (fun z=>(hch c z).2.2.1 x c e rfl) ho (I.freeC x c e)
 ·obtain⟨e,n,ne,nf,d⟩:=I.pin p hp;have nch:p.1∉ch:=fun z=>(hch p.1 z).2.2.2 p hp rfl;exact⟨keep p.1 p.2 ne nf nch e n,free p.1 p.2 nch e n,ne,nf,d⟩
theorem Inv.un (I:Inv X pins σ H s)(u:Un X.fs [] H H' s.heap h')(hok:HOk X.prog X.w H' h'):Inv X pins σ H' { s with heap:=h',toks:=t' }:=by
 obtain⟨m,⟨o,es,ep,ho,r⟩,_⟩:=id I.loc;obtain⟨sl,hL⟩:=u.any ho I.free (by simp);exact I.step (g':=s.gens) (d':=s.drawn) (ch:=[]) (fun _ z=>nomatch z) (fun b o _ hb _ e n=>u.keep b o e n hb (by simp)) (fun b o _ hb _ e n=>u.slot b o e n hb (by simp)) (fun b o _ e n=>u.free b o e n (by simp)) (fun b o _ e=>u.there b o e (by simp)) u.tups u.frzs u.tbls (fun m' hm=>by
  obtain⟨o',es',ep',ho',r'⟩:=hm;rw[ho] at ho';cases ho';exact⟨_,es',ep',hL,r'⟩) hok I.bare
theorem Inv.call (I:Inv X pins σ H s)(u:Un (frs X.stack) ch H H' s.heap h')(hok:HOk X.prog X.w H' h')(hg:AllBare g')(hch:∀b∈ch,(b∈X.ex\/X.s₀.heap.objs.size<=b)/\b≠X.env.locals/\(∀x c,X.env.cells.lookup x=some c->c≠b)/\∀p∈X.pn++pins,p.1≠b):
  Inv X pins σ H' { s with heap:=h',gens:=g',drawn:=d',toks:=t' }:=by
 obtain⟨m,⟨o,es,ep,ho,r⟩,_⟩:=id I.loc;obtain⟨sl,hL⟩:=u.any ho I.free fun z=>(hch _ z).2.1 rfl;exact I.step (ch:=ch) hch (fun b o hL hb hc e n=>u.keep b o e n (fun z=>(mem_cons.mp (I.stkSub b z)).elim hL hb) hc) (fun b o _ _ hc e n=>u.any e n hc) (fun b o hc e n=>u.free b o e n hc) (fun b o hc e=>u.there b o e hc) u.tups u.frzs u.tbls (fun m' hm=>by
  obtain⟨o',es',ep',ho',r'⟩:=hm;rw[ho] at ho';cases ho';exact⟨_,es',ep',hL,r'⟩) hok hg
theorem Inv.turned (I:Inv X pins σ H s)(k:∀b o,b≠it->s.heap.get? b=some o->h'.get? b=some o)(hn:H it=none)(hL:it≠X.env.locals)(h1:it∈X.ex\/X.s₀.heap.objs.size<=it)(h2:∀x c,X.env.cells.lookup x=some c->c≠it)(h3:∀p∈X.pn++pins,p.1≠it):Inv X pins σ H { s with heap:=h',toks:=t' }:=by
 have nit:∀b u,H b=some u->b≠it:=fun b u e z=>by rw[z,hn] at e;cases e
 refine I.step (g':=s.gens) (d':=s.drawn) (ch:=[it]) (fun b hb=>?_) (fun b o _ _ hc e _=>k b o (fun z=>hc (by simp[z])) e) (fun b o _ _ hc e _=>⟨o.slots,k b o (fun z=>hc (by simp[z])) e⟩) (fun _ _ _ _ n=>n)
  (fun b o hc e=>⟨o,k b o (fun z=>hc (by simp[z])) e⟩) (fun _ _ e=>e) (fun _ _ _ e=>e) (fun b ps e=>⟨#[],by rw[e];simp⟩) (fun m hm=>?_) (fun b u e=>?_) I.bare
 ·have e:b=it:=by simpa using hb
  subst e;exact⟨h1,hL,h2,h3⟩
 ·obtain⟨o,es,ep,ho,r⟩:=hm;exact⟨o,es,ep,k _ o (Ne.symm hL) ho,r⟩
 ·refine(I.hok b u e).stay (fun c v hc q=>k c v ?_ q) (fun _ q=>q) fun _ _ q=>q;rcases hc with z | z
  ·rw[z];exact nit b u e
  ·exact nit c _ z
theorem Inv.tok (I:Inv X pins σ H s)(t:Nat):Inv X pins σ H { s with toks:=t }:=I.un (h':=s.heap) (t':=t) Un.refl I.hok
theorem Inv.kept (I:Inv X pins σ H s)(k:∀b u,s.heap.get? b=some u->h'.get? b=some u):Inv X pins σ H { s with heap:=h',toks:=t' }:=I.un (Un.kept k) (I.hok.kept k)
theorem Inv.laid (I:Inv X pins σ H s)(k:∀b u,s.heap.get? b=some u->h'.get? b=some u)(hp:s.heap.objs.size<=a)(new:cN X.prog X.w (upd H a o) h' a o):
  Inv X pins σ (upd H a o) { s with heap:=h',toks:=t' }:=I.un (Un.laid k hp (I.hok.fresh hp)) (I.hok.laid k hp new)
theorem Inv.write (I:Inv X pins σ H s)(mu:Mut (H x))(he:e=x\/H e=some (.own x))(k:∀b u,b≠e->s.heap.get? b=some u->h'.get? b=some u)(heo:∃u,h'.get? e=some u)(new:cN X.prog X.w (upd H x o) h' x o):Inv X pins σ (upd H x o) { s with heap:=h',toks:=t' }:=I.un (Un.write mu he k heo) (I.hok.write mu he k heo new)
theorem Inv.weak (I:Inv X pins σ H s)(hl:σ'.length=σ.length)(w:∀(i:Nat) v,σ'[i]?=some (some v)->σ[i]?=some (some v)):Inv X pins σ' H s:=
 ⟨I.ok,I.os,I.bare,I.base,let ⟨m,hn,hl'⟩:=I.loc;⟨m,hn,fun i x v e1 e2 e3=>hl' i x v e1 (w i v e2) e3⟩,I.cell,I.free,I.freeC,I.pin,I.hok,hl.trans I.len⟩
theorem Inv.pins_of (I:Inv X pins σ H s)(h:∀p∈pins',s.heap.get? p.1=some p.2/\H p.1=none/\p.1≠X.env.locals/\p.1∉X.fs/\∀v,p.2.data≠.cell v):Inv X pins' σ H s:=
 ⟨I.ok,I.os,I.bare,I.base,I.loc,I.cell,I.free,I.freeC,fun p hp=>(mem_append.mp hp).elim (fun z=>I.pin p (mem_append_left _ z)) (h p),I.hok,I.len⟩
theorem vA {N:List Str}(hN:N.Nodup){i j:Nat}(a:N[i]?=some x)(b:N[j]?=some x):i=j:=by
 obtain⟨h1,e1⟩:=List.getElem?_eq_some_iff.mp a;obtain⟨h2,e2⟩:=List.getElem?_eq_some_iff.mp b;exact(getElem_inj hN).mp (e1.trans e2.symm)
theorem yS (I:Inv X pins σ H s)(hN:X.N.Nodup)(hi:X.N[i]?=some x)(hx:Loc X.env.scope x)(r:cC v u)(h:∀s',Inv X pins (σ.set i (some v)) H s'->(∃a,Heap.SameBut a s.heap s'.heap/\(a=X.env.locals\/X.env.cells.lookup x=some a))->Q () s')(hf:X.fn x=true\/X.env.scope.names.lookup x=some .local:=by first | exact .inl rfl | exact .inr rfl | assumption):wpAny M A (storeName X.env x u) Q E s:=by
 obtain⟨m,hn,hl⟩:=id I.loc;have hcls:(X.env.scope.kind == .class || (X.env.scope.kind == .module && X.env.locals != X.env.globals))=false:=by rw[I.ok.kind];rfl
 have hiσ:i < σ.length:=by rw[I.len];exact(List.getElem?_eq_some_iff.mp hi).1
 have cne:=I.cne;have tracked:∀{a:Addr} {h':Heap},(∃o,s.heap.get? a=some o/\H a=none)->Heap.SameBut a s.heap h'->HOk X.prog X.w H h':=fun {a h'} ha hs b ob e=>by
  obtain⟨_,_,hfree⟩:=ha;refine(I.hok b ob e).stay (fun c w' hc q=>(hs.2 c ?_).trans q) (fun _ q=>q) fun _ _ q=>q;rintro rfl;rcases hc with rfl | hc
  ·rw[hfree] at e;cases e
  ·rw[hfree] at hc;cases hc
 rcases hx with hk | hk
 ·refine wpAny_storeName_local hk hn (fun h' hn' hs=>?_) hcls;obtain⟨oL,_,_,hoL,_⟩:=id hn;refine h _ ⟨I.ok,I.os,I.bare,⟨fun b o e n hb hx=>?_,fun b o e n hb hx=>?_,I.base.free,fun b o e hx=>?_,I.base.tups,I.base.frzs,I.base.tbls⟩,⟨_,hn',fun j y v' e1 e2 e3=>?_⟩,fun y c e=>?_,I.free,I.freeC,fun p hp=>?_,tracked ⟨oL,hoL,I.free⟩ hs,by simpa using I.len⟩ ⟨_,hs,.inl rfl⟩
  ·exact(hs.2 b (Nat.ne_of_lt (Nat.lt_of_lt_of_le (Heap.lt_size e) I.ok.above))).trans (I.base.keep b o e n hb hx)
  ·obtain⟨sl,e1⟩:=I.base.slot b o e n hb hx;exact⟨sl,(hs.2 b (Nat.ne_of_lt (Nat.lt_of_lt_of_le (Heap.lt_size e) I.ok.above))).trans e1⟩
  ·obtain⟨o',e1⟩:=I.base.there b o e hx;exact⟨o',(hs.2 b (Nat.ne_of_lt (Nat.lt_of_lt_of_le (Heap.lt_size e) I.ok.above))).trans e1⟩
  ·by_cases hj:j=i
   ·subst hj;rw[hi] at e1;cases e1;rw[getElem?_set_self hiσ] at e2
    cases e2
    exact⟨u,r,.inl ⟨hk,by simp⟩⟩
   ·rw[getElem?_set_ne (Ne.symm hj)] at e2;obtain⟨u',r',q⟩:=hl j y v' e1 e2 e3;refine⟨u',r',?_⟩;rcases q with ⟨k,e⟩ | ⟨k,c,e,z⟩
    ·refine .inl ⟨k,?_⟩;have:y≠x:=fun e=>hj (vA hN e1 (e ▸ hi));simp[this,e]
    ·exact .inr ⟨k,c,e,z.sameBut hs (cne y c e)⟩
  ·obtain⟨w',z⟩:=I.cell y c e;exact⟨w',z.sameBut hs (cne y c e)⟩
  ·obtain⟨e,n,ne,nf,d⟩:=I.pin p hp;exact⟨(hs.2 p.1 ne).trans e,n,ne,nf,d⟩
 ·have hfn:X.fn x=true:=by
   rcases hf with z | z
   ·exact z
   ·rw[z] at hk;cases hk
  obtain⟨c,hc⟩:=I.ok.has x (.inl hk);obtain⟨w',z⟩:=I.cell x c hc;refine wpAny_storeName_cell I.ok.kind hk hc z (fun h' hc' hs=>?_);obtain⟨oc,hoc,hocd⟩:=id z;refine h { s with heap:=h' } ⟨I.ok,I.os,I.bare,⟨fun b o e n hb hx=>?_,fun b o e n hb hx=>?_,I.base.free,fun b o e hx=>?_,I.base.tups,I.base.frzs,I.base.tbls⟩,⟨m,hn.sameBut hs (Ne.symm (cne x c hc)),fun j y v' e1 e2 e3=>?_⟩,fun y c' e=>?_,I.free,I.freeC,fun p hp=>?_,tracked ⟨oc,hoc,I.freeC x c hc⟩ hs,by simpa using I.len⟩ ⟨c,hs,.inr hc⟩
  ·exact(hs.2 b (Nat.ne_of_lt (Nat.lt_of_lt_of_le (Heap.lt_size e) (I.ok.cab x c hfn hc)))).trans (I.base.keep b o e n hb hx)
  ·obtain⟨sl,e1⟩:=I.base.slot b o e n hb hx;exact⟨sl,(hs.2 b (Nat.ne_of_lt (Nat.lt_of_lt_of_le (Heap.lt_size e) (I.ok.cab x c hfn hc)))).trans e1⟩
  ·obtain⟨o',e1⟩:=I.base.there b o e hx;exact⟨o',(hs.2 b (Nat.ne_of_lt (Nat.lt_of_lt_of_le (Heap.lt_size e) (I.ok.cab x c hfn hc)))).trans e1⟩
  ·by_cases hj:j=i
   ·subst hj;rw[hi] at e1;cases e1;rw[getElem?_set_self hiσ] at e2
    cases e2
    exact⟨u,r,.inr ⟨.inl hk,c,hc,hc'⟩⟩
   ·rw[getElem?_set_ne (Ne.symm hj)] at e2;obtain⟨u',r',q⟩:=hl j y v' e1 e2 e3;refine⟨u',r',?_⟩;rcases q with q | ⟨k,c',e,z'⟩
    ·exact .inl q
    ·refine .inr ⟨k,c',e,z'.sameBut hs ?_⟩;rintro rfl;exact hj (vA hN e1 (I.ok.inj _ _ _ e hc ▸ hi))
  ·by_cases hcc:c'=c
   ·subst hcc;exact⟨_,hc'⟩
   ·obtain⟨w2,z2⟩:=I.cell y c' e;exact⟨w2,z2.sameBut hs hcc⟩
  ·obtain⟨e,n,ne,nf,d⟩:=I.pin p hp;refine⟨(hs.2 p.1 ?_).trans e,n,ne,nf,d⟩;intro q;rw[q,hoc] at e;have q':oc=p.2:=Option.some.inj e;exact d w' (by rw[<- q'];exact hocd)
theorem kQ (I:Inv X pins σ H s)(hN:X.N.Nodup)(hi:X.N[i]?=some x)(hx:Loc X.env.scope x)(r:cC v u)(h:∀s',Inv X pins (σ.set i (some v)) H s'->Q () s')(hf:X.fn x=true\/X.env.scope.names.lookup x=some .local:=by first | exact .inl rfl | exact .inr rfl | assumption):wpAny M A (storeName X.env x u) Q E s:=
 yS I hN hi hx r (fun s' I' _=>h s' I') hf
theorem Inv.call' (I:Inv X pins σ H s)(ho:s'.os=s.os)(u:Un (frs X.stack) ch H H' s.heap s'.heap)(hok:HOk X.prog X.w H' s'.heap)(hg:AllBare s'.gens)(hch:∀b∈ch,(b∈X.ex\/X.s₀.heap.objs.size<=b)/\b≠X.env.locals/\(∀x c,X.env.cells.lookup x=some c->c≠b)/\∀p∈X.pn++pins,p.1≠b):Inv X pins σ H' s':=by
 obtain⟨h',g',d',t',o'⟩:=s';have e:o'=s.os:=ho;subst e;exact I.call (g':=g') (t':=t') (d':=d') u hok hg hch
end
abbrev XK:=Value->Option Addr->Hp->Prop
abbrev St:=List (Option V)
abbrev VK:=V->Hp->Prop
abbrev TE:=St->Hp->VK->Prop
abbrev TT:=St->Hp->(Bool->Hp->Prop)->Prop
abbrev TA:=St->Hp->(List V->Hp->Prop)->Prop
structure kE where
 nx:St->Hp->Prop
 rt:VK
 bk:St->Hp->Prop:=fun _ _=>False
 ct:St->Hp->Prop:=fun _ _=>False
abbrev TS:=kE->St->Hp->Prop
def EP (X:Cx)(pins:List (Addr × Obj))(σ:St)(Q:VK)(u:Value)(s':Shared):Prop:=∃v H',Inv X pins σ H' s'/\cC v u/\Q v H'
def TP (X:Cx)(pins:List (Addr × Obj))(σ:St)(Q:Bool->Hp->Prop)(b:Bool)(s':Shared):Prop:=∃H',Inv X pins σ H' s'/\Q b H'
def AP (X:Cx)(pins:List (Addr × Obj))(σ:St)(Q:List V->Hp->Prop)(us:List Value)(s':Shared):Prop:=∃vs H',Inv X pins σ H' s'/\bV vs us/\Q vs H'
def SP (X:Cx)(pins:List (Addr × Obj))(D:kE)(f:Flow)(s':Shared):Prop:=
 match f with
 | .next=>∃σ' H',Inv X pins σ' H' s'/\D.nx σ' H'
 | .brk=>∃σ' H',Inv X pins σ' H' s'/\D.bk σ' H'
 | .cont=>∃σ' H',Inv X pins σ' H' s'/\D.ct σ' H'
 | .ret u=>∃v σ' H',Inv X pins σ' H' s'/\cC v u/\D.rt v H'
def PE (X:Cx)(e:Expr)(t:TE):Prop:=
 ∀(pins:List (Addr × Obj)) (s:Shared) (σ:St) (H:Hp) (Q:VK),Inv X pins σ H s->t σ H Q->wpAny (model X.prog X.w) X.A (eval e X.env) (EP X pins σ Q) X.xe s
def PT (X:Cx)(e:Expr)(t:TT):Prop:=
 ∀(pins:List (Addr × Obj)) (s:Shared) (σ:St) (H:Hp) (Q:Bool->Hp->Prop),Inv X pins σ H s->t σ H Q->wpAny (model X.prog X.w) X.A (isTrue e X.env (eval e X.env)) (TP X pins σ Q) X.xe s
def PW (X:Cx)(e:Expr)(t:TT):Prop:=
 ∀(whole:Sem Value) (pins:List (Addr × Obj)) (s:Shared) (σ:St) (H:Hp) (Q:Bool->Hp->Prop),Inv X pins σ H s->t σ H Q->wpAny (model X.prog X.w) X.A (isTrue e X.env whole) (TP X pins σ Q) X.xe s
theorem PW.pt (h:PW X e t):PT X e t:=h _
def PA (X:Cx)(es:List Expr)(t:TA):Prop:=
 ∀(pos:Pos) (pins:List (Addr × Obj)) (s:Shared) (σ:St) (H:Hp) (Q:List V->Hp->Prop),Inv X pins σ H s->t σ H Q->wpAny (model X.prog X.w) X.A (spliced (backTo pos (starEach es X.env))) (AP X pins σ Q) X.xe s
def PS (X:Cx)(st:Stmt)(t:TS):Prop:=
 ∀(pins:List (Addr × Obj)) (s:Shared) (σ:St) (H:Hp) (D:kE),Inv X pins σ H s->t D σ H->wpAny (model X.prog X.w) X.A (exec st X.env) (SP X pins D) X.xe s
def PSs (X:Cx)(st:List Stmt)(t:TS):Prop:=
 ∀(pins:List (Addr × Obj)) (s:Shared) (σ:St) (H:Hp) (D:kE),Inv X pins σ H s->t D σ H->wpAny (model X.prog X.w) X.A (execs st X.env) (SP X pins D) X.xe s
theorem thn (h:wpAny M A t Q E s)(hQ:∀a s,Q a s->Q' a s):wpAny M A t Q' E s:=wpAny_mono h hQ fun _ _ x=>x
section
variable {X:Cx}
inductive Nz (i:Nat) (σ:St) (H:Hp) (Q:VK):Prop where
 |mk (v):σ[i]?=some (some v)->Q v H->Nz i σ H Q
def tC (v:V):TE:=fun _ H Q=>Q v H
theorem Qh (hN:X.N[i]?=some x)(hv:Vis X.env.scope x)(hd:(x == ("__debug__":Str))=false:=by decide)(hcd:(x == ("__classdict__":Str))=false:=by decide):PE X (.Name x pos) (Nz i):=by
 intro pins s σ H Q I h;obtain⟨v,e,h⟩:=h;obtain⟨m,hn,hl⟩:=I.loc;obtain⟨u,r,l⟩:=hl i x v hN e hv;have fin:EP X pins σ Q u s:=⟨v,H,I,r,h⟩
 rcases l with ⟨hk,hm⟩ | ⟨hk,c,hc,hcell⟩
 ·exact wpAny_Name (wpAny_loadName_local I.ok.kind hk hn hm fin) hd
 ·rcases hk with hk | hk
  ·exact wpAny_Name (wpAny_loadName_cell I.ok.kind hk hc hcell fin) hd
  ·exact wpAny_Name (wpAny_loadName_free I.ok.kind hk hc hcell fin hcd) hd
theorem aG {i j pos}:PE X (.Constant (.int i) j pos) (tC (.int i)):=fun _ _ _ H _ I h=>wpAny_Constant_int ⟨.int i,H,I.tok _,⟨_,rfl⟩,h⟩
theorem lW {b j pos}:PE X (.Constant (.bool b) j pos) (tC (.bl b)):=fun _ _ _ H _ I h=>Constant_bool ⟨.bl b,H,I,rfl,h⟩
theorem zN {j pos}:PE X (.Constant .none j pos) (tC .non):=fun _ _ _ H _ I h=>Constant_none ⟨.non,H,I,rfl,h⟩
theorem bK {x j pos}:PE X (.Constant (.str x) j pos) (tC (.str x)):=fun _ _ _ H _ I h=>Calls.Constant_str ⟨.str x,H,I.tok _,⟨_,rfl⟩,h⟩
def Gl (X:Cx)(x:Str):Prop:=X.env.kindOf x=some .globalImplicit
theorem iG (I:Inv X pins σ H s)(hg:Gl X x)(hm:X.mg x=some u)(h:Q u s)(hd:(x == ("__debug__":Str))=false:=by decide):wpAny (model X.prog X.w) X.A (eval (.Name x pos) X.env) Q E s:=
 Calls.Name_function_global I.ok.kind hg (Calls.loadGlobal_global (by rw[I.ok.glob];exact I.mod.glob.keeps I.bk) hm h) hd
theorem jW (I:Inv X pins σ H s)(hg:Gl X x)(hm:X.mg x=none)(hv:bootBuiltins x=some u)(h:Q u s)(hn:x≠"__name__":=by decide)(hd:(x == ("__debug__":Str))=false:=by decide):wpAny (model X.prog X.w) X.A (eval (.Name x pos) X.env) Q E s:=by
 obtain⟨mb,h1,h2⟩:=I.mod.blt;exact Calls.Name_function_global I.ok.kind hg (Calls.loadGlobal_builtin (by rw[I.ok.glob];exact I.mod.glob.keeps I.bk) hm (by rw[I.ok.blt];exact h1.keeps I.bk) ((h2 x hn).trans hv) h) hd
theorem dA (hg:Gl X x)(hm:X.mg x=some u)(r:cC v u)(hd:(x == ("__debug__":Str))=false:=by decide):PE X (.Name x pos) (tC v):=
 fun _ _ _ H _ I h=>iG I hg hm ⟨v,H,I,r,h⟩ hd
theorem Ii (hg:Gl X x)(hm:X.mg x=none)(hv:bootBuiltins x=some u)(r:cC v u)(hn:x≠"__name__":=by decide)(hd:(x == ("__debug__":Str))=false:=by decide):PE X (.Name x pos) (tC v):=
 fun _ _ _ H _ I h=>jW I hg hm hv ⟨v,H,I,r,h⟩ hn hd
variable {a b:Expr} {ta tb:TE} {pos:Pos}
def PC (X:Cx)(op:CmpOp)(a b:Expr)(t:TE):Prop:=
 ∀(pins:List (Addr × Obj)) (s:Shared) (σ:St) (H:Hp) (Q:VK),Inv X pins σ H s->t σ H Q->
  wpAny (model X.prog X.w) X.A (eval a X.env) (fun v s₁=>wpAny (model X.prog X.w) X.A (eval b X.env) (fun u s₂=>wpAny (model X.prog X.w) X.A (compareOp op v u) (EP X pins σ Q) X.xe s₂) X.xe s₁) X.xe s
theorem Cq (b:Expr)(h:op≠.In)(h2:op≠.NotIn):behindInMarks op b=false:=by
 have e1:(op == CmpOp.In)=false:=by cases op<;>first | rfl | exact absurd rfl h
 have e2:(op == CmpOp.NotIn)=false:=by cases op<;>first | rfl | exact absurd rfl h2
 cases b<;>simp[behindInMarks,e1,e2]
def qn4 (ta:TE):TE:=fun σ H Q=>ta σ H fun x H1=>Q (.bl (decide (x=.non))) H1
def ql4 (ta:TE):TE:=fun σ H Q=>ta σ H fun x H1=>Q (.bl (!decide (x=.non))) H1
theorem cC.none_iff (r:cC x v):(v == Value.none)=decide (x=.non):=by
 cases x with
 |non=>cases r;rfl
 |bl _=>cases r;rfl
 |int _=>obtain⟨t,rfl⟩:=r;rfl
 |str _=>obtain⟨t,rfl⟩:=r;rfl
 |byt _=>obtain⟨t,rfl⟩:=r;rfl
 |flt _=>obtain⟨t,rfl⟩:=r;rfl
 |ref _=>cases r;rfl
 |ty _=>cases r;rfl
theorem vW {j pos'}(ha:PE X a ta):PC X .Is a (.Constant .none j pos') (qn4 ta):=by
 intro pins s σ H Q I h;refine thn (ha pins s σ H _ I h) fun v s1 ⟨x,H1,I1,r1,q1⟩=>?_;exact Constant_none (is_none_gen ⟨.bl _,H1,I1,by rw[r1.none_iff];rfl,q1⟩)
theorem Jl {j pos'}(ha:PE X a ta):PC X .IsNot a (.Constant .none j pos') (ql4 ta):=by
 intro pins s σ H Q I h;refine thn (ha pins s σ H _ I h) fun v s1 ⟨x,H1,I1,r1,q1⟩=>?_;exact Constant_none (isnot_none_gen ⟨.bl _,H1,I1,by rw[r1.none_iff];rfl,q1⟩)
inductive BlT (x:V) (q:Bool->Prop):Prop where
 |mk (c:Bool) (_:x=.bl c) (_:q c):BlT x q
def tB (t:TE):TT:=fun σ H Q=>t σ H fun x H1=>BlT x fun c=>Q c H1
theorem Nq (h:PC X op a b t)(h1:behindInMarks op b=false:=by first | exact Cq _ (by decide) (by decide) | rfl):PE X (.Compare a [op] [b] pos) t:=fun pins s σ H Q I hw=>wpAny_Compare1 (h pins s σ H Q I hw) h1
theorem qK (h:PC X op a b t)(h1:behindInMarks op b=false:=by first | exact Cq _ (by decide) (by decide) | rfl):PT X (.Compare a [op] [b] pos) (tB t):=by
 intro pins s σ H Q I hw;refine wpAny_isTrue_Compare1 (thn (h pins s σ H _ I hw) fun v s1 h1=>thn h1 fun u s2 h2=>thn h2 fun c s3 ⟨x,H1,I1,r1,q1⟩=>?_) h1;obtain⟨d,rfl,q⟩:=q1
 cases r1
 exact wpAny_truthy_bool ⟨H1,I1,q⟩
theorem fB (h:PE X e t)(he:∀whole,isTrue e X.env whole=(do let v <- whole;standAt e.pos;holding [v] (truthy v)):=by intro _;rfl):PT X e (tB t):=by
 intro pins s σ H Q I hw;refine isTrue_plain (thn (h pins s σ H _ I hw) fun v s1 ⟨x,H1,I1,r1,q1⟩=>?_) (he _);obtain⟨d,rfl,q⟩:=q1
 cases r1
 exact wpAny_truthy_bool ⟨H1,I1,q⟩
variable {tA tB':TT} {rest:List Expr}
def qo0 (t u:TT):TT:=fun σ H Q=>t σ H fun c H1=>if c=true then u σ H1 Q else Q false H1
def tOr (t u:TT):TT:=fun σ H Q=>t σ H fun c H1=>if c=true then Q true H1 else u σ H1 Q
def qn0 (t:TT):TT:=fun σ H Q=>t σ H fun c H1=>Q (!c) H1
theorem lK (ha:PT X a tA):PW X (.BoolOp .And [a] pos) tA:=by
 intro wh pins s σ H Q I h;refine isTrue_and (thn (ha pins s σ H Q I h) fun c s1 e=>?_)
 cases c with
 |true=>exact isTrue_and_nil e
 |false=>exact e
theorem zU (ha:PT X a tA):PW X (.BoolOp .Or [a] pos) tA:=by
 intro wh pins s σ H Q I h;refine isTrue_or (thn (ha pins s σ H Q I h) fun c s1 e=>?_)
 cases c with
 |false=>exact isTrue_or_nil e
 |true=>exact e
theorem pC (ha:PT X a tA)(hb:PW X (.BoolOp .And (b :: rest) pos) tB'):PW X (.BoolOp .And (a :: b :: rest) pos) (qo0 tA tB'):=by
 intro wh pins s σ H Q I h;refine isTrue_and (thn (ha pins s σ H _ I h) fun c s1 ⟨H1,I1,q1⟩=>?_)
 cases c with
 |true=>exact hb wh pins s1 σ H1 Q I1 q1
 |false=>exact⟨H1,I1,q1⟩
theorem yB (ha:PT X a tA)(hb:PW X (.BoolOp .Or (b :: rest) pos) tB'):PW X (.BoolOp .Or (a :: b :: rest) pos) (tOr tA tB'):=by
 intro wh pins s σ H Q I h;refine isTrue_or (thn (ha pins s σ H _ I h) fun c s1 ⟨H1,I1,q1⟩=>?_)
 cases c with
 |true=>exact⟨H1,I1,q1⟩
 |false=>exact hb wh pins s1 σ H1 Q I1 q1
theorem gX (ha:PT X a tA):PT X (.UnaryOp .Not a pos) (qn0 tA):=by
 intro pins s σ H Q I h;exact isTrue_not (ha pins s σ H (fun c H1=>Q (!c) H1) I h)
def qi9 (ta tb:TE):TE:=fun σ H Q=>ta σ H fun x H1=>BlT x fun c=>if c=true then tb σ H1 Q else Q (.bl false) H1
def qo2 (ta tb:TE):TE:=fun σ H Q=>ta σ H fun x H1=>BlT x fun c=>if c=true then Q (.bl true) H1 else tb σ H1 Q
def qg5 (ta:TE):TE:=fun σ H Q=>ta σ H fun x H1=>BlT x fun c=>Q (.bl (!c)) H1
theorem nV {op}(h:PE X a t):PE X (.BoolOp op [a] pos) t:=fun pins s σ H Q I hw=>BoolOp_one (h pins s σ H Q I hw)
theorem jX (ha:PE X a ta)(hb:PE X (.BoolOp .And (b :: rest) pos) tb):PE X (.BoolOp .And (a :: b :: rest) pos) (qi9 ta tb):=by
 intro pins s σ H Q I h;refine BoolOp_and (thn (ha pins s σ H _ I h) fun v s1 ⟨x,H1,I1,r1,q1⟩=>?_);obtain⟨c,rfl,q1⟩:=q1
 cases r1
 refine wpAny_truthy_bool ?_
 cases c with
 |true=>exact hb pins s1 σ H1 Q I1 q1
 |false=>exact⟨.bl false,H1,I1,rfl,q1⟩
theorem qh2 (ha:PE X a ta)(hb:PE X (.BoolOp .Or (b :: rest) pos) tb):PE X (.BoolOp .Or (a :: b :: rest) pos) (qo2 ta tb):=by
 intro pins s σ H Q I h;refine BoolOp_or (thn (ha pins s σ H _ I h) fun v s1 ⟨x,H1,I1,r1,q1⟩=>?_);obtain⟨c,rfl,q1⟩:=q1
 cases r1
 refine wpAny_truthy_bool ?_
 cases c with
 |false=>exact hb pins s1 σ H1 Q I1 q1
 |true=>exact⟨.bl true,H1,I1,rfl,q1⟩
theorem Zl (ha:PE X a ta):PE X (.UnaryOp .Not a pos) (qg5 ta):=by
 intro pins s σ H Q I h;refine UnaryOp_ (thn (ha pins s σ H _ I h) fun v s1 ⟨x,H1,I1,r1,q1⟩=>?_);obtain⟨c,rfl,q1⟩:=q1
 cases r1
 exact not_of (wpAny_truthy_bool ⟨.bl (!c),H1,I1,rfl,q1⟩)
def tIf (t:TT)(ta tb:TE):TE:=fun σ H Q=>t σ H fun c H1=>if c=true then ta σ H1 Q else tb σ H1 Q
theorem pS (hc:PT X c tA)(ha:PE X a ta)(hb:PE X b tb):PE X (.IfExp c a b pos) (tIf tA ta tb):=by
 intro pins s σ H Q I h;refine wpAny_IfExp (thn (hc pins s σ H _ I h) fun d s1 ⟨H1,I1,q1⟩=>?_)
 cases d with
 |true=>exact ha pins s1 σ H1 Q I1 q1
 |false=>exact hb pins s1 σ H1 Q I1 q1
end
def SqL (K:Frag)(H:Hp)(a:Addr)(xs:List V):Prop:=
 Rd H a (.lst xs)\/
  ∃(o:Obj) (its:Array Value) (n:Nat),K.lookup a=some o/\o.cls=.type "list"/\o.dict=none/\o.data=.seq its n/\its.size<=sizeLine/\bV xs its.toList
def SqT (K:Frag)(H:Hp)(a:Addr)(xs:List V):Prop:=
 Rd H a (.tup xs)\/
  ∃(o:Obj) (its:Array Value) (n:Nat),K.lookup a=some o/\o.cls=.type "tuple"/\o.data=.seq its n/\its.size<=sizeLine/\bV xs its.toList
def qp1:Value->Option V
 | .none=>some .non
 | .bool b=>some (.bl b)
 | .int i _=>some (.int i)
 | .str x _=>some (.str x)
 | .bytes b _=>some (.byt b)
 | .float b _=>some (.flt b)
 | .ref a=>some (.ref a)
 | .type n=>some (.ty n)
 |_=>none
theorem cC.abs (r:cC x u):qp1 u=some x:=by
 cases x with
 |non=>cases r;rfl
 |bl _=>cases r;rfl
 |int _=>obtain⟨t,rfl⟩:=r;rfl
 |str _=>obtain⟨t,rfl⟩:=r;rfl
 |byt _=>obtain⟨t,rfl⟩:=r;rfl
 |flt _=>obtain⟨t,rfl⟩:=r;rfl
 |ref _=>cases r;rfl
 |ty _=>cases r;rfl
theorem cC.inj (r:cC x u)(q:cC y u):x=y:=Option.some.inj (r.abs.symm.trans q.abs)
theorem bV.inj:∀{xs ys:List V} {us:List Value},bV xs us->bV ys us->xs=ys
 |_,_,_,.nil,.nil=>rfl
 |_,_,_,.cons r t,.cons r' t'=>by rw[r.inj r',bV.inj t t']
section
variable {X:Cx} {pins:List (Addr × Obj)} {σ:St} {H:Hp} {s:Shared} {a:Addr} {xs ys:List V}
theorem SqL.of {K:Frag}(h:H a=some (.lst xs)):SqL K H a xs:=.inl (.inl h)
theorem SqT.of {K:Frag}(h:H a=some (.tup xs)):SqT K H a xs:=.inl (.inl h)
theorem Inv.list (I:Inv X pins σ H s)(h:SqL X.K H a xs):∃its:List Value,bV xs its/\PlainL s.heap a its.toArray/\xs.length<=sizeLine:=by
 rcases h with h | ⟨o,its,n,hk,hc,hd,hs,hz,r⟩
 ·obtain⟨z,its,n,r,e⟩:=h.ok I.hok;exact⟨its,r,⟨_,n,e,rfl,rfl,rfl⟩,z⟩
 ·refine⟨its.toList,r,⟨o,n,I.kIn a o hk,hc,hd,by simpa using hs⟩,?_⟩;have e:=r.length;simp only[Array.length_toList] at e;lia
theorem Inv.tuple (I:Inv X pins σ H s)(h:SqT X.K H a xs):∃its:List Value,bV xs its/\IsTup s.heap a its.toArray/\xs.length<=sizeLine:=by
 rcases h with h | ⟨o,its,n,hk,hc,hs,hz,r⟩
 ·obtain⟨z,its,r,p⟩:=h.ok I.hok;exact⟨its,r,p,z⟩
 ·refine⟨its.toList,r,⟨o,I.kIn a o hk,hc,n,by simpa using hs⟩,?_⟩;have e:=r.length;simp only[Array.length_toList] at e;lia
theorem Inv.list_inj (I:Inv X pins σ H s)(h:SqL X.K H a xs)(h':SqL X.K H a ys):xs=ys:=by
 obtain⟨its,r,⟨o,n,e,_,_,d⟩,_⟩:=I.list h;obtain⟨its',r',⟨o',n',e',_,_,d'⟩,_⟩:=I.list h';rw[e] at e';cases e';rw[d] at d';injection d' with d1 _
 have:its=its':=by simpa using congrArg Array.toList d1
 subst this;exact r.inj r'
end
abbrev Cx.wish (X:Cx)(E:Value->Shared->Prop):Cx:={ X with xe:=E }
abbrev Cx.nox (X:Cx):Cx:=X.wish fun _ _=>False
theorem Cx.Ok.wish {X:Cx}(ok:X.Ok)(E:Value->Shared->Prop):(X.wish E).Ok:=
 ⟨ok.mod,ok.kind,ok.glob,ok.blt,ok.above,ok.inj,ok.has,ok.cab,ok.hd,ok.frames,ok.stk,ok.exf,ok.bs,ok.bsz,ok.noex,ok.exfs,ok.funs,ok.frf⟩
theorem Cx.Ok.unwish {X:Cx}(ok:(X.wish E).Ok):X.Ok:=
 ⟨ok.mod,ok.kind,ok.glob,ok.blt,ok.above,ok.inj,ok.has,ok.cab,ok.hd,ok.frames,ok.stk,ok.exf,ok.bs,ok.bsz,ok.noex,ok.exfs,ok.funs,ok.frf⟩
section
variable {X:Cx} {pins:List (Addr × Obj)} {σ:St} {H:Hp} {s:Shared} {E:Value->Shared->Prop}
theorem Inv.wish (I:Inv X pins σ H s)(E:Value->Shared->Prop):Inv (X.wish E) pins σ H s:=⟨I.ok.wish E,I.os,I.bare,I.base,I.loc,I.cell,I.free,I.freeC,I.pin,I.hok,I.len⟩
theorem Inv.unwish (I:Inv (X.wish E) pins σ H s):Inv X pins σ H s:=⟨I.ok.unwish,I.os,I.bare,I.base,I.loc,I.cell,I.free,I.freeC,I.pin,I.hok,I.len⟩
theorem SP.unwish (h:SP (X.wish E) pins D f s'):SP X pins D f s':=by
 cases f with
 |next=>obtain⟨σ',H',I,q⟩:=h;exact⟨σ',H',I.unwish,q⟩
 |brk=>obtain⟨σ',H',I,q⟩:=h;exact⟨σ',H',I.unwish,q⟩
 |cont=>obtain⟨σ',H',I,q⟩:=h;exact⟨σ',H',I.unwish,q⟩
 |ret u=>obtain⟨v,σ',H',I,r,q⟩:=h;exact⟨v,σ',H',I.unwish,r,q⟩
theorem PSs.nox {st:List Stmt}(h:PSs X.nox st t):PSs X st t:=fun pins s σ H D I hw=>
 wpAny_mono (h pins s σ H D (I.wish _) hw) (fun _ _ q=>q.unwish) fun _ _ z=>False.elim z
end
section
variable {X:Cx} {st:Stmt} {rest:List Stmt} {t u:TS} {e:Expr} {te:TE} {pos:Pos}
def ql5:TS:=fun D σ H=>D.nx σ H
def jU (t u:TS):TS:=fun D σ H=>t { D with nx:=u D } σ H
theorem bO:PSs X [] ql5:=fun _ _ σ H _ I h=>wpAny_execs_nil ⟨σ,H,I,h⟩
theorem aD (h1:PS X st t)(h2:PSs X rest u):PSs X (st :: rest) (jU t u):=by
 intro pins s σ H D I h;refine wpAny_execs_cons (thn (h1 pins s σ H { D with nx:=u D } I h) fun f s1 q=>?_)
 cases f with
 |next=>
  obtain⟨σ',H',I',q⟩:=q;exact h2 pins s1 σ' H' D I' q
 |ret v=>exact q
 |brk=>exact q
 |cont=>exact q
theorem aF (h1:PS X st t):PSs X [st] t:=by
 intro pins s σ H D I h;refine wpAny_execs_cons (thn (h1 pins s σ H D I h) fun f s1 q=>?_)
 cases f with
 |next=>exact wpAny_execs_nil q
 |ret v=>exact q
 |brk=>exact q
 |cont=>exact q
def qh5:TS:=fun D σ H=>D.ct σ H
theorem rT:PS X (.Continue pos) qh5:=fun _ _ σ H _ I h=>wpAny_Continue ⟨σ,H,I,h⟩
theorem Inv.quiet (I:Inv X pins σ H s):interactive X.env=false:=by simp[interactive,I.ok.kind]
def qk4 (te:TE):TS:=fun D σ H=>te σ H fun _ H1=>D.nx σ H1
theorem bX (he:PE X e te)(hs:swapsWith e none pos.line X.env=pure false:=by rfl):PS X (.Expr e pos) (qk4 te):=by
 intro pins s σ H D I h;exact wpAny_Expr_any (thn (he pins s σ H _ I h) fun v s1 ⟨x,H1,I1,r1,q1⟩=>⟨σ,H1,I1,q1⟩) I.quiet hs
def qo6 (te:TE):TS:=fun D σ H=>te σ H D.rt
theorem aW (he:PE X e te):PS X (.Return (some e) pos) (qo6 te):=by
 intro pins s σ H D I h;exact wpAny_Return_some (thn (he pins s σ H _ I h) fun v s1 ⟨x,H1,I1,r1,q1⟩=>⟨x,σ,H1,I1,r1,q1⟩)
def qm5 (c:TT)(t u:TS):TS:=fun D σ H=>c σ H fun b H1=>if b=true then t D σ H1 else u D σ H1
theorem cJ (hc:PT X c tc)(ha:PSs X a t)(hb:PSs X b u):PS X (.If c a b pos) (qm5 tc t u):=by
 intro pins s σ H D I h;refine wpAny_If (thn (hc pins s σ H _ I h) fun d s1 ⟨H1,I1,q1⟩=>?_)
 cases d with
 |true=>exact ha pins s1 σ H1 D I1 q1
 |false=>exact hb pins s1 σ H1 D I1 q1
def Sf:TS:=fun _ _ _=>False
theorem jG:PS X st Sf:=fun _ _ _ _ _ _ h=>h.elim
theorem Mj:PSs X sts Sf:=fun _ _ _ _ _ _ h=>h.elim
end
abbrev TG:=V->St->Hp->(St->Hp->Prop)->Prop
abbrev TGs:=List V->St->Hp->(St->Hp->Prop)->Prop
def PG (X:Cx)(target:Expr)(t:TG):Prop:=
 ∀(pins:List (Addr × Obj)) (s:Shared) (σ:St) (H:Hp) (v:V) (u:Value) (Q:St->Hp->Prop),Inv X pins σ H s->cC v u->t v σ H Q->
  wpAny (model X.prog X.w) X.A (assign target X.env u) (fun _ s'=>∃σ' H',Inv X pins σ' H' s'/\Q σ' H') X.xe s
def PGs (X:Cx)(ts:List Expr)(t:TGs):Prop:=
 ∀(pins:List (Addr × Obj)) (s:Shared) (σ:St) (H:Hp) (vs:List V) (us:List Value) (Q:St->Hp->Prop),Inv X pins σ H s->bV vs us->t vs σ H Q->
  wpAny (model X.prog X.w) X.A (assignInOrder ((assignEach ts X.env).map (·.2)) us) (fun _ s'=>∃σ' H',Inv X pins σ' H' s'/\Q σ' H') X.xe s
abbrev qa8:=V->V->V->Hp->(Hp->Prop)->Prop
def qk6 (X:Cx)(t:qa8):Prop:=
 ∀(pins:List (Addr × Obj)) (s:Shared) (σ:St) (H:Hp) (o i v:V) (ov iv u:Value) (Q:Hp->Prop),Inv X pins σ H s->cC o ov->cC i iv->cC v u->t o i v H Q->
  wpAny (model X.prog X.w) X.A (setItem ov iv u) (fun _ s'=>∃H',Inv X pins σ H' s'/\Q H') X.xe s
abbrev TIp:=V->V->Hp->VK->Prop
def PIp (X:Cx)(op:Operator)(t:TIp):Prop:=
 ∀(pins:List (Addr × Obj)) (s:Shared) (σ:St) (H:Hp) (x y:V) (v u:Value) (Q:VK),Inv X pins σ H s->cC x v->cC y u->t x y H Q->
  wpAny (model X.prog X.w) X.A (inplaceOp op v u) (EP X pins σ Q) X.xe s
section
variable {X:Cx} {pos:Pos}
def hV (i:Nat):TG:=fun v σ H Q=>Q (σ.set i (some v)) H
theorem aZ (hN:X.N.Nodup)(hi:X.N[i]?=some x)(hx:Loc X.env.scope x)(hf:X.fn x=true\/X.env.scope.names.lookup x=some .local:=by first | exact .inl rfl | exact .inr rfl | assumption):PG X (.Name x pos) (hV i):=by
 intro pins s σ H v u Q I r h;exact wpAny_assign_Name (kQ I hN hi hx r (fun s' I'=>⟨_,H,I',h⟩) hf)
def zS:TGs:=fun vs σ H Q=>vs=[]/\Q σ H
def iM (t:TG)(u:TGs):TGs:=fun vs σ H Q=>∃v r,vs=v :: r/\t v σ H fun σ' H'=>u r σ' H' Q
theorem gR:PGs X [] zS:=by
 intro pins s σ H vs us Q I r h;obtain⟨e,h⟩:=h;subst e
 cases r
 exact assignInOrder_nil ⟨σ,H,I,h⟩
theorem cE (h1:PG X e t)(h2:PGs X es u)(hs:(assignEach (e :: es) X.env).map (·.2)=assign e X.env :: (assignEach es X.env).map (·.2):=by rfl):PGs X (e :: es) (iM t u):=by
 intro pins s σ H vs us Q I r h;obtain⟨v,vr,e1,h⟩:=h;subst e1
 cases r with
 |cons r rr=>
  rw[hs];refine assignInOrder_cons (thn (h1 pins s σ H _ _ _ I r h) fun _ s1 ⟨σ1,H1,I1,q1⟩=>?_);exact h2 pins s1 σ1 H1 _ _ Q I1 rr q1
def Ac (K:Frag)(n:Nat)(t:TGs):TG:=fun v σ H Q=>∃a xs,v=.ref a/\SqT K H a xs/\xs.length=n/\t xs σ H Q
theorem jD (hc:X.calm=true)(h:PGs X es t)(hn:(assignEach es X.env).length=n:=by rfl)(hst:(assignEach es X.env).findIdx? (·.1)=none:=by rfl):PG X (.Tuple es k pos) (Ac X.K n t):=by
 intro pins s σ H v u Q I r hw;obtain⟨a,xs,e1,hq,hl,hw⟩:=hw;subst e1
 cases r
 obtain⟨its,rv,ht,hz⟩:=I.tuple hq;refine assign_Tuple_tuple (I.ok.hd hc) ht (by simp[hn,<- hl,rv.length]) hst fun h' hx=>?_;have I1:Inv X pins σ H { s with heap:=h' }:=I.kept (t':=s.toks) fun b o e=>hx b o (Nat.ne_of_lt (Heap.lt_size e)) e;exact h pins _ σ H xs _ Q I1 (by simpa using rv) hw
def qm4 (to ti:TE)(t:qa8):TG:=fun v σ H Q=>to σ H fun o H1=>ti σ H1 fun i H2=>t o i v H2 fun H3=>Q σ H3
theorem pB (ho:PE X o to)(hi:PE X i ti)(hs:qk6 X t)(ha:∀v,assign (.Subscript o i pos) X.env v=(do
   let ov <- holding [v] (eval o X.env)
   let iv <- holding [v,ov] (eval i X.env)
   standAt pos
   holding [v,ov,iv] (setItem ov iv v)
   release [v,ov,iv] []):=by intro _;rfl):PG X (.Subscript o i pos) (qm4 to ti t):=by
 intro pins s σ H v u Q I r h;rw[ha];refine wpAny_bind (wpAny_holding (thn (ho pins s σ H _ I h) fun ov s1 ⟨x,H1,I1,r1,q1⟩=>?_));refine wpAny_bind (wpAny_holding (thn (hi pins s1 σ H1 _ I1 q1) fun iv s2 ⟨y,H2,I2,r2,q2⟩=>?_));refine wpAny_bind (wpAny_standAt (wpAny_bind (wpAny_holding (thn (hs pins s2 σ H2 x y v ov iv u _ I2 r1 r2 r q2) fun _ s3 ⟨H3,I3,q3⟩=>?_))));exact wpAny_release ⟨σ,H3,I3,q3⟩
def Yf (te:TE)(g:TG):TS:=fun D σ H=>te σ H fun x H1=>g x σ H1 D.nx
theorem mD (he:PE X e te)(hg:PG X tg g)(hs:swapsWithSole [tg] e pos.line X.env=pure false:=by rfl)(hw:swappedStores [tg] e X.env=pure none:=by rfl)(h1:(assignEach [tg] X.env).map (·.2)=[assign tg X.env]:=by rfl):PS X (.Assign [tg] e pos) (Yf te g):=by
 intro pins s σ H D I h;refine wpAny_Assign_stores (thn (he pins s σ H _ I h) fun v s1 ⟨x,H1,I1,r1,q1⟩=>?_) hs hw;rw[h1];exact thn (hg pins s1 σ H1 x v _ I1 r1 q1) fun _ s2 q=>q
theorem aR (hN:X.N.Nodup)(hi:X.N[i]?=some x)(hx:Loc X.env.scope x)(he:PE X e te)(hs:swapsWith e (some (.Name x pos')) pos.line X.env=pure false:=by rfl)(hf:X.fn x=true\/X.env.scope.names.lookup x=some .local:=by first | exact .inl rfl | exact .inr rfl | assumption):
  PS X (.Assign [.Name x pos'] e pos) (Yf te (hV i)):=by
 intro pins s σ H D I h;refine wpAny_Assign_Name (thn (he pins s σ H _ I h) fun v s1 ⟨y,H1,I1,r1,q1⟩=>?_) hs;exact kQ I1 hN hi hx r1 (fun s2 I2=>⟨_,H1,I2,q1⟩) hf
inductive Wy (i j:Nat) (D:kE) (σ:St) (vs:List V) (H1:Hp):Prop where
 |mk (v w):vs=[v,w]->D.nx ((σ.set i (some v)).set j (some w)) H1->Wy i j D σ vs H1
def qm9 (i j:Nat)(ta:TA):TS:=fun D σ H=>ta σ H fun vs H1=>Wy i j D σ vs H1
theorem Ss {kt k2 pt2}(hc:X.calm=true)(hN:X.N.Nodup)(hi:X.N[i]?=some x)(hj:X.N[j]?=some y)(hij:i≠j)(hx:X.env.scope.names.lookup x=some .local)(hy:X.env.scope.names.lookup y=some .local)(ha:PA X [a,b] ta)(hw:swappedStores [.Tuple [.Name x px,.Name y py] kt pt] (.Tuple [a,b] k2 pt2) X.env=pure (some [x,y]))(hs:swapsWithSole [.Tuple [.Name x px,.Name y py] kt pt] (.Tuple [a,b] k2 pt2) pos.line X.env=pure false:=by rfl):
  PS X (.Assign [.Tuple [.Name x px,.Name y py] kt pt] (.Tuple [a,b] k2 pt2) pos) (qm9 i j ta):=by
 intro pins s σ H D I h;rw[exec_Assign_arm];refine wpAny_bind (wpAny_standAt ?_);rw[hs];refine wpAny_bind (wpAny_pure ?_);rw[if_neg (by decide)];refine wpAny_bind (Tuple_ (thn (ha _ pins s σ H _ I h) fun us s1 ⟨vs,H1,I1,r1,q1⟩=>?_));obtain⟨v,w,e1,q1⟩:=q1;subst e1;obtain⟨u1,u2,rfl,rv,rw'⟩:∃u1 u2,us=[u1,u2]/\cC v u1/\cC w u2:=by
  cases r1 with
  |cons p q=>
   cases q with
   |cons p' q'=>
    cases q'
    exact⟨_,_,rfl,p,p'⟩
 refine wpAny_newObj_type ?_ (by show 2<=sizeLine;decide);have I2:Inv X pins σ H1 { s1 with heap:=s1.heap.push { cls:=.type "tuple",data:=.seq [u1,u2].toArray } }:=I1.kept (t':=s1.toks) fun b o e=>Heap.get?_push_of_some _ e;rw[hw];refine wpAny_bind (wpAny_pure ?_);show wpAny (model X.prog X.w) X.A (do rule "assign.swapped-stores";let items <- unpackItems (.ref s1.heap.objs.size) 2 none;assignInOrder [fun v=>bindName X.env y v,fun v=>bindName X.env x v] items.reverse;pure Flow.next) _ _ _;refine wpAny_bind (wpAny_rule (wpAny_bind (unpackItems_tuple (items:=#[u1,u2]) (I.ok.hd hc) (IsTup.new s1.heap _) fun h' hx'=>?_)));have I3:=I2.kept (h':=h') (t':=s1.toks) fun b o e=>hx' b o (Nat.ne_of_lt (Heap.lt_size e)) e;show wpAny _ _ (assignInOrder [fun v=>bindName X.env y v,fun v=>bindName X.env x v] [u2,u1] >>= fun _=>pure Flow.next) _ _ _;refine wpAny_bind (assignInOrder_cons (wpAny_bindName (kQ I3 hN hj (.inl hy) rw' (fun s2 I4=>?_) (.inr hy))));refine assignInOrder_cons (wpAny_bindName (kQ I4 hN hi (.inl hx) rv (fun s3 I5=>assignInOrder_nil (wpAny_pure ?_)) (.inr hx)));rw[set_comm _ _ (Ne.symm hij)] at I5;exact⟨_,H1,I5,q1⟩
def qp4 (i:Nat)(te:TE)(ti:TIp):TS:=fun D σ H=>∃x,σ[i]?=some (some x)/\te σ H fun y H1=>ti x y H1 fun z H2=>D.nx (σ.set i (some z)) H2
theorem Gn (hN:X.N.Nodup)(hi:X.N[i]?=some x)(hx:Loc X.env.scope x)(he:PE X e te)(ho:PIp X op ti)(hf:X.fn x=true\/X.env.scope.names.lookup x=some .local:=by first | exact .inl rfl | exact .inr rfl | assumption):
  PS X (.AugAssign (.Name x pos') op e pos) (qp4 i te ti):=by
 intro pins s σ H D I h;obtain⟨v,e1,h⟩:=h;obtain⟨m,hn,hl⟩:=I.loc;have vis:Vis X.env.scope x:=by rcases hx with k | k;exact .inl k;exact .inr (.inl k)
 obtain⟨u,r,l⟩:=hl i x v hi e1 vis;refine wpAny_AugAssign_Name ?_;have go:wpAny (model X.prog X.w) X.A (eval e X.env) (fun w s₂=>wpAny (model X.prog X.w) X.A (inplaceOp op u w) (fun r s₃=>wpAny (model X.prog X.w) X.A (storeName X.env x r) (fun _=>SP X pins D .next) X.xe s₃) X.xe s₂) X.xe s:=by
  refine thn (he pins s σ H _ I h) fun w s1 ⟨y,H1,I1,r1,q1⟩=>?_;refine thn (ho pins s1 σ H1 v y u w _ I1 r r1 q1) fun z s2 ⟨zv,H2,I2,r2,q2⟩=>?_;exact kQ I2 hN hi hx r2 (fun s3 I3=>⟨_,H2,I3,q2⟩) hf
 rcases l with ⟨hk,hm⟩ | ⟨hk,c,hc,hcell⟩
 ·exact wpAny_loadName_local I.ok.kind hk hn hm go
 ·rcases hk with hk | hk
  ·exact wpAny_loadName_cell I.ok.kind hk hc hcell go
  ·rcases hx with k | k
   ·have:X.env.scope.names.lookup x=some .free:=hk;rw[k] at this;cases this
   ·have:X.env.scope.names.lookup x=some .free:=hk;rw[k] at this;cases this
def ipI (f:Int->Int->Int):TIp:=fun x y H Q=>∃i j,x=.int i/\y=.int j/\Q (.int (f i j)) H
theorem Go:PIp X .Add (ipI fun i j=>i+j):=by
 intro pins s σ H x y v u Q I r1 r2 h;obtain⟨i,j,e1,e2,q⟩:=h;subst e1;subst e2;obtain⟨t,rfl⟩:=r1;obtain⟨t',rfl⟩:=r2;exact iadd_int ⟨.int _,H,I.tok _,⟨_,rfl⟩,q⟩
def Pz (c:TT)(tb:TS):TS:=fun D σ H=>∃W:Nat->St->Hp->Prop,(∃m,W m σ H)/\∀m σ H,W m σ H->
 c σ H fun b H1=>if b=true then ∃N:St->Hp->Prop,(∀σ' H',N σ' H'->∃m',m' < m/\W m' σ' H')/\tb { D with nx:=N,ct:=N,bk:=D.nx } σ H1 else D.nx σ H1
theorem uV (hp:PassesOwn (model X.prog X.w) X.A X.env X.xe)(hc:PT X c tc)(hb:PSs X body tb):PS X (.While c body [] pos) (Pz tc tb):=by
 intro pins s σ H D I h;obtain⟨W,⟨m0,w0⟩,turn⟩:=h;refine wpAny_While (codeAny_whileLoop (fun n s'=>∃σ' H',Inv X pins σ' H' s'/\W n σ' H') ?_ m0 ⟨σ,H,I,w0⟩);rintro n s1 ⟨σ1,H1,I1,w1⟩;refine wpAny_passesOwn hp (thn (hc pins s1 σ1 H1 _ I1 (turn n σ1 H1 w1)) fun b s2 ⟨H2,I2,q2⟩=>?_)
 cases b with
 |true=>
  obtain⟨N,hN,q2⟩:=q2;rw[if_pos rfl];refine wpAny_passesOwn hp (thn (hb pins s2 σ1 H2 _ I2 q2) fun f s3 q3=>?_)
  cases f with
  |next=>
   obtain⟨σ3,H3,I3,n3⟩:=q3;obtain⟨m',hm,w3⟩:=hN σ3 H3 n3;exact⟨m',hm,σ3,H3,I3,w3⟩
  |cont=>
   obtain⟨σ3,H3,I3,n3⟩:=q3;obtain⟨m',hm,w3⟩:=hN σ3 H3 n3;exact⟨m',hm,σ3,H3,I3,w3⟩
  |brk=>exact q3
  |ret v=>exact q3
 |false=>
  rw[if_neg Bool.false_ne_true];exact wpAny_execs_nil ⟨σ1,H2,I2,q2⟩
end
structure It where
 go:Nat->Hp->Prop
 yld:Nat->Hp->V->Hp->Prop
 stop:Nat->Hp->Prop
def oJ (X:Cx)(pins:List (Addr × Obj))(H:Hp)(b:Addr):Prop:=
 H b=none/\b≠X.env.locals/\b∉X.fs/\(b∈X.ex\/X.s₀.heap.objs.size<=b)/\(∀x c,X.env.cells.lookup x=some c->c≠b)/\∀p∈X.pn++pins,p.1≠b
theorem Inv.fpOk (I:Inv X pins σ H s)(hb:s.heap.objs.size<=b)(hn:H' b=none):oJ X pins H' b:=by
 refine⟨hn,Nat.ne_of_gt (Nat.lt_of_lt_of_le I.lt hb),I.nofs hb,.inr (Nat.le_trans I.sz hb),fun x c e z=>?_,fun p hp z=>?_⟩
 ·obtain⟨v,q⟩:=I.cell x c e;exact absurd (Nat.lt_of_lt_of_le q.lt (by rw[z];exact hb)) (Nat.lt_irrefl _)
 ·exact absurd (Nat.lt_of_lt_of_le (Heap.lt_size (I.pin p hp).1) (by rw[z];exact hb)) (Nat.lt_irrefl _)
structure Pb (P:Program) (w:World) (K:Frag) (tg:Expr) (J:It) (fp:List Addr) (it:Addr) (tn:Nat->Heap->Prop):Prop where
 mem:it∈fp
 obj:∀i h,tn i h->∀b∈fp,∃o,h.get? b=some o/\∀v,o.data≠.cell v
 keep:∀i h h',tn i h->(∀b∈fp,∀o,h.get? b=some o->h'.get? b=some o)->tn i h'
 item:∀(X:Cx),X.prog=P->X.w=w->X.K=K->X.calm=true->∀(i:Nat) (pins:List (Addr × Obj)) (s:Shared) (σ:St) (H:Hp) (E:Value->Shared->Prop),Inv X pins σ H s->(∀b∈fp,oJ X pins H b)->tn i s.heap->J.go i H->
  wpAny (model P w) X.A (pyNext (.ref it)) (fun r s1=>∃u,r=some u/\
   wpAny (model P w) X.A (letOwnedTupleGo tg (.ref it) u) (fun _ s2=>∃x H',Inv X pins σ H' s2/\cC x u/\J.yld i H x H'/\tn (i+1) s2.heap/\∀b∈fp,H' b=none) E s1) E s
 done:∀(X:Cx),X.prog=P->X.w=w->X.K=K->X.calm=true->∀(i:Nat) (pins:List (Addr × Obj)) (s:Shared) (σ:St) (H:Hp) (E:Value->Shared->Prop),Inv X pins σ H s->(∀b∈fp,oJ X pins H b)->tn i s.heap->J.stop i H->
  wpAny (model P w) X.A (pyNext (.ref it)) (fun r s1=>r=none/\Inv X pins σ H s1) E s
 self:∀(A:Around) (i:Nat) (s:Shared) (Q:Value->Shared->Prop) (E:Value->Shared->Prop),tn i s.heap->Q (.ref it) s->wpAny (model P w) A (pyIter (.ref it)) Q E s
abbrev TI:=St->Hp->(It->Hp->Prop)->Prop
def PIE (X:Cx)(pins:List (Addr × Obj))(σ:St)(tg:Expr)(R:It->Hp->Prop)(itv:Value)(s2:Shared):Prop:=
 ∃(it:Addr) (fp:List Addr) (tn:Nat->Heap->Prop) (J:It) (H':Hp),itv=.ref it/\Inv X pins σ H' s2/\Pb X.prog X.w X.K tg J fp it tn/\tn 0 s2.heap/\(∀b∈fp,oJ X pins H' b)/\R J H'
def PI (X:Cx)(tg iter:Expr)(wi:TI):Prop:=
 ∀(pins:List (Addr × Obj)) (s:Shared) (σ:St) (H:Hp) (R:It->Hp->Prop),Inv X pins σ H s->wi σ H R->
  wpAny (model X.prog X.w) X.A (eval iter X.env) (fun v s1=>wpAny (model X.prog X.w) X.A (pyIter v) (PIE X pins σ tg R) X.xe s1) X.xe s
theorem Xq (ho : s.heap.get? it = some o)(hc : o.cls = .type n)(hd : o.data = .fields vs)(hn : ["enumerate", "zip", "dict_itemiterator", "dict_reverseitemiterator", "odict_iterator", "itertools.zip_longest", "itertools.pairwise"].contains n = false)(hQ : Q () s): wpAny M A (letOwnedTupleGo tg (.ref it) u) Q E s := by
  unfold letOwnedTupleGo
  cases tg <;> first
    | exact wpAny_pure hQ
    | (cases u <;> first
        | exact wpAny_pure hQ
        | (refine wpAny_bind (wpAny_load ho ?_)
           rw [hc, hd];show wpAny M A (if (["enumerate", "zip", "dict_itemiterator", "dict_reverseitemiterator", "odict_iterator", "itertools.zip_longest", "itertools.pairwise"].contains n && vs[0]? == some (rawInt _)) = true then _ else _) Q E s;rw [if_neg (by intro h; rw [hn, Bool.false_and] at h; cases h)];exact wpAny_pure hQ))
def Itl (K:Frag)(a:Addr):It:=
 ⟨fun i H=>∃xs x,SqL K H a xs/\xs[i]?=some x,fun i H x H'=>H'=H/\∀xs,SqL K H a xs->xs[i]?=some x,fun i H=>∃xs,SqL K H a xs/\xs.length<=i⟩
def Itr (lo:Int)(n:Nat):It:=⟨fun i _=>i < n,fun i H x H'=>H'=H/\x=.int (lo+i),fun i _=>n<=i⟩
theorem Lu {K:Frag}(a it:Addr):Pb P w K tg (Itl K a) [it] it (fun i h=>h.IsListIter it a i) where
 mem:=by simp
 obj:=fun i h st b hb=>by
  have e:b=it:=by simpa using hb
  subst e;obtain⟨o,e,c,d⟩:=st;exact⟨o,e,fun v z=>by rw[d] at z;cases z⟩
 keep:=fun i h h' st k=>st.at fun o e=>k it (by simp) o e
 item:=by
  intro X hP hw hK hc i pins s σ H E I hf st hg;subst hP hw hK;obtain⟨xs,x,hq,hx⟩:=hg;obtain⟨its,rv,p,hz⟩:=I.list hq;obtain⟨u,hu,ru⟩:=rv.get hx;obtain⟨f0,f1,f2,f3,f4,f5⟩:=hf it (by simp);refine wpAny_pyNext_list_item st p.isList (x:=u) (by simpa using hu) fun h' st' sb=>?_;have I1:Inv X pins σ H { s with heap:=h' }:=I.turned (t':=s.toks) (fun b o hb e=>(sb.2 b hb).trans e) f0 f1 f3 f4 f5;obtain⟨o,e,c,d⟩:=id st';exact⟨u,rfl,Xq (s:={ s with heap:=h' }) e c d (by decide) ⟨x,H,I1,ru,⟨rfl,fun ys hy=>by rw[I.list_inj hy hq];exact hx⟩,st',fun b hb=>(hf b hb).1⟩⟩
 done:=by
  intro X hP hw hK hc i pins s σ H E I hf st hg;subst hP hw hK;obtain⟨xs,hq,hx⟩:=hg;obtain⟨its,rv,p,hz⟩:=I.list hq;obtain⟨f0,f1,f2,f3,f4,f5⟩:=hf it (by simp);have hl:=rv.length;exact wpAny_pyNext_list_end (I.ok.hd hc) st p.isList (by simp;lia) fun h' eb=>⟨rfl,I.turned (t':=s.toks) (fun b o hb e=>eb b o hb e) f0 f1 f3 f4 f5⟩
 self:=fun _ _ _ _ _ st h=>wpAny_pyIter_listiter st h
theorem Ey {K:Frag}(it:Addr)(lo:Int)(n:Nat):Pb P w K tg (Itr lo n) [it] it (fun i h=>IsRangeIter h it (lo+(i:Nat)*1) ((n:Int) - (i:Nat)) 1) where
 mem:=by simp
 obj:=fun i h st b hb=>by
  have e:b=it:=by simpa using hb
  subst e;exact⟨_,st,fun v z=>by
   have z':Data.fields _=Data.cell v:=z
   cases z'⟩
 keep:=fun i h h' st k=>k it (by simp) _ st
 item:=by
  intro X hP hw hK hc i pins s σ H E I hf st hg;subst hP hw hK;obtain⟨f0,f1,f2,f3,f4,f5⟩:=hf it (by simp);have W:=Walks.range (prog:=X.prog) (w:=X.w) (I.ok.hd hc) it lo 1 n;refine W.item i s _ _ hg st fun v h' tk hv st' kk=>?_;obtain⟨t,rfl⟩:=hv;have I1:Inv X pins σ H { s with heap:=h',toks:=tk }:=I.turned (fun b o hb e=>kk b o (by simpa using hb) e) f0 f1 f3 f4 f5;refine⟨_,rfl,Xq (s:={ s with heap:=h',toks:=tk }) (n:="range_iterator") st' rfl rfl (by decide) ⟨.int (lo+i),H,I1,⟨t,?_⟩,⟨rfl,rfl⟩,st',fun b hb=>(hf b hb).1⟩⟩;rw[Int.mul_one]
 done:=by
  intro X hP hw hK hc i pins s σ H E I hf st hg;subst hP hw hK;obtain⟨f0,f1,f2,f3,f4,f5⟩:=hf it (by simp);exact wpAny_pyNext_range_end (I.ok.hd hc) st (by have:n<=i:=hg;lia) fun h' eb=>⟨rfl,I.turned (t':=s.toks) (fun b o hb e=>eb b o hb e) f0 f1 f3 f4 f5⟩
 self:=fun _ _ _ _ _ st h=>wpAny_pyIter_rangeiter st h
section
variable {X:Cx} {tg:Expr}
def qk5 (K:Frag)(tl:TE):TI:=fun σ H R=>tl σ H fun x H1=>∃a,x=.ref a/\(∃xs,SqL K H1 a xs)/\R (Itl K a) H1
theorem cO (hl:PE X l tl):PI X tg l (qk5 X.K tl):=by
 intro pins s σ H R I h;refine thn (hl pins s σ H _ I h) fun v s1 ⟨x,H1,I1,r1,q1⟩=>?_;obtain⟨a,e,⟨xs,hq⟩,q⟩:=q1;subst e
 cases r1
 obtain⟨its,rv,p,hz⟩:=I1.list hq;refine wpAny_pyIter_list p.isList ?_;refine⟨s1.heap.objs.size,[s1.heap.objs.size],_,_,H1,rfl,I1.kept (t':=s1.toks) fun b o e=>Heap.get?_push_of_some _ e,Lu a _,⟨_,Heap.get?_push_size _ rfl,rfl,rfl⟩,fun b hb=>?_,q⟩;have e:b=s1.heap.objs.size:=by simpa using hb
 subst e;exact I1.fpOk (Nat.le_refl _) (I1.hok.fresh (Nat.le_refl _))
theorem Co {lo hi:Int}(I:Inv X pins σ H s)(h1:-(2 ^ 62)<=lo)(h2:lo < 2 ^ 62)(h3:-(2 ^ 62)<=hi)(h4:hi < 2 ^ 62)(q:R (Itr lo (hi - lo).toNat) H):wpAny (model X.prog X.w) X.A (pyIter (.ref s.heap.objs.size)) (PIE X pins σ tg R) E { s with heap:=s.heap.push { cls:=.type "range",data:=.fields #[.int lo t,.int hi u,.int 1 v] },toks:=tk }:=by
 refine wpAny_pyIter_range (IsRange.new ..) (small_one h1 h2 h3 h4) ?_;have I1:Inv X pins σ H { s with heap:=s.heap.push { cls:=.type "range",data:=.fields #[.int lo t,.int hi u,.int 1 v] },toks:=tk }:=I.kept fun b o e=>Heap.get?_push_of_some _ e;refine⟨(s.heap.push { cls:=.type "range",data:=.fields #[.int lo t,.int hi u,.int 1 v] }).objs.size,[(s.heap.push { cls:=.type "range",data:=.fields #[.int lo t,.int hi u,.int 1 v] }).objs.size],_,_,H,rfl,
  I1.kept (t':=tk) fun b o e=>Heap.get?_push_of_some _ e,Ey _ lo (hi - lo).toNat,?_,fun b hb=>?_,q⟩
 ·have e1:lo+((0:Nat):Int)*1=lo:=by simp
  have e2:(((hi - lo).toNat:Nat):Int) - ((0:Nat):Int)=Builtin.Range.rangeSize lo hi 1:=by rw[rangeSize_one];split<;>lia
  show IsRangeIter _ _ (lo+((0:Nat):Int)*1) ((((hi - lo).toNat:Nat):Int) - ((0:Nat):Int)) 1;rw[e1,e2];exact Heap.get?_push_size _ rfl
 ·have e:b=(s.heap.push { cls:=.type "range",data:=.fields #[.int lo t,.int hi u,.int 1 v] }).objs.size:=by simpa using hb
  subst e;exact I1.fpOk (Nat.le_refl _) (I1.hok.fresh (Nat.le_refl _))
def qg0 (ta:TA):TI:=fun σ H R=>ta σ H fun vs H1=>∃j:Int,vs=[.int j]/\-(2 ^ 62)<=j/\j < 2 ^ 62/\R (Itr 0 j.toNat) H1
def ql8 (ta:TA):TI:=fun σ H R=>ta σ H fun vs H1=>∃i j:Int,vs=[.int i,.int j]/\(-(2 ^ 62)<=i/\i < 2 ^ 62/\-(2 ^ 62)<=j/\j < 2 ^ 62)/\R (Itr i (j - i).toNat) H1
theorem iY (hg:Gl X "range")(hm:X.mg "range"=none)(ha:PA X [a] ta)(hs:starEach [a] X.env=[(false,eval a X.env)]:=by rfl):PI X tg (.Call (.Name "range" p) [a] [] pos) (qg0 ta):=by
 intro pins s σ H R I h;refine Call_ (jW I hg hm boot_range (PyProof.Rows.callWith_type1 (thn (ha pos pins s σ H _ I h) fun us s1 ⟨vs,H1,I1,r1,q1⟩=>?_) hs rfl));obtain⟨j,e,q1,q2,q⟩:=q1;subst e
 cases r1 with
 |cons r rr=>
  cases rr
  obtain⟨t,rfl⟩:=r;exact call_range_1 (Co I1 (by lia) (by lia) q1 q2 (by simpa using q))
theorem Ld (hg:Gl X "range")(hm:X.mg "range"=none)(ha:PA X [a,b] ta)(hs:starEach [a,b] X.env=[(false,eval a X.env),(false,eval b X.env)]:=by rfl)(hs2:starEach [b] X.env=[(false,eval b X.env)]:=by rfl):
  PI X tg (.Call (.Name "range" p) [a,b] [] pos) (ql8 ta):=by
 intro pins s σ H R I h;refine Call_ (jW I hg hm boot_range (PyProof.Rows.callWith_type1 (thn (ha pos pins s σ H _ I h) fun us s1 ⟨vs,H1,I1,r1,q1⟩=>?_) (by rw[hs,hs2]) (by rw[hs2];rfl)));obtain⟨i,j,e,⟨q1,q2,q3,q4⟩,q⟩:=q1;subst e
 cases r1 with
 |cons r rr=>
  cases rr with
  |cons r' rr=>
   cases rr
   obtain⟨t,rfl⟩:=r;obtain⟨t',rfl⟩:=r';exact call_range_2 (Co I1 q1 q2 q3 q4 q)
def qp0 (wi:TI)(g:TG)(tb:TS):TS:=fun D σ H=>wi σ H fun J H1=>∃W:Nat->Nat->St->Hp->Prop,(∃m,W 0 m σ H1)/\∀i m σ H,W i m σ H->
 (J.stop i H/\D.nx σ H)\/(J.go i H/\∃N:St->Hp->Prop,(∀σ' H',N σ' H'->∃m',m' < m/\W (i+1) m' σ' H')/\∀x H',J.yld i H x H'->g x σ H' fun σ2 H2=>tb { D with nx:=N,ct:=N,bk:=D.nx } σ2 H2)
def uF (fp:List Addr)(h:Heap):List (Addr × Obj):=fp.filterMap fun b=>(h.get? b).map fun o=>(b,o)
theorem kU (hb:b∈fp)(e:h.get? b=some o):(b,o)∈uF fp h:=mem_filterMap.mpr ⟨b,hb,by rw[e];rfl⟩
theorem Lo (hp:p∈uF fp h):p.1∈fp/\h.get? p.1=some p.2:=by
 obtain⟨b,hb,e⟩:=mem_filterMap.mp hp
 cases q:h.get? b with
 |none=>rw[q] at e;cases e
 |some o=>
  rw[q] at e;have e':(b,o)=p:=Option.some.inj e;subst e';exact⟨hb,q⟩
theorem Inv.pinned (I:Inv X pins σ H s)(hf:∀b∈fp,oJ X pins H b)(ho:∀b∈fp,∃o,s.heap.get? b=some o/\∀v,o.data≠.cell v):Inv X (pins++uF fp s.heap) σ H s:=
 I.pins_of fun p hp=>(mem_append.mp hp).elim (fun z=>I.pin p (mem_append_right _ z)) fun z=>by
  obtain⟨hb,e⟩:=Lo z;obtain⟨f0,f1,f2,_⟩:=hf p.1 hb;obtain⟨o,e',d⟩:=ho p.1 hb;rw[e] at e';cases e';exact⟨e,f0,f1,f2,d⟩
theorem Inv.unpinned (I:Inv X (pins++pl) σ H s):Inv X pins σ H s:=I.pins_of fun p hp=>I.pin p (mem_append_right _ (mem_append_left _ hp))
theorem eZ {iter:Expr}(hp:PassesOwn (model X.prog X.w) X.A X.env X.xe)(hc:X.calm=true)(hi:PI X tg iter wi)(hg:PG X tg g)(hb:PSs X body tb)(hs:∀x,foldedSetIterable iter X.env x=pure x:=by intro _;rfl):PS X (.For tg iter body [] pos) (qp0 wi g tb):=by
 intro pins s σ H D I h;refine wpAny_For (thn (hi pins s σ H _ I h) fun v s1 h1=>thn h1 fun itv s2 h2=>?_) hs;obtain⟨it,fp,tn,J,H2,e,I2,T,st2,f2,W,⟨m0,w0⟩,turn⟩:=h2;subst e;have stat:∀{H':Hp},(∀b∈fp,H' b=none)->∀b∈fp,oJ X pins H' b:=fun hn b hb=>⟨hn b hb,(f2 b hb).2⟩
 refine codeAny_forLoop_any (fun n s'=>∃i σ' H',Inv X pins σ' H' s'/\tn i s'.heap/\(∀b∈fp,H' b=none)/\W i n σ' H') ?_ m0 ⟨0,σ,H2,I2,st2,fun b hb=>(f2 b hb).1,w0⟩;rintro n s3 ⟨i,σ3,H3,I3,st3,fr3,w3⟩;rcases turn i n σ3 H3 w3 with ⟨stop,qn⟩ | ⟨go,N,hN,step⟩
 ·refine wpAny_passesOwn hp (thn (T.done X rfl rfl rfl hc i pins s3 σ3 H3 X.xe I3 (stat fr3) st3 stop) fun r s4 ⟨hr,I4⟩=>?_);subst hr;exact wpAny_execs_nil ⟨σ3,H3,I4,qn⟩
 ·refine wpAny_passesOwn hp (thn (T.item X rfl rfl rfl hc i pins s3 σ3 H3 X.xe I3 (stat fr3) st3 go) fun r s4 ⟨u,hr,h4⟩=>?_);subst hr;refine wpAny_passesOwn hp (thn h4 fun _ s5 ⟨x,H5,I5,r5,y5,st5,fr5⟩=>?_);have I5':=I5.pinned (stat fr5) (T.obj _ _ st5);refine wpAny_passesOwn hp (thn (hg _ s5 σ3 H5 x u _ I5' r5 (step x H5 y5)) fun _ s6 ⟨σ6,H6,I6,q6⟩=>?_);refine wpAny_passesOwn hp (thn (hb _ s6 σ6 H6 _ I6 q6) fun f s7 q7=>?_);have again:∀{σ7:St} {H7:Hp},Inv X (pins++uF fp s5.heap) σ7 H7 s7->N σ7 H7->∃m,m < n/\∃i σ' H',Inv X pins σ' H' s7/\tn i s7.heap/\(∀b∈fp,H' b=none)/\W i m σ' H':=fun {σ7 H7} I7 n7=>by
   obtain⟨m',hm,w7⟩:=hN σ7 H7 n7;refine⟨m',hm,i+1,σ7,H7,I7.unpinned,T.keep _ _ _ st5 fun b hb o e=>(I7.pin (b,o) (mem_append_right _ (mem_append_right _ (kU hb e)))).1,fun b hb=>?_,w7⟩;obtain⟨o,e,d⟩:=T.obj _ _ st5 b hb;exact(I7.pin (b,o) (mem_append_right _ (mem_append_right _ (kU hb e)))).2.1
  cases f with
  |next=>obtain⟨σ7,H7,I7,n7⟩:=q7;exact again I7 n7
  |cont=>obtain⟨σ7,H7,I7,n7⟩:=q7;exact again I7 n7
  |brk=>obtain⟨σ7,H7,I7,q7⟩:=q7;exact⟨σ7,H7,I7.unpinned,q7⟩
  |ret v=>obtain⟨x7,σ7,H7,I7,r7,q7⟩:=q7;exact⟨x7,σ7,H7,I7.unpinned,r7,q7⟩
end
theorem eK {K:Frag}{g:TG}{tb:TS}{D:kE}(Pv:Nat->St->Hp->Prop)(h0:Pv 0 σ H)(hl:∀i σ H,i<=xs.length->Pv i σ H->SqL K H a xs)(hs:∀i x σ H,xs[i]?=some x->Pv i σ H->g x σ H fun σ2 H2=>tb { D with nx:=Pv (i+1),ct:=Pv (i+1),bk:=D.nx } σ2 H2)(hd:∀σ H,Pv xs.length σ H->D.nx σ H):
  ∃W:Nat->Nat->St->Hp->Prop,(∃m,W 0 m σ H)/\∀i m σ H,W i m σ H->
   ((Itl K a).stop i H/\D.nx σ H)\/((Itl K a).go i H/\∃N:St->Hp->Prop,(∀σ' H',N σ' H'->∃m',m' < m/\W (i+1) m' σ' H')/\∀x H',(Itl K a).yld i H x H'->g x σ H' fun σ2 H2=>tb { D with nx:=N,ct:=N,bk:=D.nx } σ2 H2):=by
 refine⟨fun i m σ H=>m=xs.length - i/\i<=xs.length/\Pv i σ H,⟨xs.length,by simp,Nat.zero_le _,h0⟩,?_⟩;rintro i m σ H ⟨rfl,hi,p⟩;have q:=hl i σ H hi p
 by_cases hlt:i < xs.length
 ·refine .inr ⟨⟨xs,xs[i],q,by simp[hlt]⟩,Pv (i+1),fun σ' H' p'=>⟨xs.length - (i+1),by lia,rfl,hlt,p'⟩,fun x H' y=>?_⟩;obtain⟨e,y⟩:=y;subst e;exact hs i x σ _ (y xs q) p
 ·have e:i=xs.length:=by lia
  subst e;exact .inl ⟨⟨xs,q,Nat.le_refl _⟩,hd σ H p⟩
theorem kM {lo:Int}{g:TG}{tb:TS}{D:kE}(Pv:Nat->St->Hp->Prop)(h0:Pv 0 σ H)(hs:∀i σ H,i < n->Pv i σ H->g (.int (lo+i)) σ H fun σ2 H2=>tb { D with nx:=Pv (i+1),ct:=Pv (i+1),bk:=D.nx } σ2 H2)(hd:∀σ H,Pv n σ H->D.nx σ H):
  ∃W:Nat->Nat->St->Hp->Prop,(∃m,W 0 m σ H)/\∀i m σ H,W i m σ H->
   ((Itr lo n).stop i H/\D.nx σ H)\/((Itr lo n).go i H/\∃N:St->Hp->Prop,(∀σ' H',N σ' H'->∃m',m' < m/\W (i+1) m' σ' H')/\∀x H',(Itr lo n).yld i H x H'->g x σ H' fun σ2 H2=>tb { D with nx:=N,ct:=N,bk:=D.nx } σ2 H2):=by
 refine⟨fun i m σ H=>m=n - i/\i<=n/\Pv i σ H,⟨n,by simp,Nat.zero_le _,h0⟩,?_⟩;rintro i m σ H ⟨rfl,hi,p⟩
 by_cases hlt:i < n
 ·refine .inr ⟨hlt,Pv (i+1),fun σ' H' p'=>⟨n - (i+1),by lia,rfl,hlt,p'⟩,fun x H' y=>?_⟩;obtain⟨e,y⟩:=y;subst e y;exact hs i σ _ hlt p
 ·have e:i=n:=by lia
  subst e;exact .inl ⟨Nat.le_refl _,hd σ H p⟩
theorem tZ (Pv:St->Hp->Prop)(μ:St->Hp->Nat)(h0:Pv σ H)(hs:∀σ H,Pv σ H->c σ H fun b H1=>if b=true then tb { D with nx:=fun σ' H'=>Pv σ' H'/\μ σ' H' < μ σ H,ct:=fun σ' H'=>Pv σ' H'/\μ σ' H' < μ σ H,bk:=D.nx } σ H1 else D.nx σ H1)(mono:∀σ H Q Q',(∀b H1,Q b H1->Q' b H1)->c σ H Q->c σ H Q'):Pz c tb D σ H:=by
 refine⟨fun m σ H=>m=μ σ H/\Pv σ H,⟨_,rfl,h0⟩,?_⟩;rintro m σ H ⟨rfl,p⟩;refine mono σ H _ _ (fun b H1 q=>?_) (hs σ H p)
 cases b with
 |true=>exact⟨_,fun σ' H' ⟨p',l⟩=>⟨_,l,rfl,p'⟩,q⟩
 |false=>exact q
abbrev R2:=V->V->Hp->VK->Prop
def OpR (X:Cx)(f:Value->Value->Sem Value)(r:R2):Prop:=
 ∀(pins:List (Addr × Obj)) (s:Shared) (σ:St) (H:Hp) (x y:V) (v u:Value) (Q:VK),Inv X pins σ H s->cC x v->cC y u->r x y H Q->
  wpAny (model X.prog X.w) X.A (f v u) (EP X pins σ Q) X.xe s
def UnR (X:Cx)(f:Value->Sem Value)(r:V->Hp->VK->Prop):Prop:=
 ∀(pins:List (Addr × Obj)) (s:Shared) (σ:St) (H:Hp) (x:V) (v:Value) (Q:VK),Inv X pins σ H s->cC x v->r x H Q->
  wpAny (model X.prog X.w) X.A (f v) (EP X pins σ Q) X.xe s
def kL (X:Cx)(f:Value)(r:List V->Hp->VK->Prop):Prop:=
 ∀(pins:List (Addr × Obj)) (s:Shared) (σ:St) (H:Hp) (xs:List V) (us:List Value) (Q:VK),Inv X pins σ H s->bV xs us->r xs H Q->
  wpAny (model X.prog X.w) X.A (call f us) (EP X pins σ Q) X.xe s
def tOp (r:R2)(ta tb:TE):TE:=fun σ H Q=>ta σ H fun x H1=>tb σ H1 fun y H2=>r x y H2 Q
def tUn (r:V->Hp->VK->Prop)(ta:TE):TE:=fun σ H Q=>ta σ H fun x H1=>r x H1 Q
inductive rI (C:Int->Int->Prop) (g:Int->Int->V) (x:V) (y:V) (H:Hp) (Q:VK):Prop where
 |mk (i j):x=.int i->y=.int j->C i j->Q (g i j) H->rI C g x y H Q
inductive rI0 (g:Int->Int->V) (x:V) (y:V) (H:Hp) (Q:VK):Prop where
 |mk (i j):x=.int i->y=.int j->Q (g i j) H->rI0 g x y H Q
inductive rU (g:Int->V) (x:V) (H:Hp) (Q:VK):Prop where
 |mk (i):x=.int i->Q (g i) H->rU g x H Q
section
variable {X:Cx} {a b c:Expr} {ta tb tc:TE} {pos:Pos}
theorem qb3 (ha:PE X a ta)(hb:PE X b tb){R:V->V->Hp->Prop}(I:Inv X pins σ H s)(h:ta σ H fun x H1=>tb σ H1 fun y H2=>R x y H2){f:Value->Value->Sem Value}(hf:∀v u s2 x y H2,Inv X pins σ H2 s2->cC x v->cC y u->R x y H2->wpAny (model X.prog X.w) X.A (f v u) Q X.xe s2):
  wpAny (model X.prog X.w) X.A (eval a X.env) (fun v s₁=>wpAny (model X.prog X.w) X.A (eval b X.env) (fun u s₂=>wpAny (model X.prog X.w) X.A (f v u) Q X.xe s₂) X.xe s₁) X.xe s:=by
 refine thn (ha pins s σ H _ I h) fun v s1 ⟨x,H1,I1,r1,q1⟩=>?_;refine thn (hb pins s1 σ H1 _ I1 q1) fun u s2 ⟨y,H2,I2,r2,q2⟩=>?_;exact hf v u s2 x y H2 I2 r1 r2 q2
theorem bC (ho:OpR X (binaryOp op) r)(ha:PE X a ta)(hb:PE X b tb):PE X (.BinOp a op b pos) (tOp r ta tb):=by
 intro pins s σ H Q I h;exact wpAny_BinOp (qb3 ha hb I h fun v u s2 x y H2 I2 rx ry q=>ho pins s2 σ H2 x y v u Q I2 rx ry q)
theorem Cd (ho:UnR X (unaryOp op) r)(ha:PE X a ta):PE X (.UnaryOp op a pos) (tUn r ta):=by
 intro pins s σ H Q I h;exact UnaryOp_ (thn (ha pins s σ H _ I h) fun v s1 ⟨x,H1,I1,r1,q1⟩=>ho pins s1 σ H1 x v Q I1 r1 q1)
theorem opI {g:Int->Int->Int}(rule:∀(i j:Int) (t u:Tok) (s:Shared) (Q:Value->Shared->Prop) (E:Value->Shared->Prop),C i j->Q (.int (g i j) s.toks) { s with toks:=s.toks+1 }->wpAny (model X.prog X.w) X.A (f (.int i t) (.int j u)) Q E s):
  OpR X f (rI C fun i j=>.int (g i j)):=by
 intro pins s σ H x y v u Q I rx ry h;obtain⟨i,j,rfl,rfl,hc,q⟩:=h;obtain⟨t,rfl⟩:=rx;obtain⟨t',rfl⟩:=ry;exact rule i j t t' s _ _ hc ⟨.int (g i j),H,I.tok _,⟨_,rfl⟩,q⟩
theorem qj6 {g:Int->Int->Int}(rule:∀(i j:Int) (t u:Tok) (s:Shared) (Q:Value->Shared->Prop) (E:Value->Shared->Prop),Q (.int (g i j) s.toks) { s with toks:=s.toks+1 }->wpAny (model X.prog X.w) X.A (f (.int i t) (.int j u)) Q E s):
  OpR X f (rI0 fun i j=>.int (g i j)):=by
 intro pins s σ H x y v u Q I rx ry h;obtain⟨i,j,rfl,rfl,q⟩:=h;obtain⟨t,rfl⟩:=rx;obtain⟨t',rfl⟩:=ry;exact rule i j t t' s _ _ ⟨.int (g i j),H,I.tok _,⟨_,rfl⟩,q⟩
theorem Ym {g:Int->Int->Bool}(rule:∀(i j:Int) (t u:Tok) (s:Shared) (Q:Value->Shared->Prop) (E:Value->Shared->Prop),Q (.bool (g i j)) s->wpAny (model X.prog X.w) X.A (f (.int i t) (.int j u)) Q E s):
  OpR X f (rI0 fun i j=>.bl (g i j)):=by
 intro pins s σ H x y v u Q I rx ry h;obtain⟨i,j,rfl,rfl,q⟩:=h;obtain⟨t,rfl⟩:=rx;obtain⟨t',rfl⟩:=ry;exact rule i j t t' s _ _ ⟨.bl (g i j),H,I,rfl,q⟩
def qn6 (i j:Int):Prop:=0 < j/\j < 1073741824
def qm1 (i j:Int):Prop:=0<=j/\j<=1000000/\i.natAbs < 2 ^ 64
def Zk (i j:Int):Prop:=(-(2 ^ 64) < i/\i < 2 ^ 64)\/(-(2 ^ 64) < j/\j < 2 ^ 64)
theorem Zk.ok (h:Zk i j):IntMulOk i j:=by
 rcases h with ⟨h1,h2⟩ | ⟨h1,h2⟩
 ·exact .of_left (intBits_le_64 h1 h2)
 ·exact .of_right (intBits_le_64 h1 h2)
theorem gZ:OpR X (binaryOp .Add) (rI0 fun i j=>.int (i+j)):=qj6 fun _ _ _ _ _ _ _ q=>add_int q
theorem lL:OpR X (binaryOp .Sub) (rI0 fun i j=>.int (i - j)):=qj6 fun _ _ _ _ _ _ _ q=>sub_int q
theorem Os:OpR X (binaryOp .Mult) (rI Zk fun i j=>.int (i*j)):=opI fun _ _ _ _ _ _ _ hc q=>mul_int q hc.ok
theorem Be:OpR X (binaryOp .FloorDiv) (rI qn6 fun i j=>.int (i / j)):=opI fun i j _ _ _ _ _ hc q=>by
 have h1:(0:Int) < j:=hc.1;have h2:j < 1073741824:=hc.2;exact floordiv_int (by lia) (by rw[Int.fdiv_eq_ediv_of_nonneg i (by lia)];exact q) (.inl (PyProof.noPylong_small (by lia)))
theorem Ex:OpR X (binaryOp .Mod) (rI (fun _ j=>0 < j) fun i j=>.int (i % j)):=opI fun i j _ _ _ _ _ hc q=>by
 have h1:(0:Int) < j:=hc;exact mod_int' (by lia) (by rw[Int.fmod_eq_emod_of_nonneg i (by lia)];exact q)
theorem qA:OpR X (binaryOp .Mod) (rI (fun _ j=>j≠0) fun i j=>.int (i.fmod j)):=opI fun _ _ _ _ _ _ _ hc q=>mod_int' hc q
theorem Yu:OpR X (binaryOp .Pow) (rI qm1 fun i j=>.int (i ^ j.toNat)):=opI fun _ _ _ _ _ _ _ hc q=>pow_int_small hc.1 hc.2.1 hc.2.2 q
theorem unI {g:Int->Int}(rule:∀(i:Int) (t:Tok) (s:Shared) (Q:Value->Shared->Prop) (E:Value->Shared->Prop),Q (.int (g i) s.toks) { s with toks:=s.toks+1 }->wpAny (model X.prog X.w) X.A (f (.int i t)) Q E s):
  UnR X f (rU fun i=>.int (g i)):=by
 intro pins s σ H x v Q I rx h;obtain⟨i,rfl,q⟩:=h;obtain⟨t,rfl⟩:=rx;exact rule i t s _ _ ⟨.int (g i),H,I.tok _,⟨_,rfl⟩,q⟩
theorem wF:UnR X (unaryOp .USub) (rU fun i=>.int (-i)):=unI fun _ _ _ _ _ q=>neg_int q
end
def qe9:V->V->Bool
 | .non,.non=>true | .non,.int _=>true | .int _,.non=>true | .non,.bl _=>true | .bl _,.non=>true | .non,.str _=>true | .str _,.non=>true
 | .int _,.int _=>true | .bl _,.bl _=>true | .str _,.str _=>true | .byt _,.byt _=>true
 | .int _,.str _=>true | .str _,.int _=>true | .bl _,.str _=>true | .str _,.bl _=>true
 |_,_=>false
def rEq:R2:=fun x y H Q=>qe9 x y=true/\Q (.bl (decide (x=y))) H
def rNe:R2:=fun x y H Q=>qe9 x y=true/\Q (.bl (!decide (x=y))) H
theorem Kg:decide (V.int i=V.int j)=(i == j):=by
 rw[Bool.eq_iff_iff];simp
theorem Qi:decide (V.bl i=V.bl j)=(i == j):=by
 rw[Bool.eq_iff_iff];simp
theorem Ia:decide (V.str i=V.str j)=(i == j):=by
 rw[Bool.eq_iff_iff];simp
theorem Ic:decide (V.byt i=V.byt j)=(i.toList == j.toList):=by
 rw[Bool.eq_iff_iff]
 cases i
 cases j
 simp
section
variable {X:Cx} {a b c:Expr} {ta tb tc:TE} {pos:Pos}
theorem cY (I:Inv X pins σ H s)(q:Q (.bl k) H)(e:k=k'):EP X pins σ Q (.bool k') s:=by
 subst e;exact⟨.bl k,H,I,rfl,q⟩
theorem eV:OpR X (compareOp .Eq) rEq:=by
 intro pins s σ H x y v u Q I rx ry h;obtain⟨hs,q⟩:=h
 cases x with
 |non=>
  cases rx
  cases y with
  |non=>cases ry;exact PySem.EqNone.eq_none_none (cY I q (by simp))
  |bl j=>cases ry;exact PySem.EqNone.eq_none_bool (cY I q (by simp))
  |int j=>obtain⟨t',rfl⟩:=ry;exact PySem.EqNone.eq_none_int (cY I q (by simp))
  |str j=>obtain⟨t',rfl⟩:=ry;exact PySem.EqNone.eq_none_str (cY I q (by simp))
  |_=>exact absurd (show false=true from hs) Bool.false_ne_true
 |bl i=>
  cases rx
  cases y with
  |non=>cases ry;exact PySem.EqNone.eq_bool_none (cY I q (by simp))
  |bl j=>cases ry;exact eq_bool (cY I q Qi)
  |str j=>obtain⟨t',rfl⟩:=ry;exact PySem.EqMixed.eq_bool_str (cY I q (by simp))
  |_=>exact absurd (show false=true from hs) Bool.false_ne_true
 |int i=>
  obtain⟨t,rfl⟩:=rx
  cases y with
  |non=>cases ry;exact PySem.EqNone.eq_int_none (cY I q (by simp))
  |int j=>obtain⟨t',rfl⟩:=ry;exact eq_int (cY I q Kg)
  |str j=>obtain⟨t',rfl⟩:=ry;exact PySem.EqMixed.eq_int_str (cY I q (by simp))
  |_=>exact absurd (show false=true from hs) Bool.false_ne_true
 |str i=>
  obtain⟨t,rfl⟩:=rx
  cases y with
  |non=>cases ry;exact PySem.EqNone.eq_str_none (cY I q (by simp))
  |bl j=>cases ry;exact PySem.EqMixed.eq_str_bool (cY I q (by simp))
  |int j=>obtain⟨t',rfl⟩:=ry;exact PySem.EqMixed.eq_str_int (cY I q (by simp))
  |str j=>obtain⟨t',rfl⟩:=ry;exact eq_str (cY I q Ia)
  |_=>exact absurd (show false=true from hs) Bool.false_ne_true
 |byt i=>
  obtain⟨t,rfl⟩:=rx
  cases y with
  |byt j=>obtain⟨t',rfl⟩:=ry;exact W.eq_bytes (cY I q Ic)
  |_=>exact absurd (show false=true from hs) Bool.false_ne_true
 |_=>cases y<;>exact absurd (show false=true from hs) Bool.false_ne_true
theorem oQ:OpR X (compareOp .NotEq) rNe:=by
 intro pins s σ H x y v u Q I rx ry h;obtain⟨hs,q⟩:=h
 cases x with
 |non=>
  cases rx
  cases y with
  |non=>cases ry;exact PySem.EqNone.ne_none_none (cY I q (by simp))
  |bl j=>cases ry;exact PySem.EqNone.ne_none_bool (cY I q (by simp))
  |int j=>obtain⟨t',rfl⟩:=ry;exact PySem.EqNone.ne_none_int (cY I q (by simp))
  |str j=>obtain⟨t',rfl⟩:=ry;exact PySem.EqNone.ne_none_str (cY I q (by simp))
  |_=>exact absurd (show false=true from hs) Bool.false_ne_true
 |bl i=>
  cases rx
  cases y with
  |non=>cases ry;exact PySem.EqNone.ne_bool_none (cY I q (by simp))
  |bl j=>cases ry;exact ne_bool (cY I q (congrArg not Qi))
  |str j=>obtain⟨t',rfl⟩:=ry;exact PySem.EqMixed.ne_bool_str (cY I q (by simp))
  |_=>exact absurd (show false=true from hs) Bool.false_ne_true
 |int i=>
  obtain⟨t,rfl⟩:=rx
  cases y with
  |non=>cases ry;exact PySem.EqNone.ne_int_none (cY I q (by simp))
  |int j=>obtain⟨t',rfl⟩:=ry;exact ne_int (cY I q (congrArg not Kg))
  |str j=>obtain⟨t',rfl⟩:=ry;exact PySem.EqMixed.ne_int_str (cY I q (by simp))
  |_=>exact absurd (show false=true from hs) Bool.false_ne_true
 |str i=>
  obtain⟨t,rfl⟩:=rx
  cases y with
  |non=>cases ry;exact PySem.EqNone.ne_str_none (cY I q (by simp))
  |bl j=>cases ry;exact PySem.EqMixed.ne_str_bool (cY I q (by simp))
  |int j=>obtain⟨t',rfl⟩:=ry;exact PySem.EqMixed.ne_str_int (cY I q (by simp))
  |str j=>obtain⟨t',rfl⟩:=ry;exact ne_str (cY I q (congrArg not Ia))
  |_=>exact absurd (show false=true from hs) Bool.false_ne_true
 |byt i=>
  obtain⟨t,rfl⟩:=rx
  cases y with
  |byt j=>obtain⟨t',rfl⟩:=ry;exact W.ne_bytes (cY I q (congrArg not Ic))
  |_=>exact absurd (show false=true from hs) Bool.false_ne_true
 |_=>cases y<;>exact absurd (show false=true from hs) Bool.false_ne_true
theorem yT:OpR X (compareOp .Lt) (rI0 fun i j=>.bl (decide (i < j))):=Ym fun _ _ _ _ _ _ _ q=>lt_int q
theorem Jh:OpR X (compareOp .Gt) (rI0 fun i j=>.bl (decide (j < i))):=Ym fun _ _ _ _ _ _ _ q=>gt_int q
theorem Mu:OpR X (compareOp .GtE) (rI0 fun i j=>.bl (decide (j<=i))):=Ym fun _ _ _ _ _ _ _ q=>ge_int q
theorem bH (b:Expr)(h:op≠.In:=by decide)(h2:op≠.NotIn:=by decide):behindInMarks op b=false:=by
 have e1:(op == CmpOp.In)=false:=by cases op<;>first | rfl | exact absurd rfl h
 have e2:(op == CmpOp.NotIn)=false:=by cases op<;>first | rfl | exact absurd rfl h2
 cases b<;>simp[behindInMarks,e1,e2]
theorem gB (ho:OpR X (compareOp op) r)(ha:PE X a ta)(hb:PE X b tb)(hm:behindInMarks op b=false):PE X (.Compare a [op] [b] pos) (tOp r ta tb):=by
 intro pins s σ H Q I h;exact wpAny_Compare1 (qb3 ha hb I h fun v u s2 x y H2 I2 rx ry q=>ho pins s2 σ H2 x y v u Q I2 rx ry q) hm
def ql7 (t:TE):TT:=fun σ H Q=>t σ H fun x H'=>BlT x fun k=>Q k H'
theorem bA (ho:OpR X (compareOp op) r)(ha:PE X a ta)(hb:PE X b tb)(hm:behindInMarks op b=false):PT X (.Compare a [op] [b] pos) (ql7 (tOp r ta tb)):=by
 intro pins s σ H Q I h;refine wpAny_isTrue_Compare1 (thn (ha pins s σ H _ I h) fun v s1 ⟨x,H1,I1,r1,q1⟩=>thn (hb pins s1 σ H1 _ I1 q1) fun u s2 ⟨y,H2,I2,r2,q2⟩=>
  thn (ho pins s2 σ H2 x y v u _ I2 r1 r2 q2) fun c s3 ⟨z,H3,I3,r3,k,e,q3⟩=>?_) hm
 subst e
 cases r3
 exact wpAny_truthy_bool ⟨H3,I3,q3⟩
theorem Au:(sizeLine:Nat) < 2 ^ 63:=by rw[sizeLine_eq];decide
theorem xZ (r:bV [x] us):∃u,us=[u]/\cC x u:=by
 cases r with
 |cons r1 r2=>cases r2;exact⟨_,rfl,r1⟩
theorem Ih (r:bV [x,y] us):∃u w',us=[u,w']/\cC x u/\cC y w':=by
 cases r with
 |cons r1 r2=>
  cases r2 with
  |cons r3 r4=>cases r4;exact⟨_,_,rfl,r1,r3⟩
theorem vC:kL X (.builtin "abs") (fun xs H Q=>∃i,xs=[.int i]/\Q (.int (if i < 0 then -i else i)) H):=by
 intro pins s σ H xs us Q I r h;obtain⟨i,rfl,q⟩:=h;obtain⟨u,rfl,t,rfl⟩:=xZ r;exact call_abs_int fun u tk=>⟨.int (if i < 0 then -i else i),H,I.tok _,⟨_,rfl⟩,q⟩
end
structure Gm (h:Heap) (x dx C:Addr) (mA:Str->Option Value):Prop where
 obj:h.get? x=some (W.instObj C dx)
 ns:h.Ns1 dx mA
 ne:dx≠x
theorem qQ {h:Heap}(n:h.Ns1 dx mA):∃od,h.get? dx=some od/\∀name,W.lookIn name od=some (mA name):=by
 obtain⟨o,es,ep,ho,hd,hk,_,hm⟩:=n;refine⟨o,ho,fun name=>?_⟩;have e:=hm name;unfold nsFind findBy at e;rw[<- Array.find?_toList] at e;unfold W.lookIn;rw[hd];dsimp only;split
 ·rename_i y q
  rw[q] at e;exact congrArg some e
 ·rename_i q
  rw[q] at e;have a:es.toList.any (·.refKey)=false:=by
   rw[any_eq_false];intro y hy;obtain⟨z,t,hkey⟩:=hk y (Array.mem_toList_iff.mp hy);simp[DictEntry.refKey,hkey]
  have a':¬es.toList.any (·.refKey)=true:=by rw[a];exact Bool.false_ne_true
  rw[if_neg a'];exact congrArg some e
theorem Gm.look (I:Gm h x dx C mA):∃od,W.InstAt h x (W.instObj C dx) C (some od)/\∀name,W.lookIn name od=some (mA name):=
 let ⟨od,ho,hl⟩:=qQ I.ns
 ⟨od,⟨I.obj,rfl,rfl,ho⟩,hl⟩
section
variable {prog:Program} {w:World} {A:Around} {E:Value->Shared->Prop} {s:Shared} {K:Frag} {x dx C f:Addr} {mA:Str->Option Value} {name:Str} {v:Value}
theorem Wl (X:K.In s.heap)(I:Gm s.heap x dx C mA)(hg:W.plainGet K C name=true)(hh:W.hasDictIn K C=true)(ha:W.findIn K (.ref C) name=some none)(hv:mA name=some v)(hv':W.handedIn v=true)(h:Q v { s with toks:=s.toks+1 }):
  wpAny (model prog w) A (getAttr (.ref x) name expr) Q E s:=by
 obtain⟨od,J,hl⟩:=I.look;exact W.get_value X J (W.plainGet_of hg).1 (W.findObj_own hh ha rfl (by rw[hl,hv])) hv' h
theorem Rv (X:K.In s.heap)(I:Gm s.heap x dx C mA)(hg:W.plainGet K C name=true)(hf:W.findIn K (.ref C) name=some (some (.ref f)))(ht:W.isFn K (.ref f)=true)(hv:mA name=none)(h:Q (.ref f,[.ref x]) s):
  wpAny (model prog w) A (getMethod (.ref x) name pl) Q E s:=by
 obtain⟨od,J,hl⟩:=I.look;exact W.method_fn X J (W.plainGet_of hg).1 (W.plainGet_of hg).2 hf (beq_iff_eq.mp ht) (by show (W.lookIn name od).map (·.isSome)=some false;rw[hl,hv];rfl) h
theorem Uh (X:K.In s.heap)(I:Gm s.heap x dx C mA)(hs:W.findIn K (.ref C) "__setattr__"=some (some (.builtin "object.__setattr__")))(hp:W.plainOver K C=true)(ht:W.takerIn K C name=some none)(hh:W.hasDictIn K C=true)(hw:PySem.Within mA ns)(hsz:ns.length<=sizeLine)(h:∀h',Gm h' x dx C (fun y=>if y=name then some v else mA y)->Heap.SameBut dx s.heap h'->Q () { s with heap:=h',toks:=s.toks+2 }):
  wpAny (model prog w) A (setAttr (.ref x) name v) Q E s:=by
 obtain⟨od,J,hl⟩:=I.look;refine W.set_plain X J hs (W.osa_open (s:={ s with toks:=s.toks+1 }) (r:=none) X J hp ht fun b=>?_);obtain⟨cd,hc,hd'⟩:=W.any_some hh;have hx:s.heap.get? x=some ⟨.ref C,some dx,.plain,#[]⟩:=I.obj;refine wpAny_bind (wpAny_pure (wpAny_bind (wpAny_bind (wpAny_loadPart hx (wpAny_bind (W.Looks.here (s:={ s with toks:=s.toks+1 }) (W.looks_clsIn X hc) ?_))))));rw[hd'];refine wpAny_pure (a:=some dx) (wpAny_bind (wpAny_pure (wpAny_bind ?_)));refine wpAny_nsSet1 (s:={ s with toks:=s.toks+1 }) I.ns fun h' hn2 hs2=>?_;obtain⟨oD,esD,epD,hoD,hdD,hcD⟩:=hn2.count (PySem.Within.cons name v hw);refine wpAny_bind (wpAny_lookBehind hoD (by rw[hdD];exact pastItsLine_dict (Nat.le_trans hcD (by rw[length_cons];lia))) ?_);exact wpAny_pure (h _ ⟨(hs2.2 _ (Ne.symm I.ne)).trans I.obj,hn2,I.ne⟩ hs2)
theorem Dq (X:K.In s.heap)(hm:W.makesIn K C=true)(hi:W.findIn K (.ref C) "__init__"=some (some (.ref f)))(hf:W.typeIn K (.ref f)=some (.type "function"))(h:codeAny (model prog w) (A.under (.builtin "type.__call__" ⟨.ref C :: vs,kw⟩)) (.call (.ref f) ⟨.ref (s.heap.objs.size+1) :: vs,kw⟩) (W.InitBack (s.heap.objs.size+1) R)
   { s with heap:=(s.heap.push W.emptyDict).push (W.instObj C s.heap.objs.size) }):
  codeAny (model prog w) A (.call (.ref C) ⟨vs,kw⟩) R s:=by
 obtain⟨hh,g,d,t,os⟩:=s;exact W.make_core (W.makes_of X hm) (W.looks_findIn X hi) (fun self=>W.bind_fn X self hf) (.inl rfl) h
end
def dB (f:Str)(v:V):List (Str × V)->List (Str × V)
 | []=>[(f,v)]
 | (g,x) :: r=>if g=f then (g,v) :: r else (g,x) :: dB f v r
theorem bN (f g:Str)(v:V):∀fs:List (Str × V),(dB f v fs).lookup g=if g=f then some v else fs.lookup g
 | []=>by
  show List.lookup g [(f,v)]=_
  by_cases h:g=f
  ·have hb:(g == f)=true:=beq_iff_eq.mpr h;simp only[List.lookup,hb,if_pos h]
  ·have hb:(g == f)=false:=beq_eq_false_iff_ne.mpr h;simp only[List.lookup,hb,if_neg h]
 | (k,x) :: r=>by
  have ih:=bN f g v r;rw[show dB f v ((k,x) :: r)=(if k=f then (k,v) :: r else (k,x) :: dB f v r) from rfl]
  by_cases hk:k=f
  ·rw[if_pos hk]
   by_cases h:g=k
   ·have hb:(g == k)=true:=beq_iff_eq.mpr h;simp only[List.lookup,hb,if_pos (h.trans hk)]
   ·have hb:(g == k)=false:=beq_eq_false_iff_ne.mpr h;simp only[List.lookup,hb,if_neg (fun e:g=f=>h (e.trans hk.symm))]
  ·rw[if_neg hk]
   by_cases h:g=k
   ·have hb:(g == k)=true:=beq_iff_eq.mpr h;simp only[List.lookup,hb,if_neg (fun e:g=f=>hk (h.symm.trans e))]
   ·have hb:(g == k)=false:=beq_eq_false_iff_ne.mpr h;simp only[List.lookup,hb];exact ih
theorem rQ (f:Str)(v:V):∀fs:List (Str × V),f∈(dB f v fs).map (·.1)/\∀g,g∈fs.map (·.1)->g∈(dB f v fs).map (·.1)
 | []=>⟨by simp[dB],fun g h=>by simp at h⟩
 | (k,x) :: r=>by
  obtain⟨i1,i2⟩:=rQ f v r;rw[show dB f v ((k,x) :: r)=(if k=f then (k,v) :: r else (k,x) :: dB f v r) from rfl]
  by_cases hk:k=f
  ·rw[if_pos hk];subst hk;exact⟨by simp,fun g h=>by simpa using h⟩
  ·rw[if_neg hk];refine⟨?_,fun g h=>?_⟩
   ·rw[map_cons];exact mem_cons_of_mem _ i1
   ·rw[map_cons] at h ⊢;rcases mem_cons.mp h with e | e
    ·exact mem_cons.mpr (.inl e)
    ·exact mem_cons_of_mem _ (i2 g e)
theorem dP (f:Str)(v:V):∀fs:List (Str × V),(dB f v fs).length<=fs.length+1
 | []=>by simp[dB]
 | (k,x) :: r=>by
  have ih:=dP f v r;rw[show dB f v ((k,x) :: r)=(if k=f then (k,v) :: r else (k,x) :: dB f v r) from rfl]
  by_cases hk:k=f
  ·rw[if_pos hk,length_cons,length_cons];lia
  ·rw[if_neg hk,length_cons,length_cons];lia
theorem jY.some_of (r:jY (some v) o):∃u,o=some u/\cC v u:=by
 cases o with
 |none=>exact(show False from r).elim
 |some u=>exact⟨u,rfl,r⟩
theorem jY.none_of (r:jY none o):o=none:=by
 cases o with
 |none=>rfl
 |some u=>exact(show False from r).elim
theorem yA (r:cC v u):W.handedIn u=true:=by
 cases v with
 |non=>cases (show u=Value.none from r);rfl
 |bl b=>cases (show u=Value.bool b from r);rfl
 |int i=>obtain⟨t,e⟩:=(show ∃t,u=Value.int i t from r);cases e;rfl
 |str x=>obtain⟨t,e⟩:=(show ∃t,u=Value.str x t from r);cases e;rfl
 |byt b=>obtain⟨t,e⟩:=(show ∃t,u=Value.bytes b t from r);cases e;rfl
 |flt b=>obtain⟨t,e⟩:=(show ∃t,u=Value.float b t from r);cases e;rfl
 |ref a=>cases (show u=Value.ref a from r);rfl
 |ty n=>cases (show u=Value.type n from r);rfl
section
variable {P:Program} {w:World} {H H':Hp} {h h':Heap} {a C dx:Addr} {fs fs':List (Str × V)}
theorem sV (hok:HOk P w H h)(e:H a=some (.ins C dx fs)):∃mA,Gm h a dx C mA/\(∀f,jY (fs.lookup f) (mA f))/\PySem.Within mA (fs.map (·.1))/\fs.length<=1000/\H dx=some (.own a):=by
 obtain⟨d,z,ne,ob,mA,n,r,q⟩:=(show cN P w H h a (.ins C dx fs) from hok a _ e)
 exact⟨mA,⟨ob,n,ne⟩,r,q,z,d⟩
end
structure Cls (K:Frag) (C:Addr):Prop where
 pg:W.plainGet K C Str.empty=true
 hd:W.hasDictIn K C=true
 po:W.plainOver K C=true
 sa:W.findIn K (.ref C) "__setattr__"=some (some (.builtin "object.__setattr__"))
theorem Cls.get {K:Frag}(c:Cls K C)(f:Str):W.plainGet K C f=true:=c.pg
def gG (K:Frag)(C:Addr)(f:Str):Prop:=W.findIn K (.ref C) f=some none
theorem gG.taker {K:Frag}(n:gG K C f):W.takerIn K C f=some none:=by
 unfold W.takerIn;rw[show W.findIn K (.ref C) f=some none from n];rfl
structure fM (K:Frag) (C:Addr) (m:Str) (f:Addr):Prop where
 at_:W.findIn K (.ref C) m=some (some (.ref f))
 fn:W.isFn K (.ref f)=true
 kp:W.keepIn K (.ref f)=true
section
variable {X:Cx} {pins:List (Addr × Obj)} {σ:St} {H:Hp} {s:Shared} {a C dx:Addr} {fs:List (Str × V)} {f:Str} {v:V} {A:Around} {E:Value->Shared->Prop}
theorem Hi (I:Inv X pins σ H s)(e:H a=some (.ins C dx fs))(c:Cls X.K C)(n:gG X.K C f)(l:fs.lookup f=some v)(h:∀u s',Inv X pins σ H s'->cC v u->Q u s'):wpAny (model X.prog X.w) A (getAttr (.ref a) f b) Q E s:=by
 obtain⟨mA,O,r,_,_,_⟩:=sV I.hok e;obtain⟨u,hu,ru⟩:=jY.some_of (v:=v) (o:=mA f) (by rw[<- l];exact r f);exact Wl I.kIn O (c.get f) c.hd n hu (yA ru) (h u _ (I.tok _) ru)
theorem lM (I:Inv X pins σ H s)(e:H a=some (.ins C dx fs))(c:Cls X.K C)(k:fM X.K C m g)(l:fs.lookup m=none)(h:Q (.ref g,[.ref a]) s):wpAny (model X.prog X.w) A (getMethod (.ref a) m pl) Q E s:=by
 obtain⟨mA,O,r,_,_,_⟩:=sV I.hok e;have hn:mA m=none:=jY.none_of (by rw[<- l];exact r m);exact Rv I.kIn O (c.get m) k.at_ k.fn hn h
theorem Gz (I:Inv X pins σ H s)(e:H a=some (.ins C dx fs))(c:Cls X.K C)(n:gG X.K C f)(hl:fs.length < 1000)(ry:cC y u)(h:∀s',Inv X pins σ (upd H a (.ins C dx (dB f y fs))) s'->Q () s'):wpAny (model X.prog X.w) A (setAttr (.ref a) f u) Q E s:=by
 obtain⟨mA,O,r,wi,_,ho⟩:=sV I.hok e;have hz:(fs.map (·.1)).length<=sizeLine:=by rw[length_map,sizeLine_eq];lia
 refine Uh I.kIn O c.sa c.po n.taker c.hd wi hz fun h' O' sb=>h _ ?_;have hd:∃o,h'.get? dx=some o:=let ⟨o,_,_,e',_⟩:=O'.ns;⟨o,e'⟩
 refine I.write (x:=a) (e:=dx) (by rw[e];exact True.intro) (.inr ho) (fun b q hb z=>(sb.2 b hb).trans z) hd ?_;refine⟨by rw[aQ O.ne];exact ho,?_,O.ne,O'.obj,_,O'.ns,fun g=>?_,fun g hg=>?_⟩
 ·have:=dP f y fs;lia
 ·show jY ((dB f y fs).lookup g) (if g=f then some u else mA g);rw[bN]
  by_cases q:g=f
  ·rw[if_pos q,if_pos q];exact ry
  ·rw[if_neg q,if_neg q];exact r g
 ·by_cases q:g=f
  ·rw[q];exact(rQ f y fs).1
  ·refine(rQ f y fs).2 g (wi g fun z=>hg ?_);show (if g=f then some u else mA g)=none;rw[if_neg q];exact z
theorem Inv.made (I:Inv X pins σ H s):Inv X pins σ (upd (upd H s.heap.objs.size (.own (s.heap.objs.size+1))) (s.heap.objs.size+1) (.ins C s.heap.objs.size []))
  { s with heap:=(s.heap.push W.emptyDict).push (W.instObj C s.heap.objs.size) }:=by
 have e1:(s.heap.push W.emptyDict).get? s.heap.objs.size=some W.emptyDict:=Heap.get?_push_size s.heap rfl;have e2:((s.heap.push W.emptyDict).push (W.instObj C s.heap.objs.size)).get? (s.heap.objs.size+1)=some (W.instObj C s.heap.objs.size):=by
  have:=Heap.get?_push_size (s.heap.push W.emptyDict) (o:=W.instObj C s.heap.objs.size) rfl
  rwa [Heap.size_push] at this
 have e3:(s.heap.push W.emptyDict).Ns s.heap.objs.size (fun _=>none):=⟨W.emptyDict,#[],_,e1,rfl,(fun e he=>absurd he (by simp)),fun _=>rfl⟩
 have I1:=I.laid (a:=s.heap.objs.size) (o:=.own (s.heap.objs.size+1)) (h':=s.heap.push W.emptyDict) (t':=s.toks) (fun b u q=>Heap.get?_push_of_some _ q) (Nat.le_refl _) ⟨_,e1⟩;refine I1.laid (a:=s.heap.objs.size+1) (o:=.ins C s.heap.objs.size []) (t':=s.toks) (fun b u q=>Heap.get?_push_of_some _ q) (Nat.le_of_eq (Heap.size_push _ _)) ?_;have ne:s.heap.objs.size≠s.heap.objs.size+1:=Nat.ne_of_lt (Nat.lt_succ_self _);refine⟨by rw[aQ ne,aB],Nat.zero_le _,ne,e2,fun _=>none,(Heap.Ns1.of_empty e3).at fun o q=>Heap.get?_push_of_some _ q,fun _=>True.intro,fun y hy=>absurd rfl hy⟩
theorem Jg (hb:attributeBase e f env (eval e env)=eval e env)(h:wpAny (model prog w) A (eval e env) (fun o s₁=>wpAny (model prog w) A (getAttr o f true) Q E s₁) E s):wpAny (model prog w) A (eval (.Attribute e f pos) env) Q E s:=
 Attribute_any_ h (by rw[arm_eval_Attribute,hb])
end
inductive Ww (K:Frag) (f:Str) (Q:VK) (x:V) (H1:Hp):Prop where
 |mk (a C dx fs v):x=.ref a->H1 a=some (.ins C dx fs)->Cls K C->gG K C f->fs.lookup f=some v->Q v H1->Ww K f Q x H1
def qj5 (K:Frag)(ta:TE)(f:Str):TE:=fun σ H Q=>ta σ H fun x H1=>Ww K f Q x H1
inductive Wz (K:Frag) (f:Str) (D:kE) (σ:St) (x:V) (H2:Hp) (y:V):Prop where
 |mk (a C dx fs):x=.ref a->H2 a=some (.ins C dx fs)->Cls K C->gG K C f->fs.length < 1000->D.nx σ (upd H2 a (.ins C dx (dB f y fs)))->Wz K f D σ x H2 y
def qn1 (K:Frag)(ta tv:TE)(f:Str):TS:=fun D σ H=>tv σ H fun y H1=>ta σ H1 fun x H2=>Wz K f D σ x H2 y
section
variable {X:Cx} {o e value:Expr} {f:Str} {pos pos' tpos:Pos} {ta tv:TE}
theorem bZ (he:PE X e ta)(hb:attributeBase e f X.env (eval e X.env)=eval e X.env):PE X (.Attribute e f pos) (qj5 X.K ta f):=by
 intro pins s σ H Q I h;refine Jg hb (thn (he pins s σ H _ I h) fun u s1 ⟨x,H1,I1,rx,a,C,dx,fs,v,ex,ea,c,n,l,q⟩=>?_);subst ex;obtain rfl:u=Value.ref a:=rx;exact Hi I1 ea c n l fun u' s2 I2 ru=>⟨v,H1,I2,ru,q⟩
theorem jE (ha:PE X o ta)(hv:PE X value tv)(hs:swapsWith value (some (.Attribute o f pos')) pos.line X.env=pure false):PS X (.Assign [.Attribute o f pos'] value pos) (qn1 X.K ta tv f):=by
 intro pins s σ H D I h;refine plainObj_wpAny_Assign_Attribute (thn (hv pins s σ H _ I h) fun u s1 ⟨y,H1,I1,ry,q⟩=>thn (ha pins s1 σ H1 _ I1 q) fun ov s2 ⟨x,H2,I2,rx,a,C,dx,fs,ex,ea,c,n,l,q2⟩=>?_) hs;subst ex;obtain rfl:ov=Value.ref a:=rx;exact Gz I2 ea c n l ry fun s3 I3=>⟨σ,_,I3,q2⟩
end
section
variable {X:Cx} {pins:List (Addr × Obj)} {σ:St} {H:Hp} {s:Shared} {A:Around} {E:Value->Shared->Prop} {Q:Value->Shared->Prop} {c:Value} {b:Bool}
inductive kD (K:Frag) (H:Hp):V->Value->Prop where
 |non:kD K H .non (.type "NoneType")
 |bl (x:Bool):kD K H (.bl x) (.type "bool")
 |int (i:Int):kD K H (.int i) (.type "int")
 |str (x:Str):kD K H (.str x) (.type "str")
 |flt (x:UInt64):kD K H (.flt x) (.type "float")
 |lst {a:Addr} {xs:List V} (e:H a=some (.lst xs)):kD K H (.ref a) (.type "list")
 |frz {a:Addr} {o:Obj} {xs:List V} (e:H a=some (.frz o (.lst xs))):kD K H (.ref a) (.type "list")
 |tup {a:Addr} {xs:List V} (e:H a=some (.tup xs)):kD K H (.ref a) (.type "tuple")
 |dK {a:Addr} {kvs:List (Key × V)} (e:H a=some (.dK kvs)):kD K H (.ref a) (.type "dict")
 |dT {a:Addr} {kvs:List (List Key × V)} (e:H a=some (.dT kvs)):kD K H (.ref a) (.type "dict")
 |ins {a C dx:Addr} {fs:List (Str × V)} (e:H a=some (.ins C dx fs)) (cl:Cls K C) (ha:W.findIn K (.ref C) "__class__"=some (some (.builtin "object.__class__")))
   (hn:W.specialIn K (.builtin "object.__class__") "__get__"=some (some (.builtin "getset_descriptor.__get__"))) (htk:W.takesIn K (.builtin "object.__class__")=some true)
   (hm:W.mroIn K C (.type "object")=some true):kD K H (.ref a) (.ref C)
theorem Ma (I:Inv X pins σ H s)(rx:cC x u)(ty:kD X.K H x t)(e:W.kitOne X.K t c=some b)(h:∀tk,Q (.bool b) { s with toks:=tk }):
  wpAny (model X.prog X.w) A (call (.builtin "isinstance") [u,c]) Q E s:=by
 cases ty with
 |non=>cases (show u=Value.none from rx);exact W.kia_one W.kitx_none I.kIn True.intro e (fun z=>nomatch z) h
 |bl y=>cases (show u=Value.bool y from rx);exact W.kia_one W.kitx_bool I.kIn True.intro e (fun z=>nomatch z) h
 |int i=>obtain⟨t,q⟩:=(show ∃t,u=Value.int i t from rx);cases q;exact W.kia_one W.kitx_int I.kIn True.intro e (fun z=>nomatch z) h
 |str y=>obtain⟨t,q⟩:=(show ∃t,u=Value.str y t from rx);cases q;exact W.kia_one W.kitx_str I.kIn True.intro e (fun z=>nomatch z) h
 |flt y=>obtain⟨t,q⟩:=(show ∃t,u=Value.float y t from rx);cases q;exact W.kia_one W.kitx_float I.kIn True.intro e (fun z=>nomatch z) h
 | @lst a xs ea=>
  cases (show u=Value.ref a from rx)
  obtain⟨_,_,n,_,h1⟩:=(show cN X.prog X.w H s.heap a (.lst xs) from I.hok a _ ea)
  exact W.kia_one W.kitx_list I.kIn ⟨_,h1,rfl⟩ e (fun z=>nomatch z) h
 | @frz a ob xs ea=>
  cases (show u=Value.ref a from rx)
  obtain⟨_,_,_,n,_,h1⟩:=(show cN X.prog X.w H s.heap a (.frz ob (.lst xs)) from I.hok a _ ea)
  exact W.kia_one W.kitx_list I.kIn ⟨_,h1,rfl⟩ e (fun z=>nomatch z) h
 | @tup a xs ea=>
  cases (show u=Value.ref a from rx)
  obtain⟨_,_,_,p⟩:=(show cN X.prog X.w H s.heap a (.tup xs) from I.hok a _ ea)
  obtain⟨o,h1,h2,_⟩:=p;exact W.kia_one W.kitx_tuple I.kIn ⟨o,h1,h2⟩ e (fun z=>nomatch z) h
 | @dK a kvs ea=>
  cases (show u=Value.ref a from rx)
  obtain⟨_,_,vs,_,p⟩:=(show cN X.prog X.w H s.heap a (.dK kvs) from I.hok a _ ea)
  obtain⟨o,es,ep,h1,h2,_⟩:=p;exact W.kia_one W.kitx_dict I.kIn ⟨o,h1,h2.1⟩ e (fun z=>nomatch z) h
 | @dT a kvs ea=>
  cases (show u=Value.ref a from rx)
  obtain⟨_,_,xs,_,o,es,ep,h1,h2,_⟩:=(show cN X.prog X.w H s.heap a (.dT kvs) from I.hok a _ ea)
  exact W.kia_one W.kitx_dict I.kIn ⟨o,h1,h2.1⟩ e (fun z=>nomatch z) h
 | @ins a C dx fs ea cl ha hn htk hm=>
  cases (show u=Value.ref a from rx)
  obtain⟨mA,O,_⟩:=sV I.hok ea;obtain⟨od,J,_⟩:=O.look;exact W.kia_one (W.kitx_own (cl.get _) cl.hd ha hn htk hm) I.kIn J e (fun z=>nomatch z) h
end
structure gH (k:Nat) (A:Around):Prop where
 hd:A.handled=none
 dp:A.depth+3*k+5 < recursionLimit
 un:A.units+16*k+200 < cLine
theorem gH.mono (r:gH k A)(h:j<=k):gH j A:=⟨r.hd,by have:=r.dp;lia,by have:=r.un;lia⟩
theorem gH.deeper (r:gH (k+1) A)(env:Env):gH k (A.deeper env):=
 ⟨r.hd,by have:=r.dp;show A.depth+1+3*k+5 < _;lia,by have:=r.un;show A.units+3+16*k+200 < _;lia⟩
theorem Et {A:Around}:(A.under (.builtin "type.__call__" ⟨.ref C :: us,kw⟩)).depth=A.depth+1:=by
 first | rfl | simp[Around.under,Code.weight,Code.isCreation,Code.isGuard,Code.isCaller,Code.frames,Code.isFrame,guardIds]
theorem Gr {A:Around}:(A.under (.builtin "type.__call__" ⟨.ref C :: us,kw⟩)).units=A.units+1:=by
 first | rfl | simp[Around.under,Code.cUnits,Code.frames,Code.isFrame]
theorem gH.make (r:gH (k+1) A)(C:Addr)(us:List Value)(kw:List (Str × Value)):gH k (A.under (.builtin "type.__call__" ⟨.ref C :: us,kw⟩)):=
 ⟨r.hd,by have:=r.dp;rw[Et];lia,by have:=r.un;rw[Gr];lia⟩
theorem gH.depth (r:gH k A):A.depth < recursionLimit:=by have:=r.dp;lia
theorem gH.units (r:gH k A):A.units+64 < cLine:=by have:=r.un;lia
def Zy:TA:=fun _ H Q=>Q [] H
def qh4 (ta:TE)(tr:TA):TA:=fun σ H Q=>ta σ H fun x H1=>tr σ H1 fun xs H2=>Q (x :: xs) H2
section
variable {X:Cx} {e:Expr} {es:List Expr} {te:TE} {t:TA} {pos:Pos}
theorem aC:PA X [] Zy:=fun _ _ _ _ H Q I h=>Calls.spliced_nil ⟨[],H,I,.nil,h⟩
theorem aA (ha:PE X e te)(hr:PA X es t)(hs:starEach (e :: es) X.env=(false,eval e X.env) :: starEach es X.env:=by rfl):PA X (e :: es) (qh4 te t):=by
 intro pos pins s σ H Q I h;rw[hs];show wpAny _ _ (spliced ((false,eval e X.env) :: backTo pos (starEach es X.env))) _ _ s;refine Calls.spliced_cons (thn (ha pins s σ H _ I h) fun u s1 ⟨x,H1,I1,r1,q1⟩=>?_);exact thn (hr pos pins s1 σ H1 _ I1 q1) fun us s2 ⟨xs,H2,I2,r2,q2⟩=>⟨x :: xs,H2,I2,.cons r1 r2,q2⟩
def qp3 (t:TA):TE:=fun σ H Q=>t σ H fun xs H1=>xs.length<=sizeLine/\∀p,H1 p=none->Q (.ref p) (upd H1 p (.tup xs))
def qn5 (t:TA):TE:=fun σ H Q=>t σ H fun xs H1=>xs.length<=sizeLine/\∀p,H1 p=none->Q (.ref p) (upd H1 p (.lst xs))
theorem cS {x1}(h:PA X es t):PE X (.Tuple es x1 pos) (qp3 t):=by
 intro pins s σ H Q I hq;refine wpAny_Tuple_spliced (thn (h pos pins s σ H _ I hq) fun us s1 ⟨xs,H1,I1,r,z,q⟩=>⟨by rw[<- r.length];exact z,?_⟩);have hf:H1 s1.heap.objs.size=none:=I1.hok.fresh (Nat.le_refl _);refine⟨.ref s1.heap.objs.size,upd H1 s1.heap.objs.size (.tup xs),I1.laid (t':=s1.toks) (fun b u e=>Heap.get?_push_of_some _ e) (Nat.le_refl _) ?_,rfl,q _ hf⟩;exact⟨z,us,r,⟨_,Heap.get?_push_size _ rfl,rfl,_,rfl⟩⟩
theorem cB (h:PA X es t):PE X (.List es pos) (qn5 t):=by
 intro pins s σ H Q I hq;refine wpAny_List_spliced (thn (h pos pins s σ H _ I hq) fun us s1 ⟨xs,H1,I1,r,z,q⟩=>⟨by rw[<- r.length];exact z,?_⟩);have hf:H1 s1.heap.objs.size=none:=I1.hok.fresh (Nat.le_refl _);refine⟨.ref s1.heap.objs.size,upd H1 s1.heap.objs.size (.lst xs),I1.laid (t':=s1.toks) (fun b u e=>Heap.get?_push_of_some _ e) (Nat.le_refl _) ?_,rfl,q _ hf⟩;exact⟨z,us,0,r,Heap.get?_push_size _ rfl⟩
end
abbrev Sp:=List V->Hp->VK->XK->Prop
abbrev CXT:=List Env->Hp->Shared->XK->Value->Shared->Prop
structure Hc (P:Program) (w:World) (K:Frag) (mg:Str->Option Value) (base:Heap) (A:Around) (outer:List Env) (s:Shared) (H:Hp):Prop where
 frames:A.frames=some outer
 mod:Mod K mg base
 bs:∀b o,base.get? b=some o->s.heap.get? b=some o/\H b=none
 bsz:base.objs.size<=s.heap.objs.size
 funs:s.heap.FunFrames base outer
 frf:∀b∈frs outer,H b=none
 hok:HOk P w H s.heap
 bare:AllBare s.gens
def CE (outer:List Env)(P:Program)(w:World)(H:Hp)(s:Shared)(Q:VK)(u:Value)(s':Shared):Prop:=
 ∃v H',s'.os=s.os/\AllBare s'.gens/\Un (frs outer) [] H H' s.heap s'.heap/\HOk P w H' s'.heap/\cC v u/\Q v H'
def CR (CX:CXT)(outer:List Env)(P:Program)(w:World)(H:Hp)(s:Shared)(Q:VK)(E:XK)(r:Result)(s':Shared):Prop:=
 match r with
 | .ok (.ret u)=>CE outer P w H s Q u s'
 | .ok _=>False
 | .error e=>CX outer H s E e s'
structure aK (P:Program) (w:World) (K:Frag) (mg:Str->Option Value) (base:Heap) (CX:CXT) (k:Nat) (f:Addr) (fd:FuncData) (ps:List Str) (sp:Sp):Prop where
 len:∀vs H Q E,sp vs H Q E->vs.length=ps.length
 run:∀(A:Around) (outer:List Env) (s:Shared) (H:Hp) (args:Args) (us:List Value) (vs:List V) (Q:VK) (E:XK),gH k A->Hc P w K mg base A outer s H->BindsTo s fd args (ps.zip us)->bV vs us->sp vs H Q E->
  codeAny (model P w) A (.call (.ref f) args) (CR CX outer P w H s Q E) s
theorem Hc.make {K:Frag}(e:Hc P w K mg base A outer s H)(C:Addr)(us:List Value)(kw:List (Str × Value)):
  Hc P w K mg base (A.under (.builtin "type.__call__" ⟨.ref C :: us,kw⟩)) outer s H:=⟨by first | exact e.frames | (simpa[Around.under,Code.envs,Code.isFrame,pushEnvs] using e.frames),e.mod,e.bs,e.bsz,e.funs,e.frf,e.hok,e.bare⟩
section
variable {X:Cx} {pins:List (Addr × Obj)} {σ:St} {H:Hp} {s s':Shared}
theorem Inv.env0 (I:Inv X pins σ H s):Hc X.prog X.w X.K X.mg X.base X.A X.stack s H:=
 ⟨I.ok.frames,I.ok.mod,I.bs,Nat.le_trans I.ok.bsz I.sz,I.stack,I.stkFree,I.hok,I.bare⟩
theorem Inv.after (I:Inv X pins σ H s)(h:CE X.stack X.prog X.w H s Q u s'):EP X pins σ Q u s':=by
 obtain⟨v,H',os,bare,un,hok,r,q⟩:=h;obtain⟨hh,g,d,t,os'⟩:=s';obtain rfl:os'=s.os:=os;exact⟨v,H',I.call (h':=hh) (g':=g) (d':=d) (t':=t) (ch:=[]) un hok bare (fun b z=>absurd z (by simp)),r,q⟩
end
def qj1 (sp:Sp)(dvs:List V)(E:XK)(t:TA):TE:=fun σ H Q=>t σ H fun vs H1=>sp (vs++dvs) H1 Q E
inductive Oh (C:Addr) (m:Str) (sp:Sp) (dvs:List V) (E:XK) (t:TA) (σ:St) (Q:VK) (x:V) (H1:Hp):Prop where
 |mk (a dx fs):x=.ref a->H1 a=some (.ins C dx fs)->fs.lookup m=none->(t σ H1 fun vs H2=>sp (x :: (vs++dvs)) H2 Q E)->Oh C m sp dvs E t σ Q x H1
def Xf (C:Addr)(m:Str)(sp:Sp)(dvs:List V)(E:XK)(ta:TE)(t:TA):TE:=fun σ H Q=>ta σ H fun x H1=>Oh C m sp dvs E t σ Q x H1
def qh1 (C:Addr)(sp:Sp)(dvs:List V)(E:XK)(t:TA):TE:=fun σ H Q=>t σ H fun vs H1=>∀x dx,H1 x=none->H1 dx=none->dx≠x->
 sp (.ref x :: (vs++dvs)) (upd (upd H1 dx (.own x)) x (.ins C dx [])) (fun v H2=>v=.non/\Q (.ref x) H2) E
def aL (K:Frag)(fd:FuncData)(ps:List Str)(ds:List Value):Prop:=
 ∀(s:Shared) (us:List Value),K.In s.heap->(us++ds).length=ps.length->BindsTo s fd ⟨us,[]⟩ (ps.zip (us++ds))
theorem aL.all {K:Frag}(h:∀us:List Value,us.length=ps.length->bindArgs fd ⟨us,[]⟩=pure (ps.zip us)):aL K fd ps []:=fun s us _ hl=>by
 rw[append_nil] at hl ⊢;exact .of_eq (h us hl)
def jZ (CX:CXT)(X:Cx)(E:XK):Prop:=∀(pins:List (Addr × Obj)) (σ:St) (H:Hp) (s:Shared) (e:Value) (s':Shared),Inv X pins σ H s->CX X.stack H s E e s'->X.xe e s'
section
variable {X:Cx} {CX:CXT} {k:Nat} {f C:Addr} {fd:FuncData} {ps:List Str} {sp:Sp} {dvs:List V} {ds:List Value} {E:XK} {x m:Str} {p pos apos:Pos} {e o:Expr} {es:List Expr} {ta:TE} {t:TA}
theorem uL (F:aK X.prog X.w X.K X.mg X.base CX k f fd ps sp)(hr:gH k X.A)(hb:aL X.K fd ps ds)(hd:bV dvs ds)(hx:jZ CX X E)(I:Inv X pins σ H s)(r:bV vs us)(h:sp (vs++dvs) H Q E):wpAny (model X.prog X.w) X.A (call (.ref f) us) (EP X pins σ Q) X.xe s:=by
 have r2:bV (vs++dvs) (us++ds):=r.append hd;have hl:(us++ds).length=ps.length:=by rw[<- r2.length];exact F.len _ _ _ _ h
 refine wpAny_call (codeAny_mono (F.run X.A X.stack s H ⟨us,[]⟩ (us++ds) (vs++dvs) Q E hr I.env0 (hb s us I.kIn hl) r2 h) fun r s' hq=>?_)
 cases r with
 |error e=>exact hx pins σ H s e s' I hq
 |ok fl=>
  cases fl with
  |ret u=>exact I.after hq
  |next=>exact False.elim hq
  |brk=>exact False.elim hq
  |cont=>exact False.elim hq
theorem aI (F:aK X.prog X.w X.K X.mg X.base CX k f fd ps sp)(hr:gH k X.A)(hg:Gl X x)(hm:X.mg x=some (.ref f))(hk:W.keepIn X.K (.ref f)=true)(hb:aL X.K fd ps ds)(hd:bV dvs ds)(hx:jZ CX X E)(ha:PA X (e :: es) t)(hdb:(x == ("__debug__":Str))=false:=by decide)(he:starEach (e :: es) X.env=(false,eval e X.env) :: starEach es X.env:=by rfl)(hpl:(backTo pos (starEach es X.env)).any (·.1)=false:=by rfl) :
  PE X (.Call (.Name x p) (e :: es) [] pos) (qj1 sp dvs E t):=by
 intro pins s σ H Q I h;refine wpAny_Call_Name_kw (iG I hg hm ?_ hdb);refine W.callWith_K (h₀:=X.base) I.ok.mod.kin hk (thn (ha pos pins s σ H _ I h) fun us s1 ⟨vs,H1,I1,r,q⟩=>⟨I1.kIn,?_⟩) he hpl;exact uL F hr hb hd hx I1 r q
theorem Iy (he:PE X o ta)(c:Cls X.K C)(hm:fM X.K C m f)(F:aK X.prog X.w X.K X.mg X.base CX k f fd ps sp)(hr:gH k X.A)(hb:aL X.K fd ps ds)(hd:bV dvs ds)(hx:jZ CX X E)(ha:PA X (e :: es) t)(hst:starEach (e :: es) X.env=(false,eval e X.env) :: starEach es X.env:=by rfl)(hpl:(backTo pos (starEach es X.env)).any (·.1)=false:=by rfl)(ht:eval (.Call (.Attribute o m apos) (e :: es) [] pos) X.env=(do
   let ov <- eval o X.env
   standAt apos.atName
   let (f,first) <- holding [ov] (getMethod ov m pl)
   callWith pos f first (backTo pos (starEach (e :: es) X.env)) (backToKw pos (keywordEach [] X.env))):=by rfl):
  PE X (.Call (.Attribute o m apos) (e :: es) [] pos) (Xf C m sp dvs E ta t):=by
 intro pins s σ H Q I h;refine W.methodCall_KW (pl:=pl) (thn (he pins s σ H _ I h) fun u s1 ⟨x,H1,I1,rx,a,dx,fs,ex,ea,l,q⟩=>?_) ht;subst ex;obtain rfl:u=Value.ref a:=rx;refine lM I1 ea c hm l ?_;refine W.callWith_K (first:=[.ref a]) (h₀:=X.base) I.ok.mod.kin hm.kp (thn (ha pos pins s1 σ H1 _ I1 q) fun us s2 ⟨vs,H2,I2,r,q2⟩=>⟨I2.kIn,?_⟩) hst hpl;exact uL (us:=.ref a :: us) (vs:=.ref a :: vs) F hr hb hd hx I2 (.cons rfl r) q2
theorem dD (he:PE X o ta)(c:Cls X.K C)(hm:fM X.K C m f)(F:aK X.prog X.w X.K X.mg X.base CX k f fd ps sp)(hr:gH k X.A)(hb:aL X.K fd ps ds)(hd:bV dvs ds)(hx:jZ CX X E)(ht:eval (.Call (.Attribute o m apos) [] [] pos) X.env=(do
   let ov <- eval o X.env
   standAt apos.atName
   let (f,first) <- holding [ov] (getMethod ov m pl)
   callWith pos f first (backTo pos (starEach [] X.env)) (backToKw pos (keywordEach [] X.env))):=by rfl):
  PE X (.Call (.Attribute o m apos) [] [] pos) (Xf C m sp dvs E ta Zy):=by
 intro pins s σ H Q I h;refine W.methodCall_KW (pl:=pl) (thn (he pins s σ H _ I h) fun u s1 ⟨x,H1,I1,rx,a,dx,fs,ex,ea,l,q⟩=>?_) ht;subst ex;obtain rfl:u=Value.ref a:=rx;refine lM I1 ea c hm l ?_;exact W.callWith_K0 (first:=[.ref a]) I1.kIn hm.kp (uL (us:=[.ref a]) (vs:=[.ref a]) F hr hb hd hx I1 (.cons rfl .nil) q)
structure Mk (K:Frag) (C f:Addr):Prop where
 makes:W.makesIn K C=true
 init:W.findIn K (.ref C) "__init__"=some (some (.ref f))
 fn:W.isFn K (.ref f)=true
 kp:W.keepIn K (.ref C)=true
theorem Sr (M:Mk X.K C f)(F:aK X.prog X.w X.K X.mg X.base CX k f fd ps sp)(hr:gH (k+1) X.A)(hb:aL X.K fd ps ds)(hd:bV dvs ds)(hx:jZ CX X E)(I:Inv X pins σ H s)(r:bV vs us)(h:∀x dx,H x=none->H dx=none->dx≠x->sp (.ref x :: (vs++dvs)) (upd (upd H dx (.own x)) x (.ins C dx [])) (fun v H2=>v=.non/\Q (.ref x) H2) E):
  wpAny (model X.prog X.w) X.A (call (.ref C) us) (EP X pins σ Q) X.xe s:=by
 have hq:=h (s.heap.objs.size+1) s.heap.objs.size (I.hok.fresh (Nat.le_succ _)) (I.hok.fresh (Nat.le_refl _)) (Nat.ne_of_lt (Nat.lt_succ_self _));have I2:=Inv.made (C:=C) I;have r2:bV (V.ref (s.heap.objs.size+1) :: (vs++dvs)) (Value.ref (s.heap.objs.size+1) :: (us++ds)):=.cons rfl (r.append hd);have hl:(Value.ref (s.heap.objs.size+1) :: us++ds).length=ps.length:=by
  have e:=r2.length;rw[F.len _ _ _ _ hq] at e;exact e.symm
 refine wpAny_call (Dq (f:=f) I.kIn M.makes M.init (beq_iff_eq.mp M.fn) (codeAny_mono (F.run _ X.stack _ _ ⟨Value.ref (s.heap.objs.size+1) :: us,[]⟩ (Value.ref (s.heap.objs.size+1) :: (us++ds)) _ _ E (hr.make C us [])
  (I2.env0.make C us []) (hb _ (Value.ref (s.heap.objs.size+1) :: us) I2.kIn hl) r2 hq) fun r s' hq'=>?_))
 cases r with
 |error e=>exact hx pins σ _ _ e s' I2 hq'
 |ok fl=>
  cases fl with
  |ret u=>
   obtain⟨v,H',I3,rv,ev,q3⟩:=I2.after hq';subst ev;exact⟨rv,⟨V.ref (s.heap.objs.size+1),H',I3,rfl,q3⟩⟩
  |next=>exact False.elim hq'
  |brk=>exact False.elim hq'
  |cont=>exact False.elim hq'
theorem jR (M:Mk X.K C f)(F:aK X.prog X.w X.K X.mg X.base CX k f fd ps sp)(hr:gH (k+1) X.A)(hg:Gl X x)(hm:X.mg x=some (.ref C))(hb:aL X.K fd ps ds)(hd:bV dvs ds)(hx:jZ CX X E)(ha:PA X (e :: es) t)(hdb:(x == ("__debug__":Str))=false:=by decide)(he:starEach (e :: es) X.env=(false,eval e X.env) :: starEach es X.env:=by rfl)(hpl:(backTo pos (starEach es X.env)).any (·.1)=false:=by rfl) :
  PE X (.Call (.Name x p) (e :: es) [] pos) (qh1 C sp dvs E t):=by
 intro pins s σ H Q I h;refine wpAny_Call_Name_kw (iG I hg hm ?_ hdb);refine W.callWith_K (h₀:=X.base) I.ok.mod.kin M.kp (thn (ha pos pins s σ H _ I h) fun us s1 ⟨vs,H1,I1,r,q⟩=>⟨I1.kIn,?_⟩) he hpl;exact Sr M F hr hb hd hx I1 r q
end
structure aP (N P:List Str) (sc:Scope):Prop where
 kind:sc.kind=.function
 co:sc.isCoroutine=false
 gen:sc.isGenerator=false
 nd:N.Nodup
 pre:N.take P.length=P
 par:∀x∈P,sc.names.lookup x=some .local\/sc.names.lookup x=some .cell
 nofree:∀y∈sc.names,y.2≠.free
theorem sK9 (a:sc.kind=.function:=by rfl)(b:sc.isCoroutine=false:=by rfl)(c:sc.isGenerator=false:=by rfl)(d:N.take P.length=P:=by rfl)(e:(decide N.Nodup&&decide (∀x∈P,sc.names.lookup x=some .local\/sc.names.lookup x=some .cell)&&decide (∀y∈sc.names,y.2≠.free))=true:=by decide +kernel):aP N P sc:=by
 rw[Bool.and_eq_true,Bool.and_eq_true] at e
 exact ⟨a,b,c,of_decide_eq_true e.1.1,d,of_decide_eq_true e.1.2,of_decide_eq_true e.2⟩
theorem zl9 (n:Nat)(h:n<=16:=by decide):n<=sizeLine:=Nat.le_trans h (by decide)
abbrev kI9 (K:Frag)(g:Addr):Prop:=W.keepIn K (.ref g)=true
abbrev mI9 (mg:Str->Option Value)(x:Str)(g:Addr):Prop:=mg x=some (.ref g)
theorem wY {kindOf:Str->Option NameKind}:∀{binds:List (Str × Value)} {m:Str->Option Value},(∀v,(x,v)∉binds)->bindL kindOf binds m x=m x
 | [],_,_=>rfl
 | (n,v) :: r,m,h=>by
  unfold bindL;rw[wY fun w hw=>h w (mem_cons_of_mem _ hw)];split
  ·have:x≠n:=by rintro rfl;exact h v mem_cons_self
   simp[this]
  ·rfl
theorem yU {kindOf:Str->Option NameKind}:∀{binds:List (Str × Value)} {m:Str->Option Value},(∀v,(x,v)∉binds)->bindC kindOf binds m x=m x
 | [],_,_=>rfl
 | (n,v) :: r,m,h=>by
  unfold bindC;rw[yU fun w hw=>h w (mem_cons_of_mem _ hw)];split
  ·rfl
  ·have:x≠n:=by rintro rfl;exact h v mem_cons_self
   simp[this]
theorem xM {kindOf:Str->Option NameKind}:∀{P:List Str} {vs:List Value} {i:Nat} {m:Str->Option Value},P.Nodup->P[i]?=some x->vs[i]?=some v->kindOf x=some .local->
  bindL kindOf (P.zip vs) m x=some v
 | [],_,_,_,_,h,_,_=>by simp at h
 |_ :: _,[],_,_,_,_,h,_=>by simp at h
 |p :: P,w :: vs,0,m,nd,h1,h2,hk=>by
  simp at h1 h2;subst h1;subst h2;show bindL kindOf ((p,w) :: P.zip vs) m p=_;unfold bindL;rw[wY fun v hv=>(nodup_cons.mp nd).1 (of_mem_zip hv).1,if_pos hk];simp
 |p :: P,w :: vs,i+1,m,nd,h1,h2,hk=>by
  show bindL kindOf ((p,w) :: P.zip vs) m x=_;unfold bindL;exact xM (i:=i) (nodup_cons.mp nd).2 (by simpa using h1) (by simpa using h2) hk
theorem xT {kindOf:Str->Option NameKind}:∀{P:List Str} {vs:List Value} {i:Nat} {m:Str->Option Value},P.Nodup->P[i]?=some x->vs[i]?=some v->kindOf x≠some .local->
  bindC kindOf (P.zip vs) m x=some v
 | [],_,_,_,_,h,_,_=>by simp at h
 |_ :: _,[],_,_,_,_,h,_=>by simp at h
 |p :: P,w :: vs,0,m,nd,h1,h2,hk=>by
  simp at h1 h2;subst h1;subst h2;show bindC kindOf ((p,w) :: P.zip vs) m p=_;unfold bindC;rw[yU fun v hv=>(nodup_cons.mp nd).1 (of_mem_zip hv).1,if_neg hk];simp
 |p :: P,w :: vs,i+1,m,nd,h1,h2,hk=>by
  show bindC kindOf ((p,w) :: P.zip vs) m x=_;unfold bindC;exact xT (i:=i) (nodup_cons.mp nd).2 (by simpa using h1) (by simpa using h2) hk
def start (N:List Str)(vs:List V):St:=vs.map some++replicate (N.length - vs.length) none
def wS (CX:CXT)(P:Program)(w:World)(K:Frag)(mg:Str->Option Value)(base:Heap)(N:List Str)(qual:Str)(scope:Scope)(f:Addr)(cd:Value)(A:Around)(outer:List Env)(s:Shared)(H:Hp)(E:XK):Cx where
 prog:=P
 w:=w
 K:=K
 mg:=mg
 base:=base
 A:=A.deeper (envOfC qual scope s.heap.objs.size f cd)
 N:=N
 s₀:=s
 H₀:=H
 env:=envOfC qual scope s.heap.objs.size f cd
 outer:=outer
 stack:=envOfC qual scope s.heap.objs.size f cd :: outer
 ex:=[]
 calm:=true
 fn:=fun _=>true
 pn:=[]
 xe:=fun e s'=>wpAny (model P w) (A.deeper (envOfC qual scope s.heap.objs.size f cd)) (leaving (envOfC qual scope s.heap.objs.size f cd) e) (fun _ s''=>CX outer H s E e s'') (fun e' s''=>CX outer H s E e' s'') s'
theorem Dl {sc:Scope}(h:sc.names.lookup x=some .cell):∃c,(cellsFrom n sc.names []).lookup x=some c:=by
 have q:=W.cellsFrom_some sc.names n [] (.inl h);exact Option.isSome_iff_exists.mp q
theorem Lk {K:Frag}(S:aP N ps scope)(hd:A.handled=none)(e0:Hc P w K mg base A outer s H)(hl:vs.length=ps.length)(r:bV vs us)(x:InCallC s s.heap.objs.size (bindL (envOfC qual scope s.heap.objs.size f cd).kindOf (ps.zip us) fun _=>none) (cellsFrom (s.heap.objs.size+1) scope.names []) (bindC (envOfC qual scope s.heap.objs.size f cd).kindOf (ps.zip us) fun _=>none) s1):
  Inv (wS CX P w K mg base N qual scope f cd A outer s H E) [] (start N vs) H s1:=by
 have hpl:ps.length<=N.length:=by have:=congrArg List.length S.pre;rw[length_take] at this;lia
 obtain⟨h1,tk,rfl,hk⟩:=x.done;have noA:∀b:Addr,b∉(wS CX P w K mg base N qual scope f cd A outer s H E).ex:=fun b z=>absurd (show b∈([]:List Addr) from z) (by simp);refine⟨⟨e0.mod,S.kind,rfl,rfl,Nat.le_refl _,fun y z c h1 h2=>?_,fun y hy=>?_,fun y c _ h=>?_,fun _=>hd,Around.frames_deeper e0.frames,.inr ⟨rfl,rfl⟩,fun b z=>absurd z (noA b),e0.bs,e0.bsz,fun b _ _=>noA b,fun b z=>absurd z (noA b),e0.funs,e0.frf⟩,
  rfl,e0.bare,Un.kept hk,⟨_,x.toInCall.ns,fun i y v h1 h2 h3=>?_⟩,fun y c h=>⟨_,x.cell y c h⟩,e0.hok.fresh (Nat.le_refl _),fun y c h=>?_,fun p hp=>absurd (show p∈([]:List (Addr × Obj)) from hp) (by simp),e0.hok.kept hk,?_⟩
 ·exact name_of_addr x.apart (PySem.mem_of_lookup h1) (PySem.mem_of_lookup h2)
 ·have hy:scope.names.lookup y=some .cell\/scope.names.lookup y=some .free:=hy;rcases hy with hy | hy
  ·exact Dl hy
  ·exact absurd rfl (S.nofree _ (PySem.mem_of_lookup hy))
 ·exact Nat.le_of_lt (x.above y c (PySem.mem_of_lookup h))
 ·have hi:i < vs.length:=by
   unfold start at h2
   by_cases hi:i < vs.length
   ·exact hi
   ·rw[getElem?_append_right (by simpa using hi)] at h2;rw[getElem?_replicate] at h2;split at h2<;>cases h2
  have ha:vs[i]?=some v:=by
   unfold start at h2;rw[getElem?_append_left (by simpa using hi),getElem?_map] at h2
   cases e:vs[i]? with
   |none=>rw[e] at h2;cases h2
   |some a=>rw[e] at h2;cases h2;rfl
  obtain⟨u,hu,rv⟩:=r.get ha;have hp:ps[i]?=some y:=by
   rw[<- S.pre,getElem?_take_of_lt (by lia)];exact h1
  have ndP:ps.Nodup:=by rw[<- S.pre];exact S.nd.sublist (take_sublist _ _)
  refine⟨u,rv,?_⟩;rcases S.par y (mem_of_getElem? hp) with k | k
  ·exact .inl ⟨k,xM ndP hp hu k⟩
  ·obtain⟨c,e⟩:=Dl (n:=s.heap.objs.size+1) k;refine .inr ⟨.inl k,c,e,?_⟩;have q:=x.cell y c e;rw[xT ndP hp hu (by show scope.names.lookup y≠_;rw[k];decide)] at q;exact q
 ·exact e0.hok.fresh (Nat.le_of_lt (x.above y c (PySem.mem_of_lookup h)))
 ·unfold start;show _=N.length;rw[List.length_append,length_map,length_replicate];lia
theorem qh8 {K:Frag}{dV kV doc pm cdv ct oc:Value}(lk:K.lookup f=some ⟨oc,od,.func (W.fnOf name qual params body scope dV kV doc pm an cdv ct),osl⟩)(hcd:W.codeIn K cdv qual=true)(S:aP N ps scope)(len:∀vs H Q E,sp vs H Q E->vs.length=ps.length)(hbody:∀(A:Around) (outer:List Env) (s:Shared) (H:Hp) (vs:List V) (Q:VK) (E:XK),gH k (A.deeper (envOfC qual scope s.heap.objs.size f cdv))->sp vs H Q E->
   ∃t,PSs (wS CX P w K mg base N qual scope f cdv A outer s H E) body t/\t { nx:=fun _ H'=>Q .non H',rt:=Q } (start N vs) H):
  aK P w K mg base CX (k+1) f (W.fnOf name qual params body scope dV kV doc pm an cdv ct) ps sp:=by
 refine⟨len,fun A outer s H args us vs Q E hr e0 hb r hsp=>?_⟩;have hl:=len _ _ _ _ hsp;have KX:K.In s.heap:=e0.mod.kin.keeps fun b o e=>(e0.bs b o e).1;have lim:s.heap.NoLimit:=e0.mod.nolimit.keeps fun b o e=>(e0.bs b o e).1;have hkind:∀y∈ps.zip us,scope.names.lookup y.1=some .local\/(scope.names.lookup y.1=some .cell/\((cellsFrom (s.heap.objs.size+1) scope.names []).lookup y.1).isSome=true):=fun ⟨n,v⟩ hy=>by
  rcases S.par n (of_mem_zip hy).1 with q | q
  ·exact .inl q
  ·exact .inr ⟨q,W.cellsFrom_some _ _ _ (.inl q)⟩
 refine codeAny_call_function hr.depth (KX _ _ lk) rfl S.co S.gen rfl (W.codeRec_of KX hcd) (hb _ _ _ _ ?_);refine wpAny_newFunctionEnv_cells S.kind hkind fun env he s1 x=>?_;subst he;refine⟨lim.keeps x.toInCall.keep,codeAny_func ?_⟩;obtain⟨t,ht,hq⟩:=hbody A outer s H vs Q E (hr.deeper _) hsp;have I:Inv (wS CX P w K mg base N qual scope f cdv A outer s H E) [] (start N vs) H s1:=Lk S hr.hd e0 hl r x;refine wpAny_mono (ht [] s1 (start N vs) H _ I hq) (fun fl s' hs=>?_) fun e s' hs=>hs;have fin:∀{σ':St} {H':Hp} {v:V} {u:Value},Inv (wS CX P w K mg base N qual scope f cdv A outer s H E) [] σ' H' s'->cC v u->Q v H'->CE outer P w H s Q u s':=
  fun {σ' H' v u} J rv q=>⟨v,H',J.os,J.bare,J.base,J.hok,rv,q⟩
 cases fl with
 |ret u=>
  obtain⟨v,σ',H',J,rv,q⟩:=hs;exact fin J rv q
 |next=>
  obtain⟨σ',H',J,q⟩:=hs;exact fin (v:=V.non) (u:=Value.none) J rfl q
 |brk=>
  obtain⟨_,_,_,q⟩:=hs;exact False.elim q
 |cont=>
  obtain⟨_,_,_,q⟩:=hs;exact False.elim q
section
variable {X:Cx} {x:Str} {p pos:Pos} {e:Expr} {es:List Expr} {t:TA} {id T:String} {r:List V->Hp->VK->Prop}
def tCB (r:List V->Hp->VK->Prop)(t:TA):TE:=fun σ H Q=>t σ H fun vs H1=>r vs H1 Q
theorem bM (hc:kL X (.builtin id) r)(hg:Gl X x)(hm:X.mg x=none)(hv:bootBuiltins x=some (.builtin id))(ha:PA X (e :: es) t)(hn:x≠"__name__":=by decide)(hdb:(x == ("__debug__":Str))=false:=by decide)(he:starEach (e :: es) X.env=(false,eval e X.env) :: starEach es X.env:=by rfl)(hpl:(backTo pos (starEach es X.env)).any (·.1)=false:=by rfl):PE X (.Call (.Name x p) (e :: es) [] pos) (tCB r t):=by
 intro pins s σ H Q I h;refine wpAny_Call_Name_kw (jW I hg hm hv ?_ hn hdb);exact PyProof.Rows.callWith_builtin1 (thn (ha pos pins s σ H _ I h) fun us s1 ⟨vs,H1,I1,r1,q1⟩=>hc pins s1 σ H1 vs us Q I1 r1 q1) he hpl
theorem gP (hc:kL X (.type T) r)(hg:Gl X x)(hm:X.mg x=none)(hv:bootBuiltins x=some (.type T))(ha:PA X (e :: es) t)(hn:x≠"__name__":=by decide)(hdb:(x == ("__debug__":Str))=false:=by decide)(he:starEach (e :: es) X.env=(false,eval e X.env) :: starEach es X.env:=by rfl)(hpl:(backTo pos (starEach es X.env)).any (·.1)=false:=by rfl):PE X (.Call (.Name x p) (e :: es) [] pos) (tCB r t):=by
 intro pins s σ H Q I h;refine wpAny_Call_Name_kw (jW I hg hm hv ?_ hn hdb);exact PyProof.Rows.callWith_type1 (thn (ha pos pins s σ H _ I h) fun us s1 ⟨vs,H1,I1,r1,q1⟩=>hc pins s1 σ H1 vs us Q I1 r1 q1) he hpl
end
end L2
namespace HT
open PySem PyProof.Rows
section
variable {prog:Program} {w:World} {A:Around} {E:Value->Shared->Prop} {s:Shared}
def sIx (n d:Nat):Option Int->Nat
 |none=>d
 |some v=>if v < 0 then (v+(n:Int)).toNat else min v.toNat n
end
end HT
namespace L2
open PySem PySem.Spec PyProof.Rows
abbrev TO:=St->Hp->(Option Int->Hp->Prop)->Prop
def PO (X:Cx)(e:Option Expr)(t:TO):Prop:=
 ∀(pins:List (Addr × Obj)) (s:Shared) (σ:St) (H:Hp) (Q:Option Int->Hp->Prop),Inv X pins σ H s->t σ H Q->
  wpAny (model X.prog X.w) X.A (evalPart e X.env) (fun u s'=>∃o H',Inv X pins σ H' s'/\IsPart u o/\Q o H') X.xe s
def Wd:TO:=fun _ H Q=>Q none H
def ql0 (t:TE):TO:=fun σ H Q=>t σ H fun x H1=>∃i,x=.int i/\Q (some i) H1
section
variable {X:Cx} {e:Expr} {te:TE} {lo hi:Option Expr} {tl th:TO} {pos p2:Pos}
theorem jP:PO X none Wd:=by
 intro pins s σ H Q I h;rw[evalPart_none];exact wpAny_pure ⟨none,H,I,.none,h⟩
theorem gM (h:PE X e te):PO X (some e) (ql0 te):=by
 intro pins s σ H Q I hw;rw[evalPart_some];refine thn (h pins s σ H _ I hw) fun u s1 ⟨x,H1,I1,r1,q1⟩=>?_;obtain⟨i,rfl,q⟩:=q1;obtain⟨t,rfl⟩:=r1;exact⟨some i,H1,I1,.int i t,q⟩
def SlR (X:Cx)(r:V->Option Int->Option Int->Hp->VK->Prop):Prop:=
 ∀(pins:List (Addr × Obj)) (s:Shared) (σ:St) (H:Hp) (x:V) (v vl vu:Value) (lo hi:Option Int) (sl:Addr) (Q:VK),Inv X pins σ H s->cC x v->s.heap.IsSliceOf sl vl vu .none->IsPart vl lo->IsPart vu hi->r x lo hi H Q->
  ∃T id,typeLookup (.type T) "__getitem__"=pure (some (.builtin id))/\s.TypeIs v T/\wpAny (model X.prog X.w) X.A (getItem v (.ref sl)) (EP X pins σ Q) X.xe s
def tSl (r:V->Option Int->Option Int->Hp->VK->Prop)(te:TE)(tl th:TO):TE:=fun σ H Q=>te σ H fun x H1=>tl σ H1 fun l H2=>th σ H2 fun u H3=>r x l u H3 Q
theorem gJ (hr:SlR X r)(he:PE X e te)(hl:PO X lo tl)(hu:PO X hi th):PE X (.Subscript e (.Slice lo hi none p2) pos) (tSl r te tl th):=by
 intro pins s σ H Q I h;refine Subscript_ (thn (he pins s σ H _ I h) fun v s1 ⟨x,H1,I1,r1,q1⟩=>?_);refine wpAny_Slice (thn (hl pins s1 σ H1 _ I1 q1) fun vl s2 ⟨l,H2,I2,pl,q2⟩=>thn (hu pins s2 σ H2 _ I2 q2) fun vu s3 ⟨u,H3,I3,pu,q3⟩=>?_);rw[evalPart_none];refine wpAny_pure ?_;have I4:Inv X pins σ H3 { s3 with heap:=s3.heap.push { cls:=.type "slice",data:=.fields #[vl,vu,.none] } }:=I3.kept (t':=s3.toks) fun b ob q=>Heap.get?_push_of_some _ q;obtain⟨T,id,hT,ht,hg⟩:=hr pins { s3 with heap:=s3.heap.push { cls:=.type "slice",data:=.fields #[vl,vu,.none] } } σ H3 x v vl vu l u s3.heap.objs.size Q I4 r1 (Heap.IsSliceOf.new ..) pl pu q3;show wpAny (model X.prog X.w) X.A (subscriptTail e (.Slice lo hi none p2) v (.ref s3.heap.objs.size)) (EP X pins σ Q) X.xe { s3 with heap:=s3.heap.push { cls:=.type "slice",data:=.fields #[vl,vu,.none] } };exact tail_any (ops:=[.ref s3.heap.objs.size,v]) ht hT hg (by with_unfolding_all rfl)
def lV (xs:List V)(lo hi:Option Int):List V:=(xs.drop (HT.sIx xs.length 0 lo)).take (HT.sIx xs.length xs.length hi - HT.sIx xs.length 0 lo)
theorem Ch (xs:List V)(lo hi:Option Int):(lV xs lo hi).length<=xs.length:=by
 unfold lV;exact Nat.le_trans (length_take_le' _ _) (by rw[length_drop];exact Nat.sub_le _ _)
end
def ixN (n:Nat)(i:Int):Option Nat:=if 0<=i then (if i < n then some i.toNat else none) else if -(n:Int)<=i then some (i+n).toNat else none
def atI {α:Type}(xs:List α)(i:Int):Option α:=(ixN xs.length i).bind fun j=>xs[j]?
theorem Kb (h:ixN n i=some j):seqIndex? i n=some j/\j < n/\-(n:Int)<=i/\i < n:=by
 unfold ixN at h
 by_cases h0:0<=i
 ·rw[if_pos h0] at h
  by_cases h1:i < n
  ·rw[if_pos h1] at h;have e:i.toNat=j:=Option.some.inj h;exact⟨by rw[seqIndex_of h0 h1,e],by lia,by lia,h1⟩
  ·rw[if_neg h1] at h;cases h
 ·rw[if_neg h0] at h
  by_cases h1:-(n:Int)<=i
  ·rw[if_pos h1] at h;have e:(i+n).toNat=j:=Option.some.inj h;exact⟨by rw[seqIndex_neg (by lia) h1,e],by lia,h1,by lia⟩
  ·rw[if_neg h1] at h;cases h
theorem Jf (h:atI xs i=some v):∃j,seqIndex? i xs.length=some j/\xs[j]?=some v/\j < xs.length/\-(xs.length:Int)<=i/\i < xs.length:=by
 unfold atI at h
 cases e:ixN xs.length i with
 |none=>rw[e] at h;cases h
 |some j=>
  rw[e] at h;obtain⟨h1,h2,h3,h4⟩:=Kb e;exact⟨j,h1,h,h2,h3,h4⟩
theorem bQ {xs:List α}{j:Nat}{v:α}(h:xs[j]?=some v):atI xs (j:Int)=some v:=by
 have hj:j < xs.length:=(List.getElem?_eq_some_iff.mp h).1;have e:ixN xs.length (j:Int)=some j:=by
  unfold ixN;rw[if_pos (by lia),if_pos (by lia)];simp
 unfold atI;rw[e];exact h
theorem Oz (xs:List α)(v:α):atI (xs++[v]) (-1)=some v:=by
 have hl:(xs++[v]).length=xs.length+1:=by simp
 have e:ixN (xs++[v]).length (-1)=some xs.length:=by
  unfold ixN;rw[hl,if_neg (by decide),if_pos (by lia)];congr 1;lia
 unfold atI;rw[e];show (xs++[v])[xs.length]?=some v;simp
def Tj (b:Expr):Prop:=∀o i,subscripted b false o i=operate [o,i] (getItem o i)
def IxR (X:Cx)(r:R2):Prop:=
 ∀(value slice:Expr) (pins:List (Addr × Obj)) (s:Shared) (σ:St) (H:Hp) (x y:V) (v u:Value) (Q:VK),Inv X pins σ H s->cC x v->cC y u->r x y H Q->
  subscripted slice false v u=operate [v,u] (getItem v u)->wpAny (model X.prog X.w) X.A (subscriptTail value slice v u) (EP X pins σ Q) X.xe s
def MtR (X:Cx)(id:String)(r:V->List V->Hp->VK->Prop):Prop:=
 ∀(pins:List (Addr × Obj)) (s:Shared) (σ:St) (H:Hp) (x:V) (xs:List V) (v:Value) (us:List Value) (Q:VK),Inv X pins σ H s->cC x v->bV xs us->r x xs H Q->
  wpAny (model X.prog X.w) X.A (call (.builtin id) (v :: us)) (EP X pins σ Q) X.xe s
section
variable {X:Cx} {a b:Expr} {ta tb:TE} {pos:Pos}
theorem aU (hr:IxR X r)(ha:PE X a ta)(hb:PE X b tb)(hs:Tj b):PE X (.Subscript a b pos) (tOp r ta tb):=by
 intro pins s σ H Q I h;exact Subscript_ (qb3 ha hb I h fun v u s2 x y H2 I2 rx ry q=>hr a b pins s2 σ H2 x y v u Q I2 rx ry q (hs _ _))
inductive qb6 (K:Frag) (x:V) (y:V) (H:Hp) (Q:VK):Prop where
 |mk (p xs i v):x=.ref p->y=.int i->SqL K H p xs->atI xs i=some v->Q v H->qb6 K x y H Q
inductive Si (K:Frag) (x:V) (y:V) (H:Hp) (Q:VK):Prop where
 |mk (p xs i v):x=.ref p->y=.int i->SqT K H p xs->atI xs i=some v->Q v H->Si K x y H Q
theorem bL:IxR X (qb6 X.K):=by
 intro value slice pins s σ H x y v u Q I rx ry h hs;obtain⟨p,xs,i,z,rfl,rfl,hq,he,q⟩:=h
 cases rx
 obtain⟨t,rfl⟩:=ry;obtain⟨its,r,pl,hz⟩:=I.list hq;obtain⟨j,h1,h2,h3,h4,h5⟩:=Jf he;obtain⟨w,ew,rw'⟩:=r.get h2;have hl:=r.length;have hn:=Au;have fin:EP X pins σ Q w s:=⟨z,H,I,rw',q⟩
 by_cases h0:0<=i
 ·have hj:i.toNat=j:=by
   rw[seqIndex_of h0 h5] at h1;exact Option.some.inj h1
  exact item_listR pl.isList h0 (by lia) (by rw[hj];simpa using ew) fin hs
 ·have hj:(i+(its.toArray.size:Int)).toNat=j:=by
   rw[seqIndex_neg (by lia) h4] at h1;rw[size_toArray,<- hl];exact Option.some.inj h1
  exact subscriptTail_builtinR (x:=w) pl.isList.typeIs slot_list_getitem.lookup
   (wpAny_getItem_list_neg (Q:=fun r s'=>r=w/\EP X pins σ Q r s') pl.isList (by lia) (by rw[size_toArray]<;>lia) (by lia) (by rw[hj];simpa using ew) ⟨rfl,fin⟩) hs
theorem aY:IxR X (Si X.K):=by
 intro value slice pins s σ H x y v u Q I rx ry h hs;obtain⟨p,xs,i,z,rfl,rfl,hq,he,q⟩:=h
 cases rx
 obtain⟨t,rfl⟩:=ry;obtain⟨its,r,pl,hz⟩:=I.tuple hq;obtain⟨j,h1,h2,h3,h4,h5⟩:=Jf he;obtain⟨w,ew,rw'⟩:=r.get h2;have hl:=r.length;have hn:=Au;have fin:EP X pins σ Q w s:=⟨z,H,I,rw',q⟩
 exact subscriptTail_builtinR (x:=w) pl.typeIs slot_tuple_getitem.lookup
  (getItem_tuple (j:=j) (Q:=fun r s'=>r=w/\EP X pins σ Q r s') pl (by lia) (by lia) (by rw[size_toArray,<- hl];exact h1) (by simpa using ew) ⟨rfl,fin⟩) hs
theorem Gc (its:List Value)(n j:Nat)(u:Value):Obj.mapSeq (·.setIfInBounds j u) { cls:=.type "list",data:=.seq its.toArray n }={ cls:=.type "list",data:=.seq (its.set j u).toArray n }:=by
 simp[Obj.mapSeq]
theorem Inv.lst (I:Inv X pins σ H s)(h:H p=some (.lst xs)):
  ∃(its:List Value) (n:Nat),bV xs its/\s.heap.get? p=some { cls:=.type "list",data:=.seq its.toArray n }/\xs.length<=sizeLine:=by
 obtain⟨z,its,n,r,e⟩:=I.hok p _ h;exact⟨its,n,r,e,z⟩
theorem Inv.lstUpd {its its':List Value}(I:Inv X pins σ H s)(h:H p=some (.lst xs))(ho:s.heap.get? p=some { cls:=.type "list",data:=.seq its.toArray n })(hf:f { cls:=.type "list",data:=.seq its.toArray n }={ cls:=.type "list",data:=.seq its'.toArray n' })(r:bV ys its')(hz:ys.length<=sizeLine)(t:Nat):
  Inv X pins σ (upd H p (.lst ys)) { s with heap:=s.heap.update p f,toks:=t }:=by
 have e:(s.heap.update p f).get? p=some { cls:=.type "list",data:=.seq its'.toArray n' }:=by
  rw[Heap.get?_update_self f ho (by rw[hf]<;>rfl),hf]
 refine I.write (x:=p) (e:=p) (by rw[h];trivial) (.inl rfl) (fun b u hb q=>(Heap.get?_update_other _ _ (Ne.symm hb)).trans q) ⟨_,e⟩ ?_;exact⟨hz,its',n',r,e⟩
def qj3:V->V->V->Hp->(Hp->Prop)->Prop:=fun o i v H Q=>∃p xs k j,o=.ref p/\i=.int k/\H p=some (.lst xs)/\ixN xs.length k=some j/\Q (upd H p (.lst (xs.set j v)))
theorem jJ:qk6 X qj3:=by
 intro pins s σ H o i v ov iv u Q I ro ri rv h;obtain⟨p,xs,k,j,rfl,rfl,hp,hj,q⟩:=h
 cases ro
 obtain⟨t,rfl⟩:=ri;obtain⟨its,n,r,ho,hz⟩:=I.lst hp;obtain⟨h1,h2,h3,h4⟩:=Kb hj;have hl:=r.length;have hn:=Au;have I':Inv X pins σ (upd H p (.lst (xs.set j v))) { s with heap:=s.heap.update p (Obj.mapSeq (·.setIfInBounds j u)) }:=
  I.lstUpd hp ho (Gc its n j u) (r.set rv j) (by rw[length_set];exact hz) s.toks
 by_cases h0:0<=k
 ·have hk:k.toNat=j:=by
   rw[seqIndex_of h0 h4] at h1;exact Option.some.inj h1
  exact W.ki_setAt ho h0 (by lia) (by rw[size_toArray,<- hl];exact h4) (by rw[hk];exact⟨_,I',q⟩)
 ·have hk:(k+(its.toArray.size:Int)).toNat=j:=by
   rw[seqIndex_neg (by lia) h3] at h1;rw[size_toArray,<- hl];exact Option.some.inj h1
  exact W.ki_setBack ho (by lia) (by rw[size_toArray,<- hl];exact h3) (by lia) (by rw[hk];exact⟨_,I',q⟩)
theorem sbA (lo hi:Option Int)(n:Nat):(sliceBounds lo hi none n).1=((HT.sIx n 0 lo:Nat):Int):=by
 cases lo with
 |none=>simp[sliceBounds,HT.sIx]
 |some i=>
  simp only[sliceBounds,HT.sIx,Option.getD_none,show (1:Int) > 0 by decide,if_true]
  by_cases h:i < 0
  ·simp only[h,if_true]<;>lia
  ·simp only[h,if_false]<;>lia
theorem Bg (lo hi:Option Int)(n:Nat):(sliceBounds lo hi none n).1=((HT.sIx n 0 lo:Nat):Int)/\(sliceBounds lo hi none n).2.1=((HT.sIx n n hi:Nat):Int)/\(sliceBounds lo hi none n).2.2=1:=by
 refine⟨sbA lo hi n,?_,rfl⟩
 cases hi with
 |none=>simp[sliceBounds,HT.sIx]
 |some i=>exact sbA (some i) lo n
theorem wT (its:List Value)(lo hi:Option Int):slicePick its.toArray lo hi none=((its.drop (HT.sIx its.length 0 lo)).take (HT.sIx its.length its.length hi - HT.sIx its.length 0 lo)).toArray:=by
 obtain⟨h1,h2,h3⟩:=Bg lo hi its.toArray.size;unfold slicePick;rw[h1,h2,h3];simp only[sliceRange_one,pick_run,size_toArray]<;>rfl
inductive qc0 (K:Frag) (x:V) (lo:Option Int) (hi:Option Int) (H:Hp) (Q:VK):Prop where
 |mk (a xs):x=.ref a->SqL K H a xs->(∀p,H p=none->Q (.ref p) (upd H p (.lst (lV xs lo hi))))->qc0 K x lo hi H Q
theorem iH:SlR X (qc0 X.K):=by
 intro pins s σ H x v vl vu lo hi sl Q I rx hs pl pu h;obtain⟨a,xs,rfl,hx,q⟩:=h
 cases rx
 obtain⟨its,r,ht,hz⟩:=I.list hx;have hlen:=r.length;refine⟨"list",_,slot_list_getitem.lookup,ht.isList.typeIs,?_⟩;refine wpAny_getItem_list_slice ht.isList hs pl pu .none (by simp) ?_ (by rw[size_toArray]<;>lia);rw[wT,<- hlen];refine⟨.ref s.heap.objs.size,_,I.laid (t':=s.toks) (o:=.lst (lV xs lo hi)) (fun b ob q=>Heap.get?_push_of_some _ q) (Nat.le_refl _) ?_,rfl,q _ (I.hok.fresh (Nat.le_refl _))⟩;exact⟨Nat.le_trans (Ch xs lo hi) hz,_,0,(r.drop (HT.sIx xs.length 0 lo)).take (HT.sIx xs.length xs.length hi - HT.sIx xs.length 0 lo),Heap.get?_push_size _ rfl⟩
def lT:V->Bool
 | .non=>true
 | .bl _=>true
 | .int _=>true
 | .str _=>true
 |_=>false
def eqV:V->V->Bool
 | .non,.non=>true
 | .bl a,.bl b=>a == b
 | .bl a,.int b=>(if a then 1 else 0) == b
 | .int a,.bl b=>a == (if b then 1 else 0)
 | .int a,.int b=>a == b
 | .str a,.str b=>a == b
 |_,_=>false
theorem Zq (ry:cC y u)(rx:cC x v)(fy:lT y=true)(fx:lT x=true):SeqAt.EqAt A s u v (eqV y x):=by
 cases y with
 |non=>
  cases ry
  cases x with
  |non=>cases rx;exact SeqAt.EqAt.same _
  |bl b=>cases rx;exact SeqAt.EqAt.none_bool b
  |int b=>obtain⟨t,rfl⟩:=rx;exact SeqAt.EqAt.none_int b t
  |str b=>obtain⟨t,rfl⟩:=rx;exact SeqAt.EqAt.none_str b t
  |_=>exact absurd (show false=true from fx) Bool.false_ne_true
 |bl a=>
  cases ry
  cases x with
  |non=>cases rx;exact SeqAt.EqAt.bool_none a
  |bl b=>cases rx;exact SeqAt.EqAt.bool_bool a b
  |int b=>obtain⟨t,rfl⟩:=rx;exact SeqAt.EqAt.bool_int a b t
  |str b=>obtain⟨t,rfl⟩:=rx;exact SeqAt.EqAt.bool_str a b t
  |_=>exact absurd (show false=true from fx) Bool.false_ne_true
 |int a=>
  obtain⟨t',rfl⟩:=ry
  cases x with
  |non=>cases rx;exact SeqAt.EqAt.int_none a t'
  |bl b=>cases rx;exact SeqAt.EqAt.int_bool a t' b
  |int b=>obtain⟨t,rfl⟩:=rx;exact SeqAt.EqAt.int_int a t' b t
  |str b=>obtain⟨t,rfl⟩:=rx;exact SeqAt.EqAt.int_str a t' b t
  |_=>exact absurd (show false=true from fx) Bool.false_ne_true
 |str a=>
  obtain⟨t',rfl⟩:=ry
  cases x with
  |non=>cases rx;exact SeqAt.EqAt.str_none a t'
  |bl b=>cases rx;exact SeqAt.EqAt.str_bool a t' b
  |int b=>obtain⟨t,rfl⟩:=rx;exact SeqAt.EqAt.str_int a t' b t
  |str b=>obtain⟨t,rfl⟩:=rx;exact SeqAt.EqAt.str_str a t' b t
  |_=>exact absurd (show false=true from fx) Bool.false_ne_true
 |_=>exact absurd (show false=true from fy) Bool.false_ne_true
def eqU (x:V)(u:Value):Bool:=match u with
 | .none=>eqV .non x
 | .bool b=>eqV (.bl b) x
 | .int i _=>eqV (.int i) x
 | .str z _=>eqV (.str z) x
 |_=>false
theorem Rg (r:cC y u)(f:lT y=true):eqU x u=eqV y x:=by
 cases y with
 |non=>cases r;rfl
 |bl b=>cases r;rfl
 |int i=>obtain⟨t,rfl⟩:=r;rfl
 |str z=>obtain⟨t,rfl⟩:=r;rfl
 |_=>exact absurd (show false=true from f) Bool.false_ne_true
theorem zT:∀{xs:List V} {us:List Value},bV xs us->xs.all lT=true->us.any (eqU x)=xs.any fun y=>eqV y x
 |_,_,.nil,_=>rfl
 |y :: xs,u :: us,.cons r t,f=>by
  rw[all_cons,Bool.and_eq_true] at f;rw[any_cons,any_cons,Rg r f.1,zT t f.2]
theorem uG (rx:cC x v)(fx:lT x=true):∀{xs:List V} {us:List Value},bV xs us->xs.all lT=true->∀u∈us,SeqAt.EqAt A s u v (eqU x u)
 |_,_,.nil,_=>fun u hu=>by cases hu
 |y :: xs,u :: us,.cons r t,f=>fun u' hu=>by
  rw[all_cons,Bool.and_eq_true] at f;rcases mem_cons.mp hu with rfl | hu
  ·rw[Rg r f.1];exact Zq r rx f.1 fx
  ·exact uG rx fx t f.2 u' hu
def inV (x:V)(xs:List V):Bool:=xs.any fun y=>eqV y x
inductive rIn (K:Frag) (neg:Bool) (x:V) (y:V) (H:Hp) (Q:VK):Prop where
 |mk (p xs):y=.ref p->(SqL K H p xs\/SqT K H p xs)->lT x=true->xs.all lT=true->Q (.bl (if neg then !inV x xs else inV x xs)) H->rIn K neg x y H Q
theorem xQ:OpR X (compareOp .In) (rIn X.K false):=by
 intro pins s σ H x y v u Q I rx ry h;obtain⟨p,xs,rfl,hq,fx,fs,q⟩:=h
 cases ry
 rcases hq with hq | hq
 ·obtain⟨its,r,pl,hz⟩:=I.list hq;refine SeqAt.in_listAt (eqU x) pl.isList (fun w hw=>uG rx fx r fs w (by simpa using hw)) ⟨.bl _,H,I,rfl,?_⟩;rw[show its.toArray.any (eqU x)=its.any (eqU x) by simp,zT r fs];exact q
 ·obtain⟨its,r,pl,hz⟩:=I.tuple hq;refine SeqAt.in_tupleAt (eqU x) pl (fun w hw=>uG rx fx r fs w (by simpa using hw)) ⟨.bl _,H,I,rfl,?_⟩;rw[show its.toArray.any (eqU x)=its.any (eqU x) by simp,zT r fs];exact q
theorem bU:kL X (.builtin "len") (fun xs H Q=>∃p ys,xs=[.ref p]/\(SqL X.K H p ys\/SqT X.K H p ys)/\Q (.int ys.length) H):=by
 intro pins s σ H xs us Q I r h;obtain⟨p,ys,rfl,hq,q⟩:=h;obtain⟨u,rfl,rx⟩:=xZ r
 cases rx
 have hn:=Au;rcases hq with hq | hq
 ·obtain⟨its,r',pl,hz⟩:=I.list hq;have hlen:=r'.length;exact Calls.call_len_list pl.isList (by simp only[size_toArray]<;>lia) ⟨.int ys.length,H,I.tok _,⟨s.toks+1,by rw[size_toArray,hlen]⟩,q⟩
 ·obtain⟨its,r',pl,hz⟩:=I.tuple hq;have hlen:=r'.length;exact len_tuple pl (by simp only[size_toArray]<;>lia) ⟨.int ys.length,H,I.tok _,⟨s.toks+1,by rw[size_toArray,hlen]⟩,q⟩
theorem gE:kL X (.type "list") (fun xs H Q=>∃p ys,xs=[.ref p]/\(SqL X.K H p ys\/SqT X.K H p ys)/\∀l,H l=none->Q (.ref l) (upd H l (.lst ys))):=by
 intro pins s σ H xs us Q I r h;obtain⟨p,ys,rfl,hq,q⟩:=h;obtain⟨u,rfl,rx⟩:=xZ r
 cases rx
 have fin:∀(its:List Value),bV ys its->ys.length<=sizeLine->∀(h':Heap) (c':Nat),(∀b o',s.heap.get? b=some o'->h'.get? b=some o')->
   h'.get? s.heap.objs.size=some { cls:=.type "list",dict:=none,data:=.seq its.toArray c',slots:=#[] }->EP X pins σ Q (.ref s.heap.objs.size) { s with heap:=h' }:=fun its r' hz h' c' kp e=>
  ⟨.ref s.heap.objs.size,_,I.laid (t':=s.toks) kp (Nat.le_refl _) (show cN X.prog X.w _ h' _ (.lst ys) from ⟨hz,its,c',r',e⟩),rfl,q _ (I.hok.fresh (Nat.le_refl _))⟩
 rcases hq with hq | hq
 ·obtain⟨its,r',pl,hz⟩:=I.list hq;have hlen:=r'.length;obtain⟨o,ho,hc,n,hd⟩:=pl.isList;exact call_list_seq p (.inl rfl) ho hc hd (fun h' c' kp e=>fin its r' hz h' c' kp e) (by simp only[size_toArray]<;>lia)
 ·obtain⟨its,r',pl,hz⟩:=I.tuple hq;have hlen:=r'.length;obtain⟨o,ho,hc,n,hd⟩:=pl;exact call_list_seq p (.inr rfl) ho hc hd (fun h' c' kp e=>fin its r' hz h' c' kp e) (by simp only[size_toArray]<;>lia)
theorem oO:kL X (.type "tuple") (fun xs H Q=>∃p ys,xs=[.ref p]/\((SqL X.K H p ys/\∀l,H l=none->Q (.ref l) (upd H l (.tup ys)))\/(SqT X.K H p ys/\Q (.ref p) H))):=by
 intro pins s σ H xs us Q I r h;obtain⟨p,ys,rfl,h⟩:=h;obtain⟨u,rfl,rx⟩:=xZ r
 cases rx
 rcases h with ⟨hq,q⟩ | ⟨hq,q⟩
 ·obtain⟨its,r',pl,hz⟩:=I.list hq;have hlen:=r'.length;refine call_tuple_list pl.isList (fun h' kp=>?_) (by simp only[size_toArray]<;>lia);have I1:Inv X pins σ H { s with heap:=h' }:=I.kept (t':=s.toks) kp;have I2:Inv X pins σ (upd H h'.objs.size (.tup ys)) { s with heap:=h'.push { cls:=.type "tuple",data:=.seq its.toArray } }:=
   I1.laid (t':=s.toks) (fun b o e=>Heap.get?_push_of_some _ e) (Nat.le_refl _) (show cN X.prog X.w _ _ _ (.tup ys) from ⟨hz,its,r',IsTup.new _ _⟩)
  exact⟨.ref h'.objs.size,_,I2,rfl,q _ (I1.hok.fresh (Nat.le_refl _))⟩
 ·obtain⟨its,r',pl,hz⟩:=I.tuple hq;exact call_tuple_same pl ⟨.ref p,H,I,rfl,q⟩
def tyV (K:Frag)(T:String)(x:V)(H:Hp):Prop:=match x with
 | .str _=>T = "str"
 | .int _=>T = "int"
 | .ref p=>(T = "list"/\∃xs,SqL K H p xs)\/(T = "tuple"/\∃o,K.lookup p=some o/\o.cls=.type "tuple"/\o.dict=none)\/
   (T = "dict"/\((∃kvs,H p=some (.dK kvs))\/∃kvs,H p=some (.dT kvs)))\/(T = "set"/\∃S n,H p=some (.set S n))
 |_=>False
theorem Ta (I:Inv X pins σ H s)(r:cC x v)(ty:tyV X.K T x H):
  s.TypeIs v T/\∀a,v=.ref a->∃ob,s.heap.get? a=some ob/\ob.dict=none:=by
 cases x with
 |str z=>
  obtain⟨t,rfl⟩:=r
  cases (show T = "str" from ty)
  exact⟨typeIs_str s z t,fun _ e=>nomatch e⟩
 |int i=>
  obtain⟨t,rfl⟩:=r
  cases (show T = "int" from ty)
  exact⟨typeIs_int s i t,fun _ e=>nomatch e⟩
 |ref p=>
  cases r
  rcases ty with ⟨rfl,xs,hq⟩ | ⟨rfl,o,hk,hc,hd⟩ | ⟨rfl,hk⟩ | ⟨rfl,S,n,hk⟩
  ·obtain⟨its,_,pl,_⟩:=I.list hq;refine⟨pl.isList.typeIs,fun a e=>?_⟩
   cases e
   obtain⟨o,n,e,c,hd,_⟩:=pl;exact⟨o,e,hd⟩
  ·refine⟨⟨o,I.kIn p o hk,hc⟩,fun a e=>?_⟩
   cases e
   exact⟨o,I.kIn _ o hk,hd⟩
  ·have z:∃o,s.heap.get? p=some o/\o.ExactDict:=by
    rcases hk with ⟨kvs,hk⟩ | ⟨kvs,hk⟩
    ·obtain⟨_,_,_,_,o,_,_,e,ex,_⟩:=I.hok p _ hk;exact⟨o,e,ex⟩
    ·obtain⟨_,_,_,_,o,_,_,e,ex,_⟩:=I.hok p _ hk;exact⟨o,e,ex⟩
   obtain⟨o,e,ex⟩:=z;refine⟨⟨o,e,ex.1⟩,fun a e2=>?_⟩
   cases e2
   exact⟨o,e,ex.2.1⟩
  ·obtain⟨o,_,_,_,e,ex,_⟩:=I.hok p _ hk;refine⟨⟨o,e,ex.1⟩,fun a e2=>?_⟩
   cases e2
   exact⟨o,e,ex.2.1⟩
 |_=>exact False.elim ty
def qn8 (K:Frag)(T:String)(r:V->List V->Hp->VK->Prop)(to:TE):TE:=fun σ H Q=>to σ H fun x H1=>tyV K T x H1/\r x [] H1 Q
def tBM (K:Frag)(T:String)(r:V->List V->Hp->VK->Prop)(to:TE)(t:TA):TE:=fun σ H Q=>to σ H fun x H1=>tyV K T x H1/\t σ H1 fun xs H2=>r x xs H2 Q
variable {o e:Expr} {es:List Expr} {to:TE} {t:TA} {name:Str} {apos cpos:Pos} {T id:String} {r:V->List V->Hp->VK->Prop}
theorem qa4 (pa:PlainAttrs T)(slot:Slot T name id)(hty:typeOf (.builtin id)=pure (.type "method_descriptor"))(hm:MtR X id r)(ho:PE X o to)(hbase:attributeBase o name X.env (eval o X.env)=eval o X.env:=by rfl)(hline:(apos.endLine == cpos.line)=true:=by rfl):PE X (.Call (.Attribute o name apos) [] [] cpos) (qn8 X.K T r to):=by
 intro pins s σ H Q I h;refine wpAny_Call_method0_late hbase hline (thn (ho pins s σ H _ I h) fun v s1 ⟨x,H1,I1,r1,ty,q1⟩=>?_);obtain⟨h1,h2⟩:=Ta I1 r1 ty;exact⟨T,id,pa,slot,hty,h1,h2,Calls.callWith_builtin rfl (PySem.evalArgs_none (hm pins s1 σ H1 x [] v [] Q I1 r1 .nil q1))⟩
theorem mB (pa:PlainAttrs T)(slot:Slot T name id)(hty:typeOf (.builtin id)=pure (.type "method_descriptor"))(hm:MtR X id r)(ho:PE X o to)(ha:PA X (e :: es) t)(hbase:attributeBase o name X.env (eval o X.env)=eval o X.env:=by rfl)(hfew:((backTo cpos (starEach (e :: es) X.env)).all (fun x=>!x.1) && (backToKw cpos (keywordEach [] X.env)).all (fun x=>x.1.isSome)
   && decide ((e :: es).length+([]:List Keyword).length+(if ([]:List Keyword).isEmpty then 0 else 1) < 30))=true:=by rfl)(hline:(apos.endLine == cpos.line)=true:=by rfl)(hs:starEach (e :: es) X.env=(false,eval e X.env) :: starEach es X.env:=by rfl)(hplain:(backTo cpos (starEach es X.env)).any (·.1)=false:=by rfl) :
  PE X (.Call (.Attribute o name apos) (e :: es) [] cpos) (tBM X.K T r to t):=by
 intro pins s σ H Q I h;refine wpAny_Call_method_late hbase hfew hline rfl (thn (ho pins s σ H _ I h) fun v s1 ⟨x,H1,I1,r1,ty,q1⟩=>?_);obtain⟨h1,h2⟩:=Ta I1 r1 ty;refine⟨T,id,pa,slot,hty,h1,h2,?_⟩;have hA:=ha cpos pins s1 σ H1 _ I1 q1;rw[hs] at hA ⊢;refine Calls.callWith_builtin (by show (false || (backTo cpos (starEach es X.env)).any (·.1))=false;rw[hplain]<;>rfl) (Calls.evalArgs_plain ?_);exact thn hA fun us s2 ⟨vs,H2,I2,r2,q2⟩=>hm pins s2 σ H2 x vs v us Q I2 r1 r2 q2
end
def MtM (X:Cx)(id:String)(r:V->List V->Hp->VK->Prop):Prop:=
 ∀(pins:List (Addr × Obj)) (s:Shared) (σ:St) (H:Hp) (x:V) (xs:List V) (v:Value) (us:List Value) (Q:VK),Inv X pins σ H s->cC x v->bV xs us->r x xs H Q->
  wpAny (model X.prog X.w) X.A (call (.builtin id) (v :: us)) (EP X pins σ Q) X.xe s
theorem bV.one:∀{x:V} {us:List Value},bV [x] us->∃u,us=[u]/\cC x u
 |_,_,.cons r .nil=>⟨_,rfl,r⟩
theorem bV.zero:∀{us:List Value},bV [] us->us=[]
 |_,.nil=>rfl
theorem bV.dropLast (h:bV xs us):bV xs.dropLast us.dropLast:=by
 induction h with
 |nil=>exact .nil
 |cons r t ih=>
  cases t with
  |nil=>exact .nil
  |cons q t'=>exact .cons r ih
theorem bV.rep (h:bV xs us):∀k:Nat,bV (replicate k xs).flatten (replicate k us).flatten
 |0=>.nil
 |k+1=>by
  rw[replicate_succ,replicate_succ,flatten_cons,flatten_cons];exact bV.append h (bV.rep h k)
theorem Fe {α:Type}(l:List α):l.eraseIdx (l.length - 1)=l.dropLast:=by
 induction l with
 |nil=>rfl
 |cons a r ih=>
  cases r with
  |nil=>rfl
  |cons b r=>
   have e:(a :: b :: r).length - 1=((b :: r).length - 1)+1:=by
    have h1:(a :: b :: r).length=r.length+2:=rfl;have h2:(b :: r).length=r.length+1:=rfl;lia
   rw[e,eraseIdx_cons_succ,ih]
   all_goals rfl
theorem wZ (its:List Value):∀(k:Nat) (acc:List Value),
  foldl (fun x1 x2=>x1++x2) acc.toArray (replicate k its.toArray)=(acc++(replicate k its).flatten).toArray
 |0,acc=>by simp
 |k+1,acc=>by
  have e:acc.toArray++its.toArray=(acc++its).toArray:=by simp
  have e2:(acc++its)++(replicate k its).flatten=acc++(replicate (k+1) its).flatten:=by
   rw[replicate_succ,flatten_cons,List.append_assoc]
  rw[<- e2,<- wZ its k (acc++its),<- e,replicate_succ,foldl_cons]
section
variable {X:Cx} {pins:List (Addr × Obj)} {σ:St} {H:Hp} {s:Shared} {l b:Addr} {xs ys zs:List V}
theorem Inv.lset {its its':List Value}(I:Inv X pins σ H s)(hH:H l=some (.lst xs))(e:s.heap.get? l=some { cls:=.type "list",data:=.seq its.toArray n })(hf:f its.toArray=its'.toArray)(hv:bV ys its')(hz:ys.length<=sizeLine):
  Inv X pins σ (upd H l (.lst ys)) { s with heap:=s.heap.update l (Obj.mapSeq f),toks:=t' }:=by
 have q:=PySem.IsL.update e f;rw[hf] at q;refine I.write (x:=l) (e:=l) (by rw[hH];exact trivial) (.inl rfl) (fun b' u hb hu=>(Heap.get?_update_other s.heap (Obj.mapSeq f) (Ne.symm hb)).trans hu) ⟨_,q⟩ ?_;exact⟨hz,its',_,hv,q⟩
theorem Inv.lnew (I:Inv X pins σ H s)(hv:bV ys its)(hz:ys.length<=sizeLine):
  Inv X pins σ (upd H s.heap.objs.size (.lst ys)) { s with heap:=s.heap.push { cls:=.type "list",data:=.seq its.toArray },toks:=t' }:=
 I.laid (fun _ _ q=>Heap.get?_push_of_some _ q) (Nat.le_refl _) ⟨hz,its,0,hv,Heap.get?_push_size _ rfl⟩
theorem Inv.fresh (I:Inv X pins σ H s):H s.heap.objs.size=none:=I.hok.fresh (Nat.le_refl _)
theorem Inv.lstM (I:Inv X pins σ H s)(hH:H l=some (.lst xs)):xs.length<=sizeLine/\∃(its:List Value) (n:Nat),bV xs its/\xs.length=its.length/\s.heap.get? l=some { cls:=.type "list",data:=.seq its.toArray n }:=by
 obtain⟨z,its,n,r,e⟩:=I.hok l _ hH;exact⟨z,its,n,r,r.length,e⟩
theorem Pq (h:n<=sizeLine):Builtin.List.listTooLong n=false:=by
 unfold Builtin.List.listTooLong;exact decide_eq_false (by lia)
end
section
variable {X:Cx}
inductive Ie (x:V) (vs:List V) (H:Hp) (Q:VK):Prop where
 |mk (l xs y):x=.ref l->vs=[y]->H l=some (.lst xs)->xs.length < sizeLine->Q .non (upd H l (.lst (xs++[y])))->Ie x vs H Q
theorem dU:MtM X "list.append" Ie:=by
 intro pins s σ H x vs v us Q I rx rv h;obtain⟨l,xs,y,rfl,rfl,hH,hz,q⟩:=h
 cases rx
 obtain⟨u,rfl,ru⟩:=rv.one;obtain⟨z,its,n,r,hl,e⟩:=I.lstM hH;refine call_meets F.slot_list_append ⟨_,e,rfl⟩ F.entry_list_append (F.args_list_append_2 _ _) (PySem.list_append l its.toArray n u (by rw[size_toArray];lia)) ⟨e,?_⟩;refine⟨.non,_,I.lset (its':=its++[u]) hH e (by simp) (r.append (.cons ru .nil)) ?_,rfl,q⟩;rw[List.length_append,length_singleton];lia
inductive qh9 (x:V) (vs:List V) (H:Hp) (Q:VK):Prop where
 |mk (l xs y):x=.ref l->vs=[]->H l=some (.lst xs)->xs[xs.length - 1]?=some y->Q y (upd H l (.lst xs.dropLast))->qh9 x vs H Q
theorem qd4:MtM X "list.pop" qh9:=by
 intro pins s σ H x vs v us Q I rx rv h;obtain⟨l,xs,y,rfl,rfl,hH,hy,q⟩:=h
 cases rx
 have hus:=rv.zero;subst hus;obtain⟨z,its,n,r,hl,e⟩:=I.lstM hH;obtain⟨u,hu,ru⟩:=r.get hy;have hy':its.toArray[its.toArray.size - 1]?=some u:=by
  show its.toArray[its.length - 1]?=some u;rw[<- Array.getElem?_toList,<- hl];exact hu
 refine call_meets F.slot_list_pop ⟨_,e,rfl⟩ F.entry_list_pop (F.args_list_pop_1 _) (MeetsSeq.list_pop_last l its.toArray n u hy' (by rw[size_toArray];lia)) ⟨e,?_⟩;refine⟨y,_,I.lset (its':=its.dropLast) hH e ?_ r.dropLast ?_,ru,q⟩
 ·show its.toArray.eraseIdxIfInBounds (its.toArray.size - 1)=its.dropLast.toArray;rw[size_toArray,eraseIdxIfInBounds_toArray,Fe]
 ·rw[length_dropLast];lia
inductive qh6 (x:V) (y:V) (H:Hp) (Q:VK):Prop where
 |mk (l b xs zs):x=.ref l->y=.ref b->H l=some (.lst xs)->H b=some (.lst zs)->xs.length+zs.length<=sizeLine->(∀p,H p=none->Q (.ref p) (upd H p (.lst (xs++zs))))->qh6 x y H Q
theorem kA:OpR X (binaryOp .Add) qh6:=by
 intro pins s σ H x y v u Q I rx ry h;obtain⟨l,b,xs,zs,rfl,rfl,hH,hB,hz,q⟩:=h
 cases rx
 cases ry
 obtain⟨z,its,n,r,hl,e⟩:=I.lstM hH;obtain⟨z2,its2,n2,r2,hl2,e2⟩:=I.lstM hB;refine PySem.P.add_list e e2 ?_ (by rw[size_toArray,size_toArray];lia);have ea:its.toArray++its2.toArray=(its++its2).toArray:=by simp
 rw[ea];exact⟨.ref _,_,I.lnew (t':=s.toks) (r.append r2) (by rw[List.length_append];lia),rfl,q _ I.fresh⟩
inductive qf6 (x:V) (y:V) (H:Hp) (Q:VK):Prop where
 |mk (l k xs):x=.ref l->y=.int k->H l=some (.lst xs)->-(2 ^ 63)<=k->k < 2 ^ 63->xs.length*k.toNat<=sizeLine->(∀p,H p=none->Q (.ref p) (upd H p (.lst (replicate k.toNat xs).flatten)))->qf6 x y H Q
theorem Wf {α:Type}(xs:List α)(k:Nat):(replicate k xs).flatten.length=k*xs.length:=by
 induction k with
 |zero=>simp
 |succ k ih=>rw[replicate_succ,flatten_cons,List.length_append,ih,Nat.succ_mul,Nat.add_comm]
theorem qO:OpR X (binaryOp .Mult) qf6:=by
 intro pins s σ H x y v u Q I rx ry h;obtain⟨l,k,xs,rfl,rfl,hH,h1,h2,hz,q⟩:=h
 cases rx
 obtain⟨t,rfl⟩:=ry;obtain⟨z,its,n,r,hl,e⟩:=I.lstM hH;have hlen:its.toArray.size*k.toNat<=sizeLine:=by rw[size_toArray,<- hl];exact hz
 have hcap:¬its.toArray.size*k.toNat > (2 ^ 63 - 1) / 8:=by
  have:(sizeLine:Nat)<=(2 ^ 63 - 1) / 8:=by decide
  lia
 have hfit:¬(!Builtin.List.listFitsIndex k)=true:=by
  rw[fitsIndex_both h1 h2];exact Bool.false_ne_true
 have hlong:¬Builtin.List.listTooLong (its.toArray.size*k.toNat)=true:=by
  rw[Pq hlen];exact Bool.false_ne_true
 have hnew:foldl (fun x1 x2=>x1++x2) #[] (replicate (if its.toArray.isEmpty=true then 0 else k.toNat) its.toArray)=(replicate k.toNat its).flatten.toArray:=by
  have f0:∀m:Nat,foldl (fun x1 x2=>x1++x2) #[] (replicate m its.toArray)=(replicate m its).flatten.toArray:=fun m=>by
   have:=wZ its m [];rw[nil_append] at this;exact this
  rw[f0]
  cases its with
  |nil=>simp
  |cons a r'=>rw[if_neg (by simp)]
 refine wpAny_binaryOp_repeat_ref (T:="list") (U:="int") (by decide) ⟨_,e,rfl⟩ (fun s'=>typeIs_int s' k t) noFill_list_mul F.fills_int_mul F.slot_int_rmul repeat_list F.slot_int_index.lookup
  (call_meets F.slot_int_rmul (typeIs_int s k t) F.entry_int_rmul (F.args_int_rmul_2 _ _) (int___rmul___int_list k t l its.toArray n)
   ⟨e,rfl,⟨_,e,rfl⟩,call_meets F.slot_list_mul ⟨_,e,rfl⟩ F.entry_list_mul (F.args_list_mul_2 _ _) (AutoListH.list___mul___list_int_3 l its.toArray n k t hfit hcap hlong) ⟨e,?_⟩⟩)
 rw[hnew];exact⟨.ref _,_,I.lnew (t':=s.toks) (r.rep k.toNat) (by rw[Wf,Nat.mul_comm];exact hz),rfl,q _ I.fresh⟩
end
end L2
namespace Att
open PySem PySem.W PySem.Calls PyProof.Rows
theorem rY:∀(ns:List Int) (vs:List Value),WellAll P h vs (ns.map WData.int)->IntsAre vs ns:=by
 intro ns
 induction ns with
 |nil=>
  intro vs w;rw[map_nil] at w
  cases w
  exact .nil
 |cons n ns ih=>
  intro vs w;rw[map_cons] at w
  cases w with
  |cons a b=>
   cases a
   exact .cons _ _ (ih _ b)
theorem Ly {l:OpenLaw}(hn:l.most=some n)(hpre:l.row.toRowW.claim.pre args=true)(hwl:WellAll P h vals args):
  ∃a vs ns,vals=[Value.ref a]/\args=[WData.list (ns.map WData.int)]/\h.get? a=some { cls:=.type "list",data:=.seq vs.toArray }/\IntsAre vs ns/\ns.length<=n:=by
 have hsh:WShape.hasAll [] args [.list .int]=true:=(pre_splitW hpre).1;have hc:l.pre.holds [] { args:=args }=true:=(pre_splitW hpre).2;obtain⟨d,r,rfl,h1,h2⟩:=hasAllW_cons hsh;obtain rfl:=hasAllW_nil h2;obtain⟨xs,rfl,h3⟩:=hasW_list h1;obtain⟨ns,rfl⟩:=items_int h3;have hlen:ns.length<=n:=by
  unfold OpenLaw.pre at hc;have h4:(WTm.not (.lt (.lit (.int (n:Int))) (.len (.arg 0)))).holds [] { args:=[.list (ns.map .int)] }=true:=by
   have h4:=(holds_andW hc).1;rw[hn] at h4;exact h4
  have h5:=condW_of h4 (w_not (w_lt w_lit (w_len_list (w_arg rfl))));rw[length_map] at h5;refine Nat.le_of_not_lt fun q=>?_;have q':(n:Int) < ((ns.length:Nat):Int):=by lia
  first
   | (rw[decide_eq_true q'] at h5;exact absurd h5 (by decide))
   | (simp at h5;lia)
 cases hwl with
 |cons w1 w2=>
  cases w2
  cases w1 with
  |list ho hall=>exact⟨_,_,ns,rfl,rfl,ho,rY ns _ hall,hlen⟩
theorem Lr (l:OpenLaw)(args:List WData):l.row.toRowW.claim.post args (.bool true) args=true:=
 postW_of (r:=l.row.toRowW) (X:=(true == true))
  (show WShape.has [] (.bool true) .bool=true by first | rfl | decide | simp[WShape.has,WShape.arms,WShape.armsAll])
  (show (WTm.eq .res (.lit (.bool true))).value [] { args:=args,res:=some (.bool true),after:=args }=some (.bool (true == true)) from w_eq_bool (w_res rfl) w_lit) rfl
theorem attach_call {l:OpenLaw}(hn:l.most=some n)(hdf:d.params.defaults=[])(call:∀(w:World) (s₀ s₁:Shared) (mg mb:Str->Option Value) (fa:Addr) (o:Obj) (pm cd doc:Value) (a:Addr) (vs:List Value) (ns:List Int),
   Ground q loose [] XP w s₀ mg mb s₁.heap->YP w s₁.heap->
   s₁.heap.get? fa=some o->o.data=.func (docDef d.name d.params d.body d.scope pm cd doc)->s₁.heap.CodeRec cd d.name->mg d.name=some (.ref fa)->
   s₁.heap.get? a=some { cls:=.type "list",data:=.seq vs.toArray }->IntsAre vs ns->ns.length<=n->s₁.gens=#[]->
   codeAny (model l.prog w) callerA (.call (.ref fa) ⟨[.ref a],[]⟩) (fun r s'=>r=.ok (.ret (.bool true))/\OldK s₁.heap s'.heap/\s'.os=s₁.os/\AllBare s'.gens) s₁):
  WalkO q loose XP YP l.row.toRowW d [] (fun f vs=>PySem.call f vs):=by
 intro w s₀ s₁ mg mb G Y fa o pm cd doc dV kV ho hd hcd hD hmg hg args vals as hpre hlay hrd hwl hlo;obtain rfl:dV=.none:=Dflts.none hD hdf;obtain rfl:kV=.none:=Dflts.noKw hD;obtain⟨a,vs,ns,rfl,rfl,hobj,hints,hlen⟩:=Ly hn hpre hwl;refine enter_call (codeAny_mono (call w s₀ s₁ mg mb fa o pm cd doc a vs ns G Y ho (fd_plain hd) hcd hmg hobj hints hlen hg) fun r s' hq=>?_);obtain⟨rfl,h2,h3,h4⟩:=hq;exact⟨.inl ⟨.bool true,.bool true,[],rfl,fun _=>rfl,.bool true,Lr l _,fun _=>⟨Pairwise.nil,fun _ hm=>(nomatch hm)⟩⟩,h2,h3,h4⟩
end Att
namespace L2
open PySem PySem.Spec PyProof.Rows
theorem xO:∀{vs:List Value} {ns:List Int},IntsAre vs ns->bV (ns.map V.int) vs
 |_,_,.nil=>.nil
 |_,_,.cons n t h=>.cons ⟨t,rfl⟩ (xO h)
def qc2 (H:Hp):Prop:=∀b,H b=none\/∃o xs,H b=some (.frz o (.lst xs))
theorem Ot {K:Frag}(KX:K.In s₁.heap)(hns:s₁.heap.Ns mainGlobals mg)(hb:s₁.heap.Ns builtinsNs mb)(hbb:∀x:Str,x≠"__name__"->mb x=bootBuiltins x)(hlim:s₁.heap.NoLimit)(hg:s₁.gens=#[])(ha:s₁.heap.get? a=some { cls:=.type "list",data:=.seq vs.toArray })(hi:IntsAre vs ns)(hl:ns.length<=sizeLine)(hr:gH k callerA)(F:∀base:Heap,K.In base->base.Ns mainGlobals mg->aK P w K mg base CX k fa fd [x] sp)(hbind:∀(s:Shared) (u:Value),BindsTo s fd ⟨[u],[]⟩ [(x,u)])(hsp:∀H:Hp,qc2 H->SqL K H a (ns.map V.int)->sp [.ref a] H (fun v _=>v=.bl true) fun _ _ _=>False)(hCX:∀H e s',CX [] H s₁ (fun _ _ _=>False) e s'->False):
  codeAny (model P w) callerA (.call (.ref fa) ⟨[.ref a],[]⟩) (fun r s'=>r=.ok (.ret (.bool true))/\OldK s₁.heap s'.heap/\s'.os=s₁.os/\AllBare s'.gens) s₁:=by
 have rv:=xO hi;have lenV:=hi.length;have core:∀H:Hp,qc2 H->SqL K H a (ns.map V.int)->HOk P w H s₁.heap->(∀b,H b≠none->b=a)->(H a≠none->K.lookup a=none)->
   codeAny (model P w) callerA (.call (.ref fa) ⟨[.ref a],[]⟩) (fun r s'=>r=.ok (.ret (.bool true))/\OldK s₁.heap s'.heap/\s'.os=s₁.os/\AllBare s'.gens) s₁:=by
  intro H hO hS hok hA hK;have base_of:∀{b:Addr} {o:Obj},s₁.heap.get? b=some o->H b=none->(yY s₁.heap H).get? b=some o:=fun e n=>Pp e n;have noA:∀{b:Addr} {o:Obj} {es:Array DictEntry} {ep:Nat},s₁.heap.get? b=some o->o.data=.dict es ep->H b=none:=fun {b o es ep} e d=>by
   cases q:H b with
   |none=>rfl
   |some u=>
    have e':b=a:=hA b (by rw[q];simp);subst e';rw[ha] at e;cases e;have d':Data.seq vs.toArray _=Data.dict es ep:=d
    cases d'
  have nsK:∀{b:Addr} {m:Str->Option Value},s₁.heap.Ns b m->(yY s₁.heap H).Ns b m:=fun {b m} ⟨o,es,ep,e,d,r⟩=>⟨o,es,ep,base_of e (noA e d),d,r⟩
  have hKb:K.In (yY s₁.heap H):=fun b o e=>base_of (KX b o e) (by
   cases q:H b with
   |none=>rfl
   |some u=>
    have e':b=a:=hA b (by rw[q];simp);subst e';rw[hK (by rw[q];simp)] at e;cases e)
  have hM:Mod K mg (yY s₁.heap H):=⟨hKb,nsK hns,⟨mb,nsK hb,hbb⟩,let ⟨mc,h1,h2⟩:=hlim;⟨mc,nsK h1,h2⟩⟩
  have e0:Hc P w K mg (yY s₁.heap H) callerA [] s₁ H:=⟨rfl,hM,fun b o e=>Uw e,Nat.le_of_eq (Lb _ _),trivial,fun b hb=>absurd (show b∈([]:List Addr) from hb) (by simp),hok,.of_eq hg⟩
  refine codeAny_mono ((F _ hKb (nsK hns)).run callerA [] s₁ H ⟨[.ref a],[]⟩ [.ref a] [.ref a] _ _ hr e0 (hbind s₁ (.ref a)) (.cons rfl .nil) (hsp H hO hS)) fun r s' h=>?_
  cases r with
  |error e=>exact(hCX H e s' h).elim
  |ok fl=>
   cases fl with
   |next=>exact False.elim h
   |brk=>exact False.elim h
   |cont=>exact False.elim h
   |ret u=>
    obtain⟨v,H',os,bare,un,hok',r',q⟩:=h;have q':v=.bl true:=q;subst q';obtain rfl:u=Value.bool true:=r';refine⟨rfl,OldK.of_keep fun b o e=>?_,os,bare⟩
    cases q:H b with
    |none=>exact un.keep b o e q (by intro z;exact absurd (show b∈([]:List Addr) from z) (by simp)) (by simp)
    |some u=>
     rcases hO b with z | ⟨ob,xs,z⟩
     ·rw[q] at z;cases z
     ·have z2:=un.frzs b ob _ z;obtain⟨e1,_⟩:=hok b _ z;obtain⟨e2,_⟩:=hok' b _ z2;rw[e] at e1;cases e1;exact e2
 cases hk:K.lookup a with
 |some o=>
  have e:=KX a o hk;rw[ha] at e
  cases e
  refine core (fun _=>none) (fun _=>.inl rfl) (.inr ⟨_,vs.toArray,_,hk,rfl,rfl,rfl,by rw[size_toArray,lenV];exact hl,by simpa using rv⟩) (fun b u z=>by have z':(none:Option HO)=some u:=z;cases z') (fun b z=>absurd rfl z) fun z=>absurd rfl z
 |none=>
  refine core (fun b=>if b=a then some (.frz { cls:=.type "list",data:=.seq vs.toArray } (.lst (ns.map V.int))) else none) (fun b=>?_) (.inl (.inr ⟨{ cls:=.type "list",data:=.seq vs.toArray },if_pos rfl⟩)) (fun b u z=>?_) (fun b z=>?_) fun _=>hk
  ·by_cases hb:b=a
   ·exact .inr ⟨_,_,if_pos hb⟩
   ·exact .inl (if_neg hb)
  ·by_cases hb:b=a
   ·have z':=(if_pos hb).symm.trans z
    cases z'
    subst hb;exact⟨ha,by rw[length_map];exact hl,vs,_,rv,ha⟩
   ·have z':=(if_neg hb).symm.trans z
    cases z'
  ·by_cases hb:b=a
   ·exact hb
   ·exact absurd (if_neg hb) z
abbrev KOf {K:Frag}{h:Heap}(_:K.In h):Frag:=K
theorem Ty {l:W.OpenLaw}{XP:(Str->Option Value)->Heap->Prop}{K:Params->Frag}{CX:World->CXT}{sp:World->Sp}(hn:l.most=some n)(hn2:n<=sizeLine)(hdf:d.params.defaults=[])(hr:gH k callerA)(hY:∀(w:World) (h:Heap),YP w h->(K w.params).In h)(F:∀(w:World) (mg:Str->Option Value) (fa:Addr) (h:Heap),(K w.params).In h->h.Ns mainGlobals mg->mg d.name=some (.ref fa)->
   ∃fd:FuncData,(∀(s:Shared) (u:Value),BindsTo s fd ⟨[u],[]⟩ [(x,u)])/\
    ∀base:Heap,(K w.params).In base->base.Ns mainGlobals mg->aK l.prog w (K w.params) mg base (CX w) k fa fd [x] (sp w))(hsp:∀(w:World) (H:Hp) (a:Addr) (ns:List Int),ns.length<=n->qc2 H->SqL (K w.params) H a (ns.map V.int)->sp w [.ref a] H (fun v _=>v=.bl true) fun _ _ _=>False)(hCX:∀(w:World) (H:Hp) (s:Shared) (e:Value) (s':Shared),CX w [] H s (fun _ _ _=>False) e s'->False):
  W.WalkO q loose XP YP l.row.toRowW d [] (fun f vs=>PySem.call f vs):=by
 refine Att.attach_call hn hdf fun w s₀ s₁ mg mb fa o pm cd doc a vs ns G Y ho hd hcd hmg hobj hints hlen hg=>?_;have KX:=hY w _ Y;obtain⟨fd,hb,hF⟩:=F w mg fa _ KX G.T.g hmg;exact Ot KX G.T.g G.T.b G.T.builtins G.T.nolimit hg hobj hints (Nat.le_trans hlen hn2) hr hF hb (fun H hO hS=>hsp w H a ns hlen hO hS) fun H e s'=>hCX w H s₁ e s'
def cX (s:Stmt)(j:Nat):Stmt:=match s with
 | .ClassDef _ _ _ body _ _ _ _ _ _ _=>body.getD j (.Pass ⟨0,0,0,0⟩)
 |_=>.Pass ⟨0,0,0,0⟩
def dY (s:Stmt):Arguments:=match s with
 | .FunctionDef _ a _ _ _ _ _ _ _ _=>a
 |_=>{ posonlyargs:=[],args:=[],vararg:=none,kwonlyargs:=[],kw_defaults:=[],kwarg:=none,defaults:=[] }
def cU (s:Stmt):List Stmt:=match s with
 | .FunctionDef _ _ b _ _ _ _ _ _ _=>b
 |_=>[]
def aH (s:Stmt):Scope:=match s with
 | .FunctionDef _ _ _ _ _ _ sc _ _ _=>sc
 |_=>{ kind:=.function,names:=[],isGenerator:=false,isCoroutine:=false }
abbrev CX0:CXT:=fun _ _ _ _ _ _=>False
abbrev E0:XK:=fun _ _ _=>False
theorem aM:jZ CX0 X E0:=fun _ _ _ _ _ _ _ h=>h.elim
theorem Cf (hr:gH k A):A.units+1 < cLine:=Nat.lt_of_le_of_lt (Nat.add_le_add_left (by decide:1<=64) _) hr.units
theorem bB (h:n<=1000):n < sizeLine:=Nat.lt_of_le_of_lt h (by decide)
section
variable {X:Cx}
theorem pv (i:Nat)(hN:X.N[i]?=some x:=by rfl)(hv:Vis X.env.scope x:=by first | exact Or.inl rfl | exact Or.inr (Or.inl rfl) | exact Or.inr (Or.inr rfl))(hd:(x == ("__debug__":Str))=false:=by decide)(hcd:(x == ("__classdict__":Str))=false:=by decide):PE X (.Name x pos) (Nz i):=Qh hN hv hd hcd
end
theorem iA {A B:Prop}(h:B):if false=true then A else B:=by
 rw[if_neg Bool.false_ne_true];exact h
theorem gC {A B:Prop}(h:A):if true=true then A else B:=by
 rw[if_pos rfl];exact h
theorem zP {c A B:Prop}[Decidable c](h1:c->A)(h2:¬c->B):if c then A else B:=by
 by_cases h:c
 ·rw[if_pos h];exact h1 h
 ·rw[if_neg h];exact h2 h
def aS (H H':Hp):Prop:=∀b o,H b=some o->H' b=some o
theorem aS.refl (H:Hp):aS H H:=fun _ _ h=>h
theorem aS.trans (a:aS H H1)(b:aS H1 H2):aS H H2:=fun c o h=>b c o (a c o h)
theorem aS.free (e:aS H H')(h:H' l=Option.none):H l=Option.none:=by
 cases q:H l with
 |none=>rfl
 |some o=>
  rw[e l o q] at h
  cases h
theorem aS.seq {K:Frag}(e:aS H H')(h:SqL K H a xs):SqL K H' a xs:=by
 rcases h with (h | ⟨o,h⟩) | h
 ·exact .inl (.inl (e _ _ h))
 ·exact .inl (.inr ⟨o,e _ _ h⟩)
 ·exact .inr h
section
variable {X:Cx}
def Bt (n:Nat)(i:Int):Prop:=i.natAbs < 2 ^ n
theorem wL (h:Bt n i):Builtin.Int.intBits i<=n:=by
 unfold Builtin.Int.intBits;split
 ·exact Nat.zero_le _
 ·rename_i h0
  have hp:i.natAbs≠0:=by
   intro z;apply h0;simp at z ⊢;exact z
  have:i.natAbs.log2 < n:=(Nat.log2_lt hp).mpr h;lia
def Tz (i j:Int):Prop:=∃n m,Bt n i/\Bt m j/\n<=1048576/\m<=1048576
theorem Tz.ok (h:Tz i j):IntMulOk i j:=by
 obtain⟨n,m,h1,h2,h3,h4⟩:=h;have e:(2:Nat) ^ 20=1048576:=by decide
 exact IntMulOk.of_bits (by have:=wL h1;lia) (by have:=wL h2;lia)
theorem cW:OpR X (binaryOp .Mult) (rI Tz fun i j=>.int (i*j)):=opI fun _ _ _ _ _ _ _ hc q=>mul_int q hc.ok
def Jb (i j:Int):Prop:=j≠0/\∃n,Bt n j/\n<=9000
theorem Jb.ok (h:Jb i j):Builtin.divisionGoesByPylong i j=false:=by
 obtain⟨h0,n,h1,h2⟩:=h;refine PyProof.noPylong_of_log2 ?_;have hp:j.natAbs≠0:=by lia
 have:j.natAbs.log2 < n:=(Nat.log2_lt hp).mpr h1;lia
theorem jK:OpR X (binaryOp .FloorDiv) (rI Jb fun i j=>.int (i.fdiv j)):=opI fun _ _ _ _ _ _ _ hc q=>floordiv_int hc.1 q (.inl hc.ok)
mutual
inductive oR (K:Frag) (H:Hp):V->PyData->Prop where
 |non:oR K H .non .none
 |bl (b:Bool):oR K H (.bl b) (.bool b)
 |int (i:Int):oR K H (.int i) (.int i)
 |str (x:Str):oR K H (.str x) (.str x)
 |lst {a:Addr} {xs:List V} {ds:List PyData} (h:SqL K H a xs) (q:vK K H xs ds):oR K H (.ref a) (.list ds)
 |tup {a:Addr} {xs:List V} {ds:List PyData} (h:SqT K H a xs) (q:vK K H xs ds):oR K H (.ref a) (.tuple ds)
inductive vK (K:Frag) (H:Hp):List V->List PyData->Prop where
 |nil:vK K H [] []
 |cons {x:V} {d:PyData} {xs:List V} {ds:List PyData} (p:oR K H x d) (q:vK K H xs ds):vK K H (x :: xs) (d :: ds)
end
theorem lD {H:Hp}(I:Inv X pins σ H s):∀{x:V} {d:PyData},oR X.K H x d->∀{u:Value},cC x u->∃as,Reads s.heap u d as:=by
 intro x d h
 induction h using oR.rec (motive_2:=fun xs ds _=>∀{us:List Value},bV xs us->∃as,ReadsAll s.heap us ds as) with
 |non=>intro u r;cases (show u=Value.none from r);exact⟨_,.none⟩
 |bl b=>intro u r;cases (show u=Value.bool b from r);exact⟨_,.bool b⟩
 |int i=>intro u r;obtain⟨t,rfl⟩:=(show ∃t,u=Value.int i t from r);exact⟨_,.int i t⟩
 |str y=>intro u r;obtain⟨t,rfl⟩:=(show ∃t,u=Value.str y t from r);exact⟨_,.str y t⟩
 |lst h q ih=>
  intro u r
  cases (show u=Value.ref _ from r)
  obtain⟨its,rv,pl,_⟩:=I.list h;obtain⟨as,ra⟩:=ih rv;obtain⟨o,h1,h2,n,h3⟩:=pl.isList;exact⟨_,.list h1 h2 h3 (by simpa using ra)⟩
 |tup h q ih=>
  intro u r
  cases (show u=Value.ref _ from r)
  obtain⟨its,rv,pl,_⟩:=I.tuple h;obtain⟨as,ra⟩:=ih rv;obtain⟨o,h1,h2,n,h3⟩:=pl;exact⟨_,.tuple h1 h2 h3 (by simpa using ra)⟩
 |nil=>rename_i us r;cases r;exact⟨_,.nil⟩
 |cons p q ih1 ih2=>
  rename_i us r
  cases r with
  |cons r1 r2=>
   obtain⟨as,h1⟩:=ih1 r1;obtain⟨bs,h2⟩:=ih2 r2;exact⟨_,.cons h1 h2⟩
inductive vL (K:Frag) (neg:Bool) (x:V) (y:V) (H:Hp) (Q:VK):Prop where
 |mk (d e):oR K H x d->oR K H y e->d.canLay0=true->e.canLay0=true->min d.depth e.depth<=16->Q (.bl (if neg then !PyData.eqv d e else PyData.eqv d e)) H->vL K neg x y H Q
theorem lB (hu:X.A.units+64 < cLine):OpR X (compareOp .Eq) (vL X.K false):=by
 intro pins s σ H x y v u Q I rx ry h;obtain⟨d,e,h1,h2,c1,c2,hm,q⟩:=h;obtain⟨as,r1⟩:=lD I h1 rx;obtain⟨bs,r2⟩:=lD I h2 ry;exact PySem.SeqAt.compareEq_reads r1 r2 c1 c2 (by lia) ⟨.bl (PyData.eqv d e),H,I,rfl,q⟩
theorem Gi (hu:X.A.units+64 < cLine):OpR X (compareOp .NotEq) (vL X.K true):=by
 intro pins s σ H x y v u Q I rx ry h;obtain⟨d,e,h1,h2,c1,c2,hm,q⟩:=h;obtain⟨as,r1⟩:=lD I h1 rx;obtain⟨bs,r2⟩:=lD I h2 ry;exact PySem.SeqAt.compareNe_reads r1 r2 c1 c2 (by lia) ⟨.bl (!PyData.eqv d e),H,I,rfl,q⟩
end
section
variable {prog:Program} {w:World} {A:Around} {R:Result->Shared->Prop} {s:Shared}
abbrev Xh (ifs:List Expr)(env:Env):Sem Bool:=forIn ifs true fun c r=>if r=true then do let ok <- isTrue c env (eval c env);pure (ForInStep.yield ok) else pure (ForInStep.yield r)
theorem Lv {elt target iter:Expr}(I:Nat->Shared->Prop)(turn:∀n s,I n s->wpAny (model prog w) A (pyNext it) (fun r s₁=>match r with
   |none=>R (.ok .next) s₁
   |some v=>wpAny (model prog w) A (letOwnedTupleGo target it v) (fun _ s₀=>wpAny (model prog w) A (assign target env v) (fun _ s₂=>
     wpAny (model prog w) A (Xh ifs env) (fun ok s₃=>
      if ok=true then wpAny (model prog w) A (eval elt env) (fun x s₄=>
       wpAny (model prog w) A (call (.builtin "list.append") [acc,x]) (fun _ s₅=>∃m,m < n/\I m s₅) (fun _ _=>False) s₄) (fun _ _=>False) s₃
      else ∃m,m < n/\I m s₃) (fun _ _=>False) s₂) (fun _ _=>False) s₀) (fun _ _=>False) s₁) (fun _ _=>False) s)(n:Nat)(h:I n s):
  codeAny (model prog w) A (.compLoop (.ListComp elt [⟨target,iter,ifs,0⟩] scope pos) 0 it acc env) R s:=by
 refine codeAny_loop rfl I (fun n s hI=>?_) n h;show wpAny _ A ((compTurn (.ListComp elt [⟨target,iter,ifs,0⟩] scope pos) 0 it acc env).onRaise (fun x=>do noteFrame x env;theTreesLotGoes x)) _ _ s;refine wpAny_noted ?_;rw[compTurn_list];refine wpAny_bind (wpAny_standAt (wpAny_bind (wpAny_mono (turn n s hI) (fun r s₁ h₁=>?_) fun _ _ z=>z.elim)))
 cases r with
 |none=>exact wpAny_pure h₁
 |some v=>
  refine wpAny_bind (wpAny_mono h₁ (fun _ s₀ h₀=>?_) fun _ _ z=>z.elim);refine wpAny_bind (wpAny_mono h₀ (fun _ s₂ h₂=>wpAny_bind (wpAny_mono h₂ (fun ok s₃ h₃=>?_) fun _ _ z=>z.elim)) fun _ _ z=>z.elim)
  cases ok with
  |false=>exact wpAny_pure ⟨rfl,h₃⟩
  |true=>
   rw[if_pos rfl] at h₃;show wpAny _ _ ((do let _ <- call (.builtin "list.append") [acc,<- eval elt env]) >>= fun _=>again (.compLoop (.ListComp elt [⟨target,iter,ifs,0⟩] scope pos) 0 it acc env)) _ _ _;exact wpAny_bind (wpAny_bind (wpAny_mono h₃ (fun x s₄ h₄=>wpAny_bind (wpAny_mono h₄ (fun _ s₅ h₅=>wpAny_pure (wpAny_pure ⟨rfl,h₅⟩)) fun _ _ z=>z.elim)) fun _ _ z=>z.elim))
end
structure Ab (X:Cx) (scope:Scope) (cl:List (Str × Addr)) (Nc:List Str) (nl:Nat) (fr:List Nat):Prop where
 clos:closureFor scope X.env=pure cl
 kind:scope.kind=.function
 names:∀y∈scope.names,y.2=.local->scope.names.lookup y.1=some .local
 cell:∀y∈scope.names,y.2≠.cell
 sub:∀x c,cl.lookup x=some c->X.env.cells.lookup x=some c
 has:∀x,(relabel scope X.env).names.lookup x=some .cell\/(relabel scope X.env).names.lookup x=some .free->∃c,cl.lookup x=some c
 len:Nc.length=nl+fr.length
 tail:∀i n,Nc[nl+i]?=some n->∃j,fr[i]?=some j/\X.N[j]?=some n/\X.env.kindOf n=some .cell/\cl.lookup n=X.env.cells.lookup n/\((relabel scope X.env).names.lookup n=some .cell\/(relabel scope X.env).names.lookup n=some .free)
abbrev fI (X:Cx)(scope:Scope)(cl:List (Str × Addr))(Nc:List Str)(C:Addr)(s3:Shared)(H3:Hp)(fp:List Addr)(pins:List (Addr × Obj)):Cx:=
 { X with N:=Nc,s₀:=s3,H₀:=H3,env:=compEnvC scope cl C X.env,outer:=X.stack,ex:=fp,fn:=fun _=>false,pn:=X.pn++pins,xe:=fun _ _=>False }
def σC (nl:Nat)(fr:List Nat)(σ:St):St:=replicate nl none++fr.map fun j=>(σ[j]?).join
abbrev PIf (X:Cx)(ifs:List Expr)(t:TT):Prop:=
 ∀(pins:List (Addr × Obj)) (s:Shared) (σ:St) (H:Hp) (Q:Bool->Hp->Prop),Inv X pins σ H s->t σ H Q->wpAny (model X.prog X.w) X.A (Xh ifs X.env) (TP X pins σ Q) X.xe s
theorem gD:PIf X [] (fun _ H Q=>Q true H):=fun _ _ _ H _ I h=>wpAny_pure ⟨H,I,h⟩
theorem nX (h:PT X c t):PIf X [c] t:=fun pins s σ H Q I q=>wpAny_tests_one (h pins s σ H Q I q)
section
variable {X:Cx} {scope:Scope} {cl:List (Str × Addr)} {Nc:List Str} {nl:Nat} {fr:List Nat} {pins:List (Addr × Obj)} {σ:St} {H3:Hp} {s3:Shared} {fp:List Addr} {h4:Heap} {tk:Nat}
theorem Hk (ck:Ab X scope cl Nc nl fr)(I:Inv X pins σ H3 s3)(hf:∀b∈fp,oJ X pins H3 b)(hfs:∀b∈fp,b < s3.heap.objs.size)(hns:h4.Ns s3.heap.objs.size fun _=>none)(hk:∀b o,s3.heap.get? b=some o->h4.get? b=some o) :
  Inv (fI X scope cl Nc s3.heap.objs.size s3 H3 fp pins) [] (σC nl fr σ) H3 { s3 with heap:=h4,toks:=tk }:=by
 have stk:∀b∈frs X.stack,b∈X.env.locals :: X.fs:=I.stkSub;have nfs:∀b,b≠X.env.locals->b∉X.fs->b∉frs X.stack:=fun b h1 h2 z=>(mem_cons.mp (stk b z)).elim h1 h2;have ltc:∀x c,cl.lookup x=some c->c < s3.heap.objs.size:=fun x c e=>by
  obtain⟨v,z⟩:=I.cell x c (ck.sub x c e);exact z.lt
 refine⟨⟨I.ok.mod,ck.kind,I.ok.glob,I.ok.blt,Nat.le_refl _,fun x y c h1 h2=>I.ok.inj x y c (ck.sub x c h1) (ck.sub y c h2),fun x hx=>ck.has x hx,fun x c hz=>Bool.noConfusion hz,I.ok.hd,I.ok.frames,.inl rfl,fun b hb=>?_,I.bs,Nat.le_trans I.ok.bsz I.sz,fun b o e hb=>?_,fun b hb=>?_,I.stack,I.stkFree⟩,
  rfl,I.bare,Un.kept hk,⟨_,hns,fun i x v h1 h2 h3=>?_⟩,fun x c e=>?_,I.hok.fresh (Nat.le_refl _),fun x c e=>I.freeC x c (ck.sub x c e),fun p hp=>?_,I.hok.kept hk,?_⟩
 ·obtain⟨f0,f1,f2,f3,f4,f5⟩:=hf b hb;exact⟨Nat.ne_of_lt (hfs b hb),fun x c e=>f4 x c (ck.sub x c e)⟩
 ·obtain⟨f0,f1,f2,f3,f4,f5⟩:=hf b hb;rcases f3 with z | z
  ·exact I.ok.noex b o e z
  ·exact absurd (Nat.lt_of_lt_of_le (Heap.lt_size e) (Nat.le_trans I.ok.bsz z)) (Nat.lt_irrefl _)
 ·obtain⟨f0,f1,f2,f3,f4,f5⟩:=hf b hb;exact nfs b f1 f2
 ·-- a name's value
  unfold σC at h2
  by_cases hi:i < nl
  ·rw[getElem?_append_left (by simpa using hi),getElem?_replicate] at h2;split at h2<;>cases h2
  ·have hi':nl<=i:=by lia
   rw[getElem?_append_right (by simpa using hi'),length_replicate,getElem?_map] at h2;obtain⟨k,rfl⟩:∃k,i=nl+k:=⟨i - nl,by lia⟩
   obtain⟨j,e1,e2,e3,e4,e5⟩:=ck.tail k x h1;rw[Nat.add_sub_cancel_left,e1] at h2;have h2':(σ[j]?).join=some v:=by simpa using h2
   have h2'':σ[j]?=some (some v):=by
    cases q:σ[j]? with
    |none=>rw[q] at h2';cases h2'
    |some z=>rw[q] at h2';exact congrArg some h2'
   obtain⟨m,hn,hl⟩:=I.loc;obtain⟨u,r,l⟩:=hl j x v e2 h2'' (.inr (.inl e3));refine⟨u,r,?_⟩;rcases l with ⟨k1,_⟩ | ⟨k1,c,ec,z⟩
   ·rw[e3] at k1;cases k1
   ·obtain⟨o,ho,hd⟩:=z;exact .inr ⟨e5,c,by show cl.lookup x=some c;rw[e4];exact ec,o,hk _ _ ho,hd⟩
 ·obtain⟨v,o,ho,hd⟩:=I.cell x c (ck.sub x c e);exact⟨v,o,hk _ _ ho,hd⟩
 ·have hp':p∈X.pn++pins:=by simpa using hp
  obtain⟨e,n,ne,nf,d⟩:=I.pin p hp';exact⟨hk _ _ e,n,Nat.ne_of_lt (Heap.lt_size e),nfs _ ne nf,d⟩
 ·unfold σC;show _=Nc.length;rw[List.length_append,length_replicate,length_map,ck.len]
theorem Nr (I:Inv X pins σ H3 s3)(hf:∀b∈fp,oJ X pins H3 b)(J:Inv (fI X scope cl Nc s3.heap.objs.size s3 H3 fp pins) pins' σ' H' s'):Inv X pins σ H' s'/\oJ X pins H' s3.heap.objs.size:=by
 refine⟨I.call' (ch:=fp) J.os J.base J.hok J.bare fun b hb=>?_,I.fpOk (Nat.le_refl _) J.free⟩;obtain⟨f0,f1,f2,f3,f4,f5⟩:=hf b hb;exact⟨f3,f1,f4,f5⟩
theorem Inv.off (I:Inv X pins σ H s)(f:oJ X pins H b)(hs:Heap.SameBut b s.heap h'):Inv X pins σ H { s with heap:=h' }:=by
 obtain⟨f0,f1,f2,f3,f4,f5⟩:=f;exact I.turned (t':=s.toks) (it:=b) (fun c o hb e=>(hs.2 c hb).trans e) f0 f1 f3 f4 f5
end
def De (J:It)(nl:Nat)(fr:List Nat)(g:TG)(tt:TT)(te:TE)(σ:St)(D:Addr)(H1:Hp)(Q:VK):Prop:=
 ∃W:Nat->Nat->List V->Hp->Prop,(∃m,W 0 m [] (upd H1 D (.lst [])))/\∀i m ys H2,W i m ys H2->H2 D=some (.lst ys)/\
  ((J.stop i H2/\Q (.ref D) H2)\/(J.go i H2/\∀x H3,J.yld i H2 x H3->g x (σC nl fr σ) H3 fun σ2 H4=>σ2.length=(σC nl fr σ).length/\(∀(i:Nat) v,(σC nl fr σ)[i]?=some (some v)->σ2[i]?=some (some v))/\
   tt σ2 H4 fun b H5=>if b=true then te σ2 H5 fun y H6=>H6 D=some (.lst ys)/\ys.length < sizeLine/\∃m',m' < m/\W (i+1) m' (ys++[y]) (upd H6 D (.lst (ys++[y])))
    else ∃m',m' < m/\W (i+1) m' ys H5))
def Mz (wi:TI)(nl:Nat)(fr:List Nat)(g:TG)(tt:TT)(te:TE):TE:=fun σ H Q=>wi σ H fun J H1=>∀D,H1 D=none->De J nl fr g tt te σ D H1 Q
section
variable {X:Cx} {scope:Scope} {cl:List (Str × Addr)} {Nc:List Str} {nl:Nat} {fr:List Nat} {elt tg iter:Expr} {ifs:List Expr} {pos:Pos} {wi:TI} {g:TG} {tt:TT} {te:TE}
theorem Dk (hc:X.calm=true)(ck:Ab X scope cl Nc nl fr)(hi:PI X tg iter wi)(hg:∀C s3 H3 fp pins,PG (fI X scope cl Nc C s3 H3 fp pins) tg g)(ht:∀C s3 H3 fp pins,PIf (fI X scope cl Nc C s3 H3 fp pins) ifs tt)(he:∀C s3 H3 fp pins,PE (fI X scope cl Nc C s3 H3 fp pins) elt te)(I:Inv X pins σ H s)(h:Mz wi nl fr g tt te σ H Q){RR:Value->Addr->Result->Shared->Prop}(fin:∀D C s',(∃H',(∃m,s'.heap.Ns C m)/\Inv X pins σ H' s'/\oJ X pins H' C/\Q (.ref D) H')->RR (.ref D) C (.ok .next) s'):
  wpAny (model X.prog X.w) X.A (eval iter X.env) (fun x s₁=>wpAny (model X.prog X.w) X.A (pyIter x) (fun it s₂=>wpAny (model X.prog X.w) X.A (newList []) (fun acc s₃=>
   wpAny (model X.prog X.w) X.A (newFunctionEnv scope X.env.globals cl [] X.env.qual none .none (some X.env)) (fun cenv s₄=>
    codeAny (model X.prog X.w) X.A (.compStart (.ListComp elt [⟨tg,iter,ifs,0⟩] scope pos) 0 it acc { cenv with scope:=relabel scope X.env }) (RR acc cenv.locals) s₄) X.xe s₃) X.xe s₂) X.xe s₁) X.xe s:=by
 refine thn (hi pins s σ H _ I h) fun v s1 h1=>thn h1 fun itv s2 h2=>?_;obtain⟨it,fp,tn,J,H2,e,I2,T,st2,f2,hD⟩:=h2;subst e;have hn2:H2 s2.heap.objs.size=none:=I2.hok.fresh (Nat.le_refl _);obtain⟨W,⟨m0,w0⟩,turn⟩:=hD s2.heap.objs.size hn2;refine wpAny_newObj_type (wpAny_newFunctionEnv ck.cell (by intro y hy;simp at hy) (fun h4 hns hsb=>?_) ck.kind);dsimp only at hns hsb ⊢;have I3:Inv X pins σ (upd H2 s2.heap.objs.size (.lst [])) { s2 with heap:=s2.heap.push { cls:=.type "list",dict:=none,data:=.seq ([]:List Value).toArray } }:=
  I2.laid (t':=s2.toks) (fun b u e=>Heap.get?_push_of_some _ e) (Nat.le_refl _) ⟨Nat.zero_le _,[],0,.nil,Heap.get?_push_size _ rfl⟩
 have hfs:∀b∈fp,b < s2.heap.objs.size:=fun b hb=>by
  obtain⟨o,e,_⟩:=T.obj 0 _ st2 b hb;exact Heap.lt_size e
 have f3:∀b∈fp,oJ X pins (upd H2 s2.heap.objs.size (.lst [])) b:=fun b hb=>⟨by rw[aQ (Nat.ne_of_lt (hfs b hb))];exact(f2 b hb).1,(f2 b hb).2⟩
 generalize hH3:upd H2 s2.heap.objs.size (.lst [])=H3 at *
 generalize hs3:({ s2 with heap:=s2.heap.push { cls:=.type "list",dict:=none,data:=.seq ([]:List Value).toArray } }:Shared)=s3 at *
 have z3:s3.heap=s2.heap.push { cls:=.type "list",dict:=none,data:=.seq ([]:List Value).toArray }:=by rw[<- hs3]
 have hsz3:s3.heap.objs.size=s2.heap.objs.size+1:=by rw[z3,Heap.size_push]
 rw[<- z3] at hns hsb ⊢;have hk4:∀b o,s3.heap.get? b=some o->h4.get? b=some o:=fun b o e=>hsb.extBut b o (Nat.ne_of_lt (Heap.lt_size e)) (Heap.get?_push_of_some _ e);have hfs3:∀b∈fp,b < s3.heap.objs.size:=fun b hb=>Nat.lt_of_lt_of_le (hfs b hb) (by rw[hsz3];exact Nat.le_succ _);have hns':h4.Ns s3.heap.objs.size fun _=>none:=by simpa using hns
 have K0:=fun tk=>Hk (tk:=tk) ck I3 f3 hfs3 hns' hk4;have stat:∀{H':Hp},(∀b∈fp,H' b=none)->∀b∈fp,oJ (fI X scope cl Nc s3.heap.objs.size s3 H3 fp pins) [] H' b:=fun {H'} hn b hb=>by
  obtain⟨f0,g1,g2,g3,g4,g5⟩:=f3 b hb;refine⟨hn b hb,Nat.ne_of_lt (hfs3 b hb),fun z=>?_,.inl hb,fun x c e=>g4 x c (ck.sub x c e),fun p hp=>g5 p (by simpa using hp)⟩;exact(mem_cons.mp (I3.stkSub b z)).elim g1 g2
 have st4:tn 0 h4:=T.keep 0 _ _ st2 fun b hb o e=>hk4 b o (by rw[z3];exact Heap.get?_push_of_some _ e);have loop:∀tk,codeAny (model X.prog X.w) X.A (.compLoop (.ListComp elt [⟨tg,iter,ifs,0⟩] scope pos) 0 (.ref it) (.ref s2.heap.objs.size) (compEnvC scope cl s3.heap.objs.size X.env)) (RR (.ref s2.heap.objs.size) s3.heap.objs.size) { s3 with heap:=h4,toks:=tk }:=by
  intro tk;refine Lv (fun n s'=>∃i ys H',Inv (fI X scope cl Nc s3.heap.objs.size s3 H3 fp pins) [] (σC nl fr σ) H' s'/\tn i s'.heap/\(∀b∈fp,H' b=none)/\W i n ys H') ?_ m0 ⟨0,[],H3,K0 tk,st4,fun b hb=>(f3 b hb).1,w0⟩;rintro n s5 ⟨i,ys,H5,I5,st5,fr5,w5⟩;obtain⟨hl5,q5⟩:=turn i n ys H5 w5;rcases q5 with ⟨stop,qn⟩ | ⟨go,step⟩
  ·refine wpAny_mono (T.done (fI X scope cl Nc s3.heap.objs.size s3 H3 fp pins) rfl rfl rfl hc i [] s5 (σC nl fr σ) H5 (fun _ _=>False) I5 (stat fr5) st5 stop) (fun r s6 h6=>?_) fun _ _ z=>z;obtain⟨hr,I6⟩:=h6;subst hr;obtain⟨z1,z2⟩:=Nr I3 f3 I6;refine fin _ _ _ ⟨H5,?_,z1,z2,qn⟩;obtain⟨m,hm,_⟩:=I6.loc;exact⟨m,hm⟩
  ·refine wpAny_mono (T.item (fI X scope cl Nc s3.heap.objs.size s3 H3 fp pins) rfl rfl rfl hc i [] s5 (σC nl fr σ) H5 (fun _ _=>False) I5 (stat fr5) st5 go) (fun r s6 h6=>?_) fun _ _ z=>z;obtain⟨u,hr,h6⟩:=h6;subst hr;refine wpAny_mono h6 (fun _ s7 h7=>?_) fun _ _ z=>z;obtain⟨x,H7,I7,r7,y7,st7,fr7⟩:=h7;have I7':=I7.pinned (stat fr7) (T.obj _ _ st7);refine wpAny_mono (hg s3.heap.objs.size s3 H3 fp pins _ s7 _ H7 x u _ I7' r7 (step x H7 y7)) (fun _ s8 h8=>?_) fun _ _ z=>z;obtain⟨σ8,H8,I8,l8,k8,q8⟩:=h8;refine wpAny_mono (ht s3.heap.objs.size s3 H3 fp pins _ s8 σ8 H8 _ I8 q8) (fun b s9 h9=>?_) fun _ _ z=>z;obtain⟨H9,I9,q9⟩:=h9;have again:∀{ys':List V} {H':Hp} {s':Shared} {m':Nat},Inv (fI X scope cl Nc s3.heap.objs.size s3 H3 fp pins) ([]++uF fp s7.heap) σ8 H' s'->m' < n->W (i+1) m' ys' H'->
     ∃m,m < n/\∃i ys H',Inv (fI X scope cl Nc s3.heap.objs.size s3 H3 fp pins) [] (σC nl fr σ) H' s'/\tn i s'.heap/\(∀b∈fp,H' b=none)/\W i m ys H':=fun {ys' H' s' m'} I' hm w'=>by
    refine⟨m',hm,i+1,ys',H',I'.unpinned.weak l8.symm k8,T.keep _ _ _ st7 fun b hb o e=>(I'.pin (b,o) (mem_append_right _ (mem_append_right _ (kU hb e)))).1,fun b hb=>?_,w'⟩;obtain⟨o,e,d⟩:=T.obj _ _ st7 b hb;exact(I'.pin (b,o) (mem_append_right _ (mem_append_right _ (kU hb e)))).2.1
   cases b with
   |false=>
    rw[if_neg Bool.false_ne_true] at q9 ⊢;obtain⟨m',hm,w9⟩:=q9;exact again I9 hm w9
   |true=>
    rw[if_pos rfl] at q9 ⊢;refine wpAny_mono (he s3.heap.objs.size s3 H3 fp pins _ s9 σ8 H9 _ I9 q9) (fun yv s10 h10=>?_) fun _ _ z=>z;obtain⟨y,H10,I10,r10,hl10,hz10,m',hm,w10⟩:=h10;refine wpAny_mono (dU (X:=fI X scope cl Nc s3.heap.objs.size s3 H3 fp pins) _ s10 σ8 H10 (.ref s2.heap.objs.size) [y] _ [yv] (fun v H'=>H'=upd H10 s2.heap.objs.size (.lst (ys++[y]))) I10 rfl (.cons r10 .nil) ⟨_,ys,y,rfl,rfl,hl10,hz10,rfl⟩) (fun _ s11 h11=>?_) fun _ _ z=>z;obtain⟨_,H11,I11,_,e11⟩:=h11;subst e11;exact again I11 hm w10
 have L:=loop (s2.toks+([]:List (Str × Value)).length);rw[show s3.gens=s2.gens by rw[<- hs3],show s3.drawn=s2.drawn by rw[<- hs3],show s3.os=s2.os by rw[<- hs3]] at L;exact codeAny_compStart_list L (T.self _ 0 _ _ _ st4 L)
theorem eQ (hc:X.calm=true)(ck:Ab X scope cl Nc nl fr)(hi:PI X tg iter wi)(hg:∀C s3 H3 fp pins,PG (fI X scope cl Nc C s3 H3 fp pins) tg g)(ht:∀C s3 H3 fp pins,PIf (fI X scope cl Nc C s3 H3 fp pins) ifs tt)(he:∀C s3 H3 fp pins,PE (fI X scope cl Nc C s3 H3 fp pins) elt te)(hs:∀x,foldedSetIterable iter X.env x=pure x:=by intro _;rfl):PE X (.ListComp elt [⟨tg,iter,ifs,0⟩] scope pos) (Mz wi nl fr g tt te):=by
 intro pins s σ H Q I h;rw[eval_ListComp];refine wpAny_comprehension_free (use:=none) rfl hs ck.clos ck.kind ck.names (Dk (RR:=fun acc C=>compPost (model X.prog X.w) X.A X.xe none (EP X pins σ Q) acc C) hc ck hi hg ht he I h fun D C s' hh=>?_);obtain⟨H',⟨m,hm⟩,hI,hF,q⟩:=hh;exact⟨m,hm,fun h' hs'=>⟨.ref D,H',hI.off hF hs',rfl,q⟩⟩
theorem Ar (hN:X.N.Nodup)(hiy:X.N[i]?=some y)(hy:X.env.scope.names.lookup y=some .local)(hc:X.calm=true)(ck:Ab X scope cl Nc nl fr)(hi:PI X tg iter wi)(hg:∀C s3 H3 fp pins,PG (fI X scope cl Nc C s3 H3 fp pins) tg g)(ht:∀C s3 H3 fp pins,PIf (fI X scope cl Nc C s3 H3 fp pins) ifs tt)(he:∀C s3 H3 fp pins,PE (fI X scope cl Nc C s3 H3 fp pins) elt te)(hsw:swapsWith (.ListComp elt [⟨tg,iter,ifs,0⟩] scope pos) (some (.Name y py)) spos.line X.env=pure true)(hs:∀x,foldedSetIterable iter X.env x=pure x:=by intro _;rfl):PS X (.Assign [.Name y py] (.ListComp elt [⟨tg,iter,ifs,0⟩] scope pos) spos) (Yf (Mz wi nl fr g tt te) (hV i)):=by
 intro pins s σ H D I h;rw[exec_Assign_Name_used _ _ _ _ hsw];refine wpAny_bind (wpAny_standAt (wpAny_bind ?_));show wpAny _ X.A (do let _ <- comprehension (.ListComp elt [⟨tg,iter,ifs,0⟩] scope pos) scope X.env _ (newList []) false (eval iter X.env) (some (assign (.Name y py) X.env))) _ _ s;refine wpAny_bind (wpAny_mono (wpAny_comprehension_free (use:=some (assign (.Name y py) X.env)) (Q:=fun _ s'=>SP X pins D .next s') rfl hs ck.clos ck.kind ck.names
  (Dk (RR:=fun acc C=>compPost (model X.prog X.w) X.A X.xe (some (assign (.Name y py) X.env)) (fun _ s'=>SP X pins D .next s') acc C) hc ck hi hg ht he I h fun Dd C s' hh=>?_)) (fun _ s' hq=>wpAny_pure (wpAny_pure hq)) fun _ _ e=>e)
 obtain⟨H',⟨m,hm⟩,hI,hF,q⟩:=hh;show wpAny _ X.A (assign (.Name y py) X.env (.ref Dd)) _ _ _;refine wpAny_assign_Name (yS hI hN hiy (.inl hy) (v:=.ref Dd) rfl (fun s2 I2 hsb=>?_) (.inr hy));obtain⟨a,sb,ha⟩:=hsb;have hCa:C≠a:=by
  rcases ha with z | z
  ·rw[z];exact hF.2.1
  ·exact Ne.symm (hF.2.2.2.2.1 y a z)
 refine⟨m,hm.sameBut sb hCa,fun h' hs'=>⟨_,H',I2.off hF hs',q⟩⟩
end
end L2
namespace Mq
abbrev Q2:=Int × Int
def gc (a b:Int):Int:=(Int.gcd a b:Nat)
theorem Kh (a b:Int):gc b (Int.fmod a b)=gc a b:=by
 unfold gc;rw[Int.fmod_def,Int.gcd_comm a b,Int.sub_eq_add_neg,<- Int.mul_neg,Int.gcd_add_mul_left_right]
theorem xC (h:b≠0):(Int.fmod a b).natAbs < b.natAbs:=by
 rcases (by lia:0 < b\/b < 0) with h1 | h1
 ·have:=Int.fmod_nonneg_of_pos a h1;have:=Int.fmod_lt_of_pos a h1;lia
 ·have h2:0 < -b:=by lia
  have e:Int.fmod a b=- Int.fmod (-a) (-b):=by
   rw[Int.neg_fmod_neg];lia
  have:=Int.fmod_nonneg_of_pos (-a) h2;have:=Int.fmod_lt_of_pos (-a) h2;lia
theorem Ka (a:Int):gc a 0=if a < 0 then -a else a:=by
 unfold gc;rw[Int.gcd_zero];split<;>lia
theorem Zi (a b:Int):gc (if a < 0 then -a else a) (if b < 0 then -b else b)=gc a b:=by
 unfold gc;split<;>split<;>simp
theorem vQ (h:b≠0):0 < gc a b:=by
 have:=Int.gcd_pos_of_ne_zero_right a h;unfold gc;lia
structure Low (p:Q2):Prop where
 pos:1<=p.2
 one:gc p.1 p.2=1
def dvr (t b:Int):Int:=if b < 0 then -gc t b else gc t b
def red (t b:Int):Q2:=(Int.fdiv t (dvr t b),Int.fdiv b (dvr t b))
theorem rJ (h:b≠0):dvr t b≠0:=by
 have:=vQ (a:=t) h;unfold dvr;split<;>lia
theorem fU (hg:g≠0)(h:a=g*k):Int.fdiv a g=k:=by
 rw[h,Int.mul_fdiv_cancel_left _ hg]
theorem Vs (t b:Int):dvr t b ∣ t/\dvr t b ∣ b:=by
 have h1:gc t b ∣ t:=Int.gcd_dvd_left t b;have h2:gc t b ∣ b:=Int.gcd_dvd_right t b;unfold dvr;split
 ·exact⟨Int.neg_dvd.mpr h1,Int.neg_dvd.mpr h2⟩
 ·exact⟨h1,h2⟩
theorem qJ (h:b≠0):t=dvr t b*(red t b).1/\b=dvr t b*(red t b).2:=by
 obtain⟨⟨x,hx⟩,⟨y,hy⟩⟩:=Vs t b;have hg:=rJ (t:=t) h;have e1:(red t b).1=x:=fU hg hx;have e2:(red t b).2=y:=fU hg hy;rw[e1,e2];exact⟨hx,hy⟩
theorem iV (h:b≠0):Low (red t b):=by
 obtain⟨h1,h2⟩:=qJ (t:=t) h;have hg:=rJ (t:=t) h;have hp:=vQ (a:=t) h;have nd:(dvr t b).natAbs=(gc t b).natAbs:=by unfold dvr;split<;>simp
 have e:Int.gcd t b=(dvr t b).natAbs*Int.gcd (red t b).1 (red t b).2:=by
  rw[<- Int.gcd_mul_left,<- h1,<- h2]
 have e2:(gc t b).natAbs=Int.gcd t b:=by unfold gc;simp
 rw[nd,e2] at e;have hp':0 < Int.gcd t b:=by unfold gc at hp;lia
 have one:Int.gcd (red t b).1 (red t b).2=1:=by
  have:Int.gcd t b*Int.gcd (red t b).1 (red t b).2=Int.gcd t b*1:=by lia
  exact Nat.eq_of_mul_eq_mul_left hp' this
 refine⟨?_,by unfold gc;rw[one];rfl⟩;have sgn:0 < (red t b).2:=by
  by_cases hb:b < 0
  ·have hd:dvr t b < 0:=by unfold dvr;rw[if_pos hb];lia
   have hq:¬(red t b).2<=0:=fun q=>by
    have:=Int.mul_nonneg_of_nonpos_of_nonpos (Int.le_of_lt hd) q;lia
   lia
  ·have hd:0 < dvr t b:=by unfold dvr;rw[if_neg hb];lia
   have hq:¬(red t b).2<=0:=fun q=>by
    have:=Int.mul_nonpos_of_nonneg_of_nonpos (Int.le_of_lt hd) q;lia
   lia
 lia
theorem yC (h:b≠0):(red t b).1*b=t*(red t b).2:=by
 obtain⟨h1,h2⟩:=qJ (t:=t) h;generalize (red t b).1=x at *
 generalize (red t b).2=y at *
 generalize dvr t b=g at *
 subst h1 h2;grind
theorem jL {a g k:Int}(hg:g≠0)(h:a=g*k):k.natAbs<=a.natAbs:=by
 rw[h,Int.natAbs_mul];exact Nat.le_mul_of_pos_left _ (by lia)
theorem rD (h:b≠0):(red t b).1.natAbs<=t.natAbs/\(red t b).2.natAbs<=b.natAbs:=by
 obtain⟨h1,h2⟩:=qJ (t:=t) h;exact⟨jL (rJ h) h1,jL (rJ h) h2⟩
theorem Hh (h:b≠0):(dvr t b).natAbs<=b.natAbs:=by
 have e:(dvr t b).natAbs=Int.gcd t b:=by unfold dvr gc;split<;>simp
 rw[e];exact Int.gcd_le_natAbs_right t h
theorem Qz (hp:Low p)(hq:Low q)(h:p.1*q.2=q.1*p.2):p=q:=by
 have gp:Int.gcd p.2 p.1=1:=by have:=hp.one;rw[Int.gcd_comm];unfold gc at this;lia
 have gq:Int.gcd q.2 q.1=1:=by have:=hq.one;rw[Int.gcd_comm];unfold gc at this;lia
 have d1:p.2 ∣ q.2:=by
  have:p.2 ∣ p.1*q.2:=⟨q.1,by rw[h,Int.mul_comm]⟩
  have:=Int.dvd_gcd_mul_iff_dvd_mul.mpr this;rw[gp] at this;simpa using this
 have d2:q.2 ∣ p.2:=by
  have:q.2 ∣ q.1*p.2:=⟨p.1,by rw[<- h,Int.mul_comm]⟩
  have:=Int.dvd_gcd_mul_iff_dvd_mul.mpr this;rw[gq] at this;simpa using this
 have l1:=Int.le_of_dvd (by have:=hq.pos;lia) d1;have l2:=Int.le_of_dvd (by have:=hp.pos;lia) d2;have e2:p.2=q.2:=by lia
 have e1:p.1=q.1:=by
  rw[e2] at h;exact Int.eq_of_mul_eq_mul_right (by have:=hq.pos;lia) h
 exact Prod.ext e1 e2
def jO (p q:Q2):Q2:=red (p.1*q.2+q.1*p.2) (p.2*q.2)
def minus (p q:Q2):Q2:=red (p.1*q.2 - q.1*p.2) (p.2*q.2)
def rV (p q:Q2):Q2:=red (p.1*q.1) (p.2*q.2)
def rA (p q:Q2):Q2:=red (p.1*q.2) (p.2*q.1)
def tot (l:List Q2):Q2:=l.foldl jO (0,1)
theorem gU {a b:Int}(ha:1<=a)(hb:1<=b):a*b≠0:=by
 have:=Int.mul_pos (show 0 < a by lia) (show 0 < b by lia);lia
theorem kC (hp:1<=p.2)(hq:1<=q.2):Low (jO p q):=iV (gU hp hq)
def B (n:Nat)(i:Int):Prop:=i.natAbs < 2 ^ n
structure Bd (n:Nat) (p:Q2):Prop where
 a:B n p.1
 b:B n p.2
theorem B.mono (h:B n i)(l:n<=m):B m i:=Nat.lt_of_lt_of_le h (Nat.pow_le_pow_right (by decide) l)
theorem B.mul (h:B n i)(q:B m j):B (n+m) (i*j):=by
 unfold B at *
 rw[Int.natAbs_mul,Nat.pow_add];exact Nat.mul_lt_mul'' h q
theorem B.add (h:B n i)(q:B n j):B (n+1) (i+j):=by
 unfold B at *
 have:=Int.natAbs_add_le i j;rw[Nat.pow_succ];lia
theorem B.neg (h:B n i):B n (-i):=by unfold B at *;lia
theorem B.sub (h:B n i)(q:B n j):B (n+1) (i - j):=by
 rw[Int.sub_eq_add_neg];exact h.add q.neg
theorem B.le (h:B n i)(l:j.natAbs<=i.natAbs):B n j:=Nat.lt_of_le_of_lt l h
theorem Bd.mono (h:Bd n p)(l:n<=m):Bd m p:=⟨h.a.mono l,h.b.mono l⟩
theorem Aa (h:Bd n p)(g:Bd m q)(hp:1<=p.2)(hq:1<=q.2):Bd (n+m+1) (jO p q):=by
 have k:=rD (t:=p.1*q.2+q.1*p.2) (gU hp hq);have a2:B (n+m) (q.1*p.2):=by rw[Nat.add_comm];exact g.a.mul h.b
 exact⟨((h.a.mul g.b).add a2).le k.1,((h.b.mul g.b).mono (Nat.le_succ _)).le k.2⟩
def Pos (l:List Q2):Prop:=∀f∈l,1<=f.2
theorem Ln:∀{p:Q2},Low p->Pos l->Low (l.foldl jO p):=by
 induction l with
 |nil=>intro p h _;exact h
 |cons x r ih=>intro p h k;exact ih (kC h.pos (k x (by simp))) fun f hf=>k f (by simp[hf])
theorem ql3:Low (0,1):=⟨Int.le_refl 1,rfl⟩
theorem Jy (h:Pos l):Low (tot l):=Ln ql3 h
end Mq
open Mq (Aa Hh Jy Ka Kh dvr fU gU gc iV rA rD rJ rV red tot xC)
namespace L2
open PySem PySem.Spec PyProof.Rows
structure aV (K:Frag) (x qual:Str) (st:Stmt) (dV:Value) (f:Addr) (fd:FuncData):Prop where
 ex:∃(oc:Value) (od:Option Addr) (kV doc pm:Value) (an:Option Addr) (cdv ct:Value) (osl:Array (Option Value)),
  fd=W.fnOf x qual (dY st) (cU st) (aH st) dV kV doc pm an cdv ct/\K.lookup f=some ⟨oc,od,.func fd,osl⟩/\W.codeIn K cdv qual=true
 kp:W.keepIn K (.ref f)=true
section
variable {P:Program} {w:World} {K:Frag} {mg:Str->Option Value} {base:Heap} {CX:CXT}
theorem aV.okX {st:Stmt}(F:aV K x qual st dV f fd)(S:aP N ps (aH st))(len:∀vs H Q E,sp vs H Q E->vs.length=ps.length)(hbody:∀(cdv:Value) (A:Around) (outer:List Env) (s:Shared) (H:Hp) (vs:List V) (Q:VK) (E:XK),gH k (A.deeper (envOfC qual (aH st) s.heap.objs.size f cdv))->sp vs H Q E->
   ∃t,PSs (wS CX P w K mg base N qual (aH st) f cdv A outer s H E) (cU st) t/\t { nx:=fun _ H'=>Q .non H',rt:=Q } (start N vs) H):aK P w K mg base CX (k+1) f fd ps sp:=by
 obtain⟨oc,od,kV,doc,pm,an,cdv,ct,osl,rfl,lk,hcd⟩:=F.ex;exact qh8 lk hcd S len fun A outer s H vs Q E hr hsp=>hbody cdv A outer s H vs Q E hr hsp
theorem aV.ok {st:Stmt}(F:aV K x qual st dV f fd)(S:aP N ps (aH st))(len:∀vs H Q E,sp vs H Q E->vs.length=ps.length)(hbody:∀(cdv:Value) (A:Around) (outer:List Env) (s:Shared) (H:Hp) (vs:List V) (Q:VK) (E:XK),gH k (A.deeper (envOfC qual (aH st) s.heap.objs.size f cdv))->sp vs H Q E->
   ∃t,PSs (wS CX P w K mg base N qual (aH st) f cdv A outer s H E).nox (cU st) t/\t { nx:=fun _ H'=>Q .non H',rt:=Q } (start N vs) H):aK P w K mg base CX (k+1) f fd ps sp:=
 F.okX S len fun cdv A outer s H vs Q E hr hsp=>by
  obtain⟨t,h,q⟩:=hbody cdv A outer s H vs Q E hr hsp;exact⟨t,h.nox,q⟩
theorem aV.ok9 {st:Stmt}(F:aV K x qual st dV f fd)(S:aP N ps (aH st))(hbody:∀(cdv:Value) (A:Around) (outer:List Env) (s:Shared) (H:Hp) (vs:List V) (Q:VK) (E:XK),gH k (A.deeper (envOfC qual (aH st) s.heap.objs.size f cdv))->sp vs H Q E->
   ∃t,PSs (wS CX P w K mg base N qual (aH st) f cdv A outer s H E).nox (cU st) t/\t { nx:=fun _ H'=>Q .non H',rt:=Q } (start N vs) H)(len:∀vs H Q E,sp vs H Q E->vs.length=ps.length:=by intro _ _ _ _ h;first|(cases h;subst_vars;rfl)|(repeat (first | (obtain⟨rfl,_⟩:=h;rfl) | obtain⟨_,h⟩:=h))):aK P w K mg base CX (k+1) f fd ps sp:=F.ok S len hbody
theorem aV.binds {st:Stmt}(F:aV K x qual st dV f fd)(h:∀(kV doc pm:Value) (an:Option Addr) (cdv ct:Value) (us:List Value),us.length=ps.length->bindArgs (W.fnOf x qual (dY st) (cU st) (aH st) dV kV doc pm an cdv ct) ⟨us,[]⟩=pure (ps.zip us)):aL K fd ps []:=by
 obtain⟨oc,od,kV,doc,pm,an,cdv,ct,osl,rfl,lk,hcd⟩:=F.ex;exact .all (h kV doc pm an cdv ct)
theorem tQ {st:Stmt}{kV doc pm cdv ct:Value}(l:K.lookup f=some ⟨oc,od,.func (W.fnOf x qual (dY st) (cU st) (aH st) dV kV doc pm an cdv ct),osl⟩)(c:W.codeIn K cdv qual=true)(k:kI9 K f):aV K x qual st dV f (W.fnOf x qual (dY st) (cU st) (aH st) dV kV doc pm an cdv ct):=⟨⟨oc,od,kV,doc,pm,an,cdv,ct,osl,rfl,l,c⟩,k⟩
end
abbrev fT (p:Mq.Q2):HO:=.tup [.int p.1,.int p.2]
def Fq (K:Frag)(H:Hp)(a:Addr)(p:Mq.Q2):Prop:=SqT K H a [.int p.1,.int p.2]
theorem aS.seqT {K:Frag}(e:aS H H')(h:SqT K H a xs):SqT K H' a xs:=by
 rcases h with (h | ⟨o,h⟩) | h
 ·exact .inl (.inl (e _ _ h))
 ·exact .inl (.inr ⟨o,e _ _ h⟩)
 ·exact .inr h
theorem aE (h:H p=none)(o:HO):aS H (upd H p o):=fun b u q=>by rw[aQ (aX q h)];exact q
theorem aS.fq {K:Frag}(e:aS H H')(h:Fq K H a p):Fq K H' a p:=e.seqT h
theorem Fq.of {K:Frag}(h:H a=some (fT p)):Fq K H a p:=SqT.of h
theorem eY {K:Frag}(hv:σ[i]?=some (some (.ref a)))(h:Fq K H a p)(q:Q (.int p.1) H):tOp (Si K) (Nz i) (tC (.int 0)) σ H Q:=
 ⟨_,hv,a,_,_,_,rfl,rfl,h,rfl,q⟩
theorem cQ {K:Frag}(hv:σ[i]?=some (some (.ref a)))(h:Fq K H a p)(q:Q (.int p.2) H):tOp (Si K) (Nz i) (tC (.int 1)) σ H Q:=
 ⟨_,hv,a,_,_,_,rfl,rfl,h,rfl,q⟩
theorem cV (h1:Mq.B n i)(h2:Mq.B m j)(h3:n<=1048576)(h4:m<=1048576)(q:Q (.int (i*j)) H):rI Tz (fun i j=>.int (i*j)) (.int i) (.int j) H Q:=
 ⟨_,_,rfl,rfl,⟨n,m,h1,h2,h3,h4⟩,q⟩
theorem fY (h1:j≠0)(h2:Mq.B n j)(h3:n<=9000)(q:Q (.int (i.fdiv j)) H):rI Jb (fun i j=>.int (i.fdiv j)) (.int i) (.int j) H Q:=
 ⟨_,_,rfl,rfl,⟨h1,n,h2,h3⟩,q⟩
structure Bl (mg:Str->Option Value):Prop where
 isi:mg "isinstance"=none
 int:mg "int"=none
 bool:mg "bool"=none
 abs:mg "abs"=none
def iI (t:Value):Prop:=t=.type "bool"\/t=.type "str"\/t=.type "NoneType"\/t=.type "tuple"\/t=.type "list"
inductive oC (K:Frag) (vs:List V) (H:Hp) (Q:VK) (E:XK):Prop where
 |mk (x):vs=[x]->((∃i,x=.int i/\Q (.bl true) H)\/(∃t,kD K H x t/\iI t/\Q (.bl false) H))->oC K vs H Q E
inductive Oc (vs:List V) (H:Hp) (Q:VK) (E:XK):Prop where
 |mk (a b:Int):vs=[.int a,.int b]->Q (.int (gc a b)) H->Oc vs H Q E
def Dn (H:Hp)(Q:VK)(p:Mq.Q2):Prop:=∀a H',aS H H'->H' a=some (fT p)->Q (.ref a) H'
inductive iR (vs:List V) (H:Hp) (Q:VK) (E:XK):Prop where
 |mk (t b:Int) (n:Nat):vs=[.int t,.int b]->b≠0->Mq.B n b->n<=9000->Dn H Q (red t b)->iR vs H Q E
inductive iN (K:Frag) (f:Mq.Q2->Mq.Q2->Mq.Q2) (vs:List V) (H:Hp) (Q:VK) (E:XK):Prop where
 |mk (a b:Addr) (p q:Mq.Q2) (n m:Nat):vs=[.ref a,.ref b]->Fq K H a p->Fq K H b q->1<=p.2->1<=q.2->Mq.Bd n p->Mq.Bd m q->n+m+1<=9000->Dn H Q (f p q)->iN K f vs H Q E
inductive Fqs (K:Frag) (H:Hp):List V->List Mq.Q2->Prop where
 |nil:Fqs K H [] []
 |cons {a:Addr} {p:Mq.Q2} {xs:List V} {ps:List Mq.Q2} (h:Fq K H a p) (q:Fqs K H xs ps):Fqs K H (.ref a :: xs) (p :: ps)
theorem Fqs.same {K:Frag}(e:aS H H'):∀{xs:List V} {ps:List Mq.Q2},Fqs K H xs ps->Fqs K H' xs ps
 |_,_,.nil=>.nil
 |_,_,.cons h q=>.cons (e.fq h) (Fqs.same e q)
theorem Fqs.length {K:Frag}:∀{xs:List V} {ps:List Mq.Q2},Fqs K H xs ps->xs.length=ps.length
 |_,_,.nil=>rfl
 |_,_,.cons _ q=>by simp[Fqs.length q]
theorem Fqs.get {K:Frag}:∀{xs:List V} {ps:List Mq.Q2} {i:Nat} {x:V},Fqs K H xs ps->xs[i]?=some x->∃a p,x=.ref a/\ps[i]?=some p/\Fq K H a p
 |_,_,_,_,.nil,h=>by simp at h
 |_,_,0,_,.cons h _,e=>by simp at e;exact⟨_,_,e.symm,rfl,h⟩
 |_,_,i+1,_,.cons _ q,e=>by simpa using Fqs.get q (by simpa using e)
theorem Fqs.app {K:Frag}:∀{xs ys:List V} {ps qs:List Mq.Q2},Fqs K H xs ps->Fqs K H ys qs->Fqs K H (xs++ys) (ps++qs)
 |_,_,_,_,.nil,r=>r
 |_,_,_,_,.cons h q,r=>.cons h (Fqs.app q r)
theorem Fq.upd {K:Frag}(h:Fq K H a p)(hl:H l=some (.lst xs)):Fq K (L2.upd H l o) a p:=by
 rcases h with (h | ⟨u,h⟩) | h
 ·exact .inl (.inl (by rw[aQ (fD h hl (fun z=>by cases z))];exact h))
 ·exact .inl (.inr ⟨u,by rw[aQ (fD h hl (fun z=>by cases z))];exact h⟩)
 ·exact .inr h
theorem Fqs.upd {K:Frag}(hl:H l=some (.lst ys)):∀{xs:List V} {ps:List Mq.Q2},Fqs K H xs ps->Fqs K (L2.upd H l o) xs ps
 |_,_,.nil=>.nil
 |_,_,.cons h q=>.cons (h.upd hl) (Fqs.upd hl q)
theorem aS.change (s:aS H H')(h:H l=none):aS H (L2.upd H' l o):=fun b u q=>by
 rw[aQ (aX q h)];exact s b u q
def qd (p:Mq.Q2):PyData:=.tuple [.int p.1,.int p.2]
theorem Fq.dat {K:Frag}(h:Fq K H a p):oR K H (.ref a) (qd p):=.tup h (.cons (.int _) (.cons (.int _) .nil))
theorem Pf (p:Mq.Q2):(qd p).canLay0=true:=rfl
theorem Ni (p:Mq.Q2):(qd p).depth<=1:=by simp[qd,PyData.depth,PyData.depthAll]
theorem qb7 (p q:Mq.Q2):PyData.eqv (qd p) (qd q)=decide (p=q):=by
 unfold qd;simp only[PyData.eqv,PyData.eqvAll]
 by_cases h:p=q
 ·subst h;simp
 ·rw[decide_eq_false h]
  by_cases h1:p.1=q.1
  ·have h2:p.2≠q.2:=fun z=>h (Prod.ext h1 z);simp[h2]
  ·simp[h1]
theorem Td {K:Frag}(h1:Fq K H a p)(h2:Fq K H b q)(z:Q (.bl (if neg then !decide (p=q) else decide (p=q))) H):vL K neg (.ref a) (.ref b) H Q:=by
 refine⟨_,_,h1.dat,h2.dat,Pf p,Pf q,?_,?_⟩
 ·have:=Ni p;lia
 ·rw[qb7];exact z
abbrev Jq (nl:Nat)(fr:List Nat)(g:TG)(tt:TT)(te:TE)(σ:St)(D:Addr)(Pv:Nat->List V->Hp->Prop)(i:Nat)(ys:List V)(x:V)(H:Hp):Prop:=
 g x (σC nl fr σ) H fun σ2 H4=>σ2.length=(σC nl fr σ).length/\(∀(i:Nat) v,(σC nl fr σ)[i]?=some (some v)->σ2[i]?=some (some v))/\
  tt σ2 H4 fun b H5=>if b=true then te σ2 H5 fun y H6=>H6 D=some (.lst ys)/\ys.length < sizeLine/\Pv (i+1) (ys++[y]) (upd H6 D (.lst (ys++[y]))) else Pv (i+1) ys H5
section
variable {nl:Nat} {fr:List Nat} {g:TG} {tt:TT} {te:TE} {σ:St} {D:Addr} {H1:Hp} {Q:VK}
theorem uZ {lo:Int}(Pv:Nat->List V->Hp->Prop)(h0:Pv 0 [] (upd H1 D (.lst [])))(hl:∀i ys H,Pv i ys H->H D=some (.lst ys))(hs:∀i ys H,i < n->Pv i ys H->∀(C:Nat->List V->Hp->Prop),(∀ys H,Pv (i+1) ys H->C (i+1) ys H)->Jq nl fr g tt te σ D C i ys (.int (lo+i)) H)(hd:∀ys H,Pv n ys H->Q (.ref D) H):
  De (Itr lo n) nl fr g tt te σ D H1 Q:=by
 refine⟨fun i m ys H=>m=n - i/\i<=n/\Pv i ys H,⟨n,by simp,Nat.zero_le _,h0⟩,?_⟩;rintro i m ys H ⟨rfl,hi,p⟩;refine⟨hl i ys H p,?_⟩
 by_cases hlt:i < n
 ·refine .inr ⟨hlt,fun x H' y=>?_⟩;obtain⟨e,y⟩:=y;subst e y;exact hs i ys _ hlt p (fun j zs Hz=>∃m',m' < n - i/\m'=n - j/\j<=n/\Pv j zs Hz) fun zs Hz z=>⟨n - (i+1),by lia,rfl,hlt,z⟩
 ·have e:i=n:=by lia
  subst e;exact .inl ⟨Nat.le_refl _,hd ys H p⟩
theorem dW {K:Frag}(Pv:Nat->List V->Hp->Prop)(h0:Pv 0 [] (upd H1 D (.lst [])))(hl:∀i ys H,Pv i ys H->H D=some (.lst ys))(hx:∀i ys H,i<=xs.length->Pv i ys H->SqL K H a xs)(hs:∀i ys x H,xs[i]?=some x->Pv i ys H->∀(C:Nat->List V->Hp->Prop),(∀ys H,Pv (i+1) ys H->C (i+1) ys H)->Jq nl fr g tt te σ D C i ys x H)(hd:∀ys H,Pv xs.length ys H->Q (.ref D) H):
  De (Itl K a) nl fr g tt te σ D H1 Q:=by
 refine⟨fun i m ys H=>m=xs.length - i/\i<=xs.length/\Pv i ys H,⟨xs.length,by simp,Nat.zero_le _,h0⟩,?_⟩;rintro i m ys H ⟨rfl,hi,p⟩;refine⟨hl i ys H p,?_⟩;have q:=hx i ys H hi p
 by_cases hlt:i < xs.length
 ·refine .inr ⟨⟨xs,xs[i],q,by simp[hlt]⟩,fun x H' y=>?_⟩;obtain⟨e,y⟩:=y;subst e;exact hs i ys x _ (y xs q) p (fun j zs Hz=>∃m',m' < xs.length - i/\m'=xs.length - j/\j<=xs.length/\Pv j zs Hz) fun zs Hz z=>⟨xs.length - (i+1),by lia,rfl,hlt,z⟩
 ·have e:i=xs.length:=by lia
  subst e;exact .inl ⟨⟨xs,q,Nat.le_refl _⟩,hd ys H p⟩
end
theorem gF:((σC 1 fr σ).set 0 (some x)).length=(σC 1 fr σ).length/\∀(i:Nat) v,(σC 1 fr σ)[i]?=some (some v)->((σC 1 fr σ).set 0 (some x))[i]?=some (some v):=by
 refine⟨by simp,fun i v h=>?_⟩
 match i with
 |0=>unfold σC at h;simp at h
 |k+1=>rw[getElem?_set_ne (by lia)];exact h
theorem fA {names:List (Str × NameKind)}{cl:List (Str × Addr)}(h:names.all (fun y=>!(y.2 == .cell || y.2 == .free) || (cl.lookup y.1).isSome)=true)(x:Str)(hx:names.lookup x=some .cell\/names.lookup x=some .free):∃c,cl.lookup x=some c:=by
 have key:∀k,(k=NameKind.cell\/k=NameKind.free)->names.lookup x=some k->∃c,cl.lookup x=some c:=fun k hk e=>by
  have m:=all_eq_true.mp h _ (PySem.mem_of_lookup e);have:(k == NameKind.cell || k == NameKind.free)=true:=by rcases hk with rfl | rfl<;>rfl
  simp only[this,Bool.not_true,Bool.false_or] at m;exact Option.isSome_iff_exists.mp m
 rcases hx with e | e
 ·exact key _ (.inl rfl) e
 ·exact key _ (.inr rfl) e
section
variable {X:Cx} {pins:List (Addr × Obj)} {σ:St} {H:Hp} {s:Shared} {h':Heap}
theorem Inv.turnedL {fp:List Addr}(I:Inv X pins σ H s)(k:∀b o,b∉fp->s.heap.get? b=some o->h'.get? b=some o)(hf:∀b∈fp,oJ X pins H b):Inv X pins σ H { s with heap:=h',toks:=t' }:=by
 have nit:∀b u,H b=some u->b∉fp:=fun b u e z=>by rw[(hf b z).1] at e;cases e
 have nL:X.env.locals∉fp:=fun z=>(hf _ z).2.1 rfl;refine I.step (g':=s.gens) (d':=s.drawn) (ch:=fp) (fun b hb=>?_) (fun b o _ _ hc e _=>k b o hc e) (fun b o _ _ hc e _=>⟨o.slots,k b o hc e⟩) (fun _ _ _ _ n=>n)
  (fun b o hc e=>⟨o,k b o hc e⟩) (fun _ _ e=>e) (fun _ _ _ e=>e) (fun b ps e=>⟨#[],by rw[e];simp⟩) (fun m hm=>?_) (fun b u e=>?_) I.bare
 ·obtain⟨f0,f1,f2,f3,f4,f5⟩:=hf b hb;exact⟨f3,f1,f4,f5⟩
 ·obtain⟨o,es,ep,ho,r⟩:=hm;exact⟨o,es,ep,k _ o nL ho,r⟩
 ·refine(I.hok b u e).stay (fun c v hc q=>k c v ?_ q) (fun _ q=>q) fun _ _ q=>q;rcases hc with z | z
  ·rw[z];exact nit b u e
  ·exact nit c _ z
end
def Itz (K : Frag)(a b : Addr) : It :=
  ⟨fun i H => ∃ xs ys x y, SqL K H a xs /\ SqL K H b ys /\ xs[i]? = some x /\ ys[i]? = some y,
   fun i H v H' => ∃ T x y, v = .ref T /\ H T = none /\ H' = upd H T (.tup [x, y]) /\ ∀ xs ys, SqL K H a xs -> SqL K H b ys -> xs[i]? = some x /\ ys[i]? = some y,
   fun i H => ∃ xs ys, SqL K H a xs /\ SqL K H b ys /\ (xs.length <= i \/ ys.length <= i)⟩
def qi7 (z TI TO i1 i2 l1 l2:Addr)(i:Nat)(h:Heap):Prop:=
 ZipApart z TI TO i1 i2 l1 l2/\IsZip h z TI TO .none/\IsPair h TI (.ref i1) (.ref i2)/\(∃a b,IsPair h TO a b)/\h.IsListIter i1 l1 i/\h.IsListIter i2 l2 i
theorem Pu {K:Frag}(z TI TO i1 i2 l1 l2:Addr):
  Pb P w K (.Tuple elts kk tpos) (Itz K l1 l2) [z,TI,TO,i1,i2] z (qi7 z TI TO i1 i2 l1 l2) where
 mem:=by simp
 obj:=fun i h st b hb=>by
  obtain⟨ap,hz,hi,⟨a,c,ho⟩,⟨o1,e1,c1,d1⟩,⟨o2,e2,c2,d2⟩⟩:=st;simp only[mem_cons,not_mem_nil,or_false] at hb;rcases hb with rfl | rfl | rfl | rfl | rfl
  ·exact⟨_,hz,fun v q=>by cases q⟩
  ·exact⟨_,hi,fun v q=>by cases q⟩
  ·exact⟨_,ho,fun v q=>by cases q⟩
  ·exact⟨o1,e1,fun v q=>by rw[d1] at q;cases q⟩
  ·exact⟨o2,e2,fun v q=>by rw[d2] at q;cases q⟩
 keep:=fun i h h' st k=>by
  obtain⟨ap,hz,hi,⟨a,c,ho⟩,⟨o1,e1,c1,d1⟩,⟨o2,e2,c2,d2⟩⟩:=st;exact⟨ap,k _ (by simp) _ hz,k _ (by simp) _ hi,⟨a,c,k _ (by simp) _ ho⟩,⟨o1,k _ (by simp) _ e1,c1,d1⟩,⟨o2,k _ (by simp) _ e2,c2,d2⟩⟩
 item:=by
  intro X hP hw hK hc i pins s σ H E I hf st hg;subst hP hw hK;obtain⟨ap,hz,hi,⟨a,c,ho⟩,t1,t2⟩:=st;obtain⟨xs,ys,x,y,hx,hy,ex,ey⟩:=hg;obtain⟨its1,rv1,p1,z1⟩:=I.list hx;obtain⟨its2,rv2,p2,z2⟩:=I.list hy;obtain⟨u1,hu1,ru1⟩:=rv1.get ex;obtain⟨u2,hu2,ru2⟩:=rv2.get ey;refine wpAny_pyNext_zip_item ap hz hi ho t1 t2 p1.isList p2.isList (x:=u1) (y:=u2) (by simpa using hu1) (by simpa using hu2) fun h' g1 g2 g3 g4 g5 g6 kk'=>?_;have hn:H s.heap.objs.size=none:=I.hok.fresh (Nat.le_refl _);have lt:∀b∈[z,TI,TO,i1,i2],b < s.heap.objs.size:=fun b hb=>by
   simp only[mem_cons,not_mem_nil,or_false] at hb;obtain⟨o1,e1,_⟩:=t1;obtain⟨o2,e2,_⟩:=t2;rcases hb with rfl | rfl | rfl | rfl | rfl
   ·exact Heap.lt_size hz
   ·exact Heap.lt_size hi
   ·exact Heap.lt_size ho
   ·exact Heap.lt_size e1
   ·exact Heap.lt_size e2
  have I1:Inv X pins σ (upd H s.heap.objs.size (.tup [x,y])) { s with heap:=s.heap.push { cls:=.type "tuple",data:=.seq #[u1,u2] } }:=
   I.laid (t':=s.toks) (fun b o e=>Heap.get?_push_of_some _ e) (Nat.le_refl _) (show cN X.prog X.w _ _ _ (.tup [x,y]) from ⟨zl9 2,[u1,u2],.cons ru1 (.cons ru2 .nil),IsTup.new _ _⟩)
  have hf1:∀b∈[z,TI,TO,i1,i2],oJ X pins (upd H s.heap.objs.size (.tup [x,y])) b:=fun b hb=>⟨by rw[aQ (Nat.ne_of_lt (lt b hb))];exact(hf b hb).1,(hf b hb).2⟩
  have k1:∀b o,b∉[z,TI,TO,i1,i2]->(s.heap.push { cls:=.type "tuple",data:=.seq #[u1,u2] }).get? b=some o->h'.get? b=some o:=fun b o nb e=>by
   simp only[mem_cons,not_mem_nil,or_false,not_or] at nb
   by_cases hb:b=s.heap.objs.size
   ·subst hb;rw[Heap.get?_push_size _ rfl] at e
    cases e
    exact g5
   ·have e0:s.heap.get? b=some o:=by rw[Heap.get?_push_ne _ _ _ hb] at e;exact e
    exact kk' b o nb.1 nb.2.2.1 nb.2.2.2.1 nb.2.2.2.2 e0
  have I2:Inv X pins σ (upd H s.heap.objs.size (.tup [x,y])) { s with heap:=h',toks:=s.toks }:=I1.turnedL (t':=s.toks) k1 hf1;refine⟨_,rfl,wpAny_letOwnedTupleGo_zip (s:={ s with heap:=h' }) g1 fun h2 q1 q2=>?_⟩;have kz:∀b o,b≠z->h'.get? b=some o->h2.get? b=some o:=fun b o nb e=>(q2.2 b nb).trans e;have I3:Inv X pins σ (upd H s.heap.objs.size (.tup [x,y])) { s with heap:=h2,toks:=s.toks }:=Inv.turnedL (s:={ s with heap:=h',toks:=s.toks }) (t':=s.toks) (fp:=[z]) I2 (fun b o nb e=>kz b o (by simpa using nb) e) fun b hb=>hf1 b (by simp at hb;simp[hb]);have hTI:h'.get? TI=some { cls:=.type "tuple",data:=.seq #[.ref i1,.ref i2] }:=kk' TI _ ap.TIz ap.TITO ap.TIi1 ap.TIi2 hi;obtain⟨o3,e3,c3,d3⟩:=g3;obtain⟨o4,e4,c4,d4⟩:=g4;refine⟨.ref s.heap.objs.size,_,I3,rfl,⟨_,x,y,rfl,hn,rfl,fun xs' ys' h1 h2=>?_⟩,⟨ap,q1,kz _ _ ap.TIz hTI,⟨_,_,kz _ _ ap.TOz g2⟩,⟨o3,kz _ _ ap.i1z e3,c3,d3⟩,⟨o4,kz _ _ ap.i2z e4,c4,d4⟩⟩,fun b hb=>(hf1 b hb).1⟩;rw[I.list_inj h1 hx,I.list_inj h2 hy];exact⟨ex,ey⟩
 done:=by
  intro X hP hw hK hc i pins s σ H E I hf st hg;subst hP hw hK;obtain⟨ap,hz,hi,⟨a,c,ho⟩,t1,t2⟩:=st;obtain⟨xs,ys,hx,hy,hor⟩:=hg;obtain⟨its1,rv1,p1,z1⟩:=I.list hx;obtain⟨its2,rv2,p2,z2⟩:=I.list hy;have l1':=rv1.length;have l2':=rv2.length;refine wpAny_pyNext_zip_end (I.ok.hd hc) ap hz hi ho t1 t2 p1.isList p2.isList (by rcases hor with h | h;left;simp;lia;right;simp;lia) fun h' kk'=>⟨rfl,?_⟩
  refine I.turnedL (t':=s.toks) (fun b o nb e=>?_) hf;simp only[mem_cons,not_mem_nil,or_false,not_or] at nb;exact kk' b o nb.1 nb.2.2.1 nb.2.2.2.1 nb.2.2.2.2 e
 self:=fun A i s Q E st h=>by
  obtain⟨ap,hz,hi,⟨a,c,ho⟩,t1,t2⟩:=st;exact wpAny_pyIter_zip hz h
section
variable {X:Cx}
def qn2 (K:Frag)(ta:TA):TI:=fun σ H R=>ta σ H fun vs H1=>∃a b,vs=[.ref a,.ref b]/\(∃xs,SqL K H1 a xs)/\(∃ys,SqL K H1 b ys)/\R (Itz K a b) H1
theorem Ru (hg:Gl X "zip")(hm:X.mg "zip"=none)(hv:bootBuiltins "zip"=some (.type "zip"))(ha:PA X [e1,e2] ta)(hs:starEach [e1,e2] X.env=(false,eval e1 X.env) :: starEach [e2] X.env:=by rfl)(hpl:(backTo pos (starEach [e2] X.env)).any (·.1)=false:=by rfl):PI X (.Tuple elts kk tpos) (.Call (.Name "zip" p) [e1,e2] [] pos) (qn2 X.K ta):=by
 intro pins s σ H R I h;refine Call_ (jW I hg hm hv (PyProof.Rows.callWith_type1 (thn (ha pos pins s σ H _ I h) fun us s1 ⟨vs,H1,I1,r1,q1⟩=>?_) hs hpl));obtain⟨a,b,rfl,⟨xs,hx⟩,⟨ys,hy⟩,q⟩:=q1;obtain⟨u,w',rfl,ra,rb⟩:=Ih r1
 cases (show u=Value.ref a from ra)
 cases (show w'=Value.ref b from rb)
 obtain⟨its1,rv1,p1,z1⟩:=I1.list hx;obtain⟨its2,rv2,p2,z2⟩:=I1.list hy;have la:a < s1.heap.objs.size:=by obtain⟨o,e,_⟩:=p1.isList;exact Heap.lt_size e
 have lb:b < s1.heap.objs.size:=by obtain⟨o,e,_⟩:=p2.isList;exact Heap.lt_size e
 refine call_zip_2 p1.isList p2.isList fun h' g1 g2 g3 g4 g5 g6 kk'=>?_;refine wpAny_pyIter_zip g1 ?_;have ne:∀i j:Nat,i≠j->s1.heap.objs.size+i≠s1.heap.objs.size+j:=fun i j n e=>n (Nat.add_left_cancel e);have nl:∀(c:Addr) (i:Nat),c < s1.heap.objs.size->c≠s1.heap.objs.size+i:=fun c i l e=>absurd (Nat.lt_of_lt_of_le l (Nat.le_add_right _ i)) (by rw[<- e];exact Nat.lt_irrefl _);have n0:∀j:Nat,j≠0->s1.heap.objs.size+j≠s1.heap.objs.size:=fun j n e=>n (Nat.add_left_cancel (e.trans (Nat.add_zero _).symm));refine⟨s1.heap.objs.size+4,[s1.heap.objs.size+4,s1.heap.objs.size+2,s1.heap.objs.size+3,s1.heap.objs.size,s1.heap.objs.size+1],_,Itz X.K a b,H1,rfl,I1.kept (t':=s1.toks) kk',Pu _ _ _ _ _ a b,⟨?_,g1,g2,⟨_,_,g3⟩,g4,g5⟩,fun c hc=>?_,q⟩
 ·exact⟨ne 2 4 (by decide),ne 3 4 (by decide),(n0 4 (by decide)).symm,ne 1 4 (by decide),ne 2 3 (by decide),n0 2 (by decide),ne 2 1 (by decide),n0 3 (by decide),ne 3 1 (by decide),(n0 1 (by decide)).symm,
   nl a 4 la,nl a 3 la,Nat.ne_of_lt la,nl a 1 la,nl b 4 lb,nl b 3 lb,Nat.ne_of_lt lb,nl b 1 lb⟩
 ·have hle:s1.heap.objs.size<=c:=by
   simp only[mem_cons,not_mem_nil,or_false] at hc;rcases hc with rfl | rfl | rfl | rfl | rfl<;>first | exact Nat.le_add_right _ _ | exact Nat.le_refl _
  exact I1.fpOk hle (I1.hok.fresh hle)
theorem Dt {K:Frag}(Pv:Nat->List V->Hp->Prop)(h0:Pv 0 [] (upd H1 D (.lst [])))(hl:∀i zs H,Pv i zs H->H D=some (.lst zs))(hx:∀i zs H,i<=min xs.length ys.length->Pv i zs H->SqL K H a xs/\SqL K H b ys)(hs:∀i zs x y H T,xs[i]?=some x->ys[i]?=some y->Pv i zs H->H T=none->∀(C:Nat->List V->Hp->Prop),(∀zs H,Pv (i+1) zs H->C (i+1) zs H)->Jq nl fr g tt te σ D C i zs (.ref T) (upd H T (.tup [x,y])))(hd:∀zs H,Pv (min xs.length ys.length) zs H->Q (.ref D) H):
  De (Itz K a b) nl fr g tt te σ D H1 Q:=by
 refine⟨fun i m zs H=>m=min xs.length ys.length - i/\i<=min xs.length ys.length/\Pv i zs H,⟨_,rfl,Nat.zero_le _,h0⟩,?_⟩;rintro i m zs H ⟨rfl,hi,p⟩;refine⟨hl i zs H p,?_⟩;obtain⟨qx,qy⟩:=hx i zs H hi p
 by_cases hlt:i < min xs.length ys.length
 ·have hx':i < xs.length:=by lia
  have hy':i < ys.length:=by lia
  refine .inr ⟨⟨xs,ys,xs[i],ys[i],qx,qy,by simp[hx'],by simp[hy']⟩,fun v H' z=>?_⟩;obtain⟨T,x,y,rfl,hT,rfl,hh⟩:=z;obtain⟨ex,ey⟩:=hh xs ys qx qy;exact hs i zs x y H T ex ey p hT (fun j zs Hz=>∃m',m' < min xs.length ys.length - i/\m'=min xs.length ys.length - j/\j<=min xs.length ys.length/\Pv j zs Hz) fun zs Hz z=>⟨min xs.length ys.length - (i+1),by lia,rfl,hlt,z⟩
 ·have e:i=min xs.length ys.length:=by lia
  subst e;exact .inl ⟨⟨xs,ys,qx,qy,by lia⟩,hd zs H p⟩
end
def Tb (h0:Heap)(H:Hp)(h:Heap)(a:Addr)(v:Value):Prop:=
 v=.none\/∃T oT ts,v=.ref T/\T≠a/\h0.get? T=none/\H T=none/\h.get? T=some oT/\oT.data=.fields ts/\ts[3]?=some .none
structure Fl (h0:Heap) (H:Hp) (h:Heap) (a:Addr) (C:Value) (d:Option Addr):Prop where
 new:h0.get? a=none
 free:H a=none
 at_:∃oe vs v,h.get? a=some oe/\oe.cls=C/\oe.dict=d/\oe.data=.fields vs/\vs[1]?=some v/\Tb h0 H h a v
theorem Fl.older (F:Fl h0 H h a C d)(k:∀b,h0.get? b=none->h1.get? b=none):Fl h1 H h a C d:=by
 obtain⟨n,f,oe,vs,v,e1,e2,e3,e4,e5,t⟩:=F;refine⟨k _ n,f,oe,vs,v,e1,e2,e3,e4,e5,?_⟩;rcases t with t | ⟨T,oT,ts,t1,t2,t3,t4⟩
 ·exact .inl t
 ·exact .inr ⟨T,oT,ts,t1,t2,k _ t3,t4⟩
theorem uQ (f:Array Value->Array Value)(o:Obj):(o.mapFields f).dict=o.dict:=by
 obtain⟨c,d,dt,sl⟩:=o
 cases dt<;>rfl
section
variable {M:Model} {A:Around} {E:Value->Shared->Prop} {s:Shared}
theorem yF {head:Value}(hfr:A.frames=some (env :: outer))(hl:s.heap.FunFrames base (env :: outer))(hf:env.frame=some L)(he:s.heap.get? e=some oe)(hd:oe.data=.fields vs)(hsz:1 < vs.size)(h:∀h' T oT ts,s.heap.objs.size<=T->(∀b o,b∉frs (env :: outer)->b≠e->s.heap.get? b=some o->h'.get? b=some o)->(∀b o,b∈frs (env :: outer)->s.heap.get? b=some o->∃sl,h'.get? b=some { o with slots:=sl })->
   h'.get? e=some (oe.mapFields (·.setIfInBounds 1 (.ref T)))->h'.get? T=some oT->oT.data=.fields ts->ts[3]?=some .none->T≠e->Q () { s with heap:=h' }):
  wpAny M A (do let a <- frameOf env;let pl <- entryPlaceOf L hadNext;let b <- EntryCells.newEntry head a .none (rawInt L) .none pl;setField (.ref e) 1 b) (fun _ s'=>wpAny M A (setFlight (.ref e) none) Q E s') E s:=by
 have hene:e∉frs (env :: outer):=fun hm=>by
  obtain⟨_,o,ho,hnf⟩:=hl.mem hm;rw[he] at ho;injection ho with ho;subst ho;exact hnf vs hd
 refine wpAny_bind (wpAny_frameOf_fun hfr hl hf fun h₁ hs₁=>?_);refine wpAny_bind (wpAny_entryPlaceOf fun pl hpl=>?_);unfold EntryCells.newEntry newFields;refine wpAny_bind (wpAny_newObj_type ?_ (hpl.sizeOk5 _ _ _ _ _));have he₁:h₁.get? e=some oe:=(hs₁.2.1 e hene).trans he;have he₂:=Heap.get?_push_of_some (h:=h₁) { cls:=.type "traceback",dict:=none,data:=.fields ([head,.ref L,.none,rawInt L,.none]++(if pl.isEmpty then replicate 6 Value.none else pl)).toArray } he₁;refine wpAny_setField he₂ hd hsz ?_;have hTe:h₁.objs.size≠e:=Nat.ne_of_gt (Heap.lt_size he₁);have hd₃:=Obj.data_mapFields hd (·.setIfInBounds 1 (Value.ref h₁.objs.size));have he₃:=Heap.get?_update_self (Obj.mapFields (·.setIfInBounds 1 (Value.ref h₁.objs.size))) he₂ (Obj.isFreed_of_fields hd₃);have hT₃:=(Heap.get?_update_other (h₁.push { cls:=.type "traceback",dict:=none,data:=.fields ([head,.ref L,.none,rawInt L,.none]++(if pl.isEmpty then replicate 6 Value.none else pl)).toArray })
  (Obj.mapFields (·.setIfInBounds 1 (Value.ref h₁.objs.size))) (Ne.symm hTe)).trans (Heap.get?_push_size h₁ rfl)
 unfold setFlight;refine wpAny_bind (wpAny_field he₃ hd₃ (x:=.ref h₁.objs.size) (by simp[hsz]) ?_);rw[if_pos (show (Value.ref h₁.objs.size != Value.none)=true from by simp)];have keep:∀b o,b≠e->h₁.get? b=some o->
   (((h₁.push { cls:=.type "traceback",dict:=none,data:=.fields ([head,.ref L,.none,rawInt L,.none]++(if pl.isEmpty then replicate 6 Value.none else pl)).toArray }).update e (Obj.mapFields (·.setIfInBounds 1 (Value.ref h₁.objs.size)))).update h₁.objs.size
    (Obj.mapFields (·.setIfInBounds 3 ((none:Option Addr).elim Value.none fun f=>rawInt f)))).get? b=some o:=fun b o hbe hb=>by
  have hbT:h₁.objs.size≠b:=Nat.ne_of_gt (Heap.lt_size hb);rw[Heap.get?_update_other _ _ hbT,Heap.get?_update_other _ _ (Ne.symm hbe)];exact Heap.get?_push_of_some _ hb
 refine wpAny_setField hT₃ rfl (by simp only[size_toArray,List.length_append,length_cons,length_nil]<;>lia) (h _ h₁.objs.size _ _ (Nat.le_of_eq hs₁.1.symm) ?_ ?_ ?_
  (Heap.get?_update_self _ hT₃ (Obj.isFreed_of_fields (Obj.data_mapFields rfl _))) (Obj.data_mapFields rfl _) ?_ hTe)
 ·exact fun b o hb hbe q=>keep b o hbe ((hs₁.2.1 b hb).trans q)
 ·intro b o hb q;obtain⟨sl,e1⟩:=hs₁.2.2 b o q;exact⟨sl,keep b _ (fun z=>hene (z ▸ hb)) e1⟩
 ·rw[Heap.get?_update_other _ _ hTe];exact he₃
 ·first | (simp;done) | (rcases hpl with rfl | ⟨_,_,_,_,_,_,_,rfl⟩<;>simp)
theorem Pa (hfr:A.frames=some (env :: outer))(hl:s.heap.FunFrames base (env :: outer))(hf:env.frame=some L)(F:Fl h0 H s.heap e C d)(hnew:∀b,s.heap.objs.size<=b->h0.get? b=none/\H b=none)(h:∀(h':Heap) (ch:List Addr),(∀b∈ch,h0.get? b=none/\H b=none/\∃o vs,s.heap.get? b=some o/\o.data=.fields vs)->(∀b o,b∉frs (env :: outer)->b∉ch->s.heap.get? b=some o->h'.get? b=some o)->
   (∀b o,b∈frs (env :: outer)->s.heap.get? b=some o->∃sl,h'.get? b=some { o with slots:=sl })->Fl h0 H h' e C d->Q () { s with heap:=h' }):
  wpAny M A (noteFrame (.ref e) env) (fun _ s'=>wpAny M A (setFlight (.ref e) none) Q E s') E s:=by
 obtain⟨n,f,oe,vs,v,e1,e2,e3,e4,e5,t⟩:=F;have hsz:1 < vs.size:=(Array.getElem?_eq_some_iff.mp e5).1;have fin:∀{h':Heap} {T:Addr} {oT:Obj} {ts:Array Value},s.heap.objs.size<=T->h'.get? e=some (oe.mapFields (·.setIfInBounds 1 (.ref T)))->h'.get? T=some oT->oT.data=.fields ts->ts[3]?=some .none->T≠e->Fl h0 H h' e C d:=by
  intro h' T oT ts z he hT hd h3 hTe;refine⟨n,f,_,_,.ref T,he,?_,?_,Obj.data_mapFields e4 _,by simp[hsz],.inr ⟨T,oT,ts,rfl,hTe,(hnew T z).1,(hnew T z).2,hT,hd,h3⟩⟩
  ·rw[Obj.cls_mapFields];exact e2
  ·rw[uQ];exact e3
 rcases t with rfl | ⟨T,oT,ts,rfl,t2,t3,t4,t5,t6,t7⟩
 ·unfold noteFrame;simp only[hf];refine wpAny_bind (wpAny_field e1 e4 e5 ?_);rw[if_neg (by decide)];refine yF hfr hl hf e1 e4 hsz fun h' T oT ts z k1 k2 he hT hd h3 hTe=>?_;refine h h' [e] (fun b hb=>?_) (fun b o h1 h2 q=>k1 b o h1 (fun w=>h2 (by simp[w])) q) k2 (fin z he hT hd h3 hTe);have hb:b=e:=by simpa using hb
  subst hb;exact⟨n,f,_,_,e1,e4⟩
 ·unfold noteFrame;simp only[hf];refine wpAny_bind (wpAny_field e1 e4 e5 ?_);rw[if_pos (show (Value.ref T != Value.none)=true from by simp)];refine wpAny_bind (wpAny_field t5 t6 t7 ?_);rw[if_neg (show ¬((Value.none == rawInt L)=true) from by simp[rawInt])];refine wpAny_bind (wpAny_setField t5 t6 (Array.getElem?_eq_some_iff.mp t7).1 ?_);have other:∀b,b≠T->(s.heap.update T (Obj.mapFields (·.setIfInBounds 3 Value.none))).get? b=s.heap.get? b:=fun b hb=>Heap.get?_update_other _ _ (Ne.symm hb);have noRecord:∀b o,s.heap.get? b=some o->(∀vs,o.data≠.fields vs)->b≠T:=fun b o hb hnf q=>by
   rw[q,t5] at hb;injection hb with hb;subst hb;exact hnf ts t6
  have nofr:∀b,b∈frs (env :: outer)->b≠T:=fun b hb=>by
   obtain⟨_,o,ho,hnf⟩:=hl.mem hb;exact noRecord b o ho hnf
  refine yF (s:={ s with heap:=s.heap.update T (Obj.mapFields (·.setIfInBounds 3 Value.none)) }) (base:=base) hfr (hl.of_keeps fun b o hb hnf=>⟨o,(other b (noRecord b o hb hnf)).trans hb,rfl⟩) hf ((other e (Ne.symm t2)).trans e1) e4 hsz
   fun h' T' oT' ts' z k1 k2 he hT hd h3 hTe=>?_
  have z':s.heap.objs.size<=T':=by
   have:=Heap.size_after_update s.heap T (Obj.mapFields (·.setIfInBounds 3 Value.none));exact Nat.le_trans (Nat.le_of_eq this.symm) z
  refine h h' [e,T] (fun b hb=>?_) (fun b o h1 h2 q=>?_) (fun b o hb q=>?_) (fin z' he hT hd h3 hTe)
  ·rcases mem_cons.mp hb with hb | hb
   ·subst hb;exact⟨n,f,_,_,e1,e4⟩
   ·have hb:b=T:=by simpa using hb
    subst hb;exact⟨t3,t4,_,_,t5,t6⟩
  ·exact k1 b o h1 (fun w=>h2 (by simp[w])) ((other b fun w=>h2 (by simp[w])).trans q)
  ·exact k2 b o hb ((other b (nofr b hb)).trans q)
end
section
variable {X:Cx} {pins:List (Addr × Obj)} {σ:List (Option V)} {H H':Hp} {s:Shared} {h':Heap}
theorem cN.ex (x:cN P w H h a o):∃u,h.get? a=some u:=by
 cases o with
 |lst xs=>obtain⟨_,_,_,_,e⟩:=x;exact⟨_,e⟩
 |tup xs=>obtain⟨_,_,_,o,e,_⟩:=x;exact⟨_,e⟩
 |dK kvs=>obtain⟨_,_,_,_,o,_,_,e,_⟩:=x;exact⟨_,e⟩
 |dT kvs=>obtain⟨_,_,_,_,o,_,_,e,_⟩:=x;exact⟨_,e⟩
 |set S n=>obtain⟨o,_,_,_,e,_⟩:=x;exact⟨_,e⟩
 |ins C dx fs=>obtain⟨_,_,_,e,_⟩:=x;exact⟨_,e⟩
 |own y=>obtain⟨_,e⟩:=x;exact⟨_,e⟩
 |xd fs=>obtain⟨_,⟨_,_,_,e,_⟩,_⟩:=x;exact⟨_,e⟩
 |rng lo hi=>obtain⟨_,_,_,e⟩:=x;exact⟨_,e⟩
 |frz ob u=>obtain⟨e,_⟩:=x;exact⟨_,e⟩
 |tbl ps=>exact⟨_,(show h.get? a=some _ from x)⟩
 |met f y=>exact⟨_,(show h.get? a=some _ from x)⟩
 |ext φ=>obtain⟨_,⟨_,e⟩,_⟩:=x;exact⟨_,e⟩
theorem HOk.none_of (x:HOk P w H h)(e:h.get? a=none):H a=none:=by
 cases q:H a with
 |none=>rfl
 |some o=>
  obtain⟨u,hu⟩:=(x a o q).ex;rw[e] at hu;cases hu
theorem Inv.stepN {ch:List Addr}(I:Inv X pins σ H s)(hch:∀b∈ch,X.s₀.heap.get? b=none/\b≠X.env.locals/\(∀x c,X.env.cells.lookup x=some c->c≠b)/\∀p∈X.pn++pins,p.1≠b)(keep:∀b o,b≠X.env.locals->b∉X.fs->b∉ch->s.heap.get? b=some o->H b=none->h'.get? b=some o)(slot:∀b o,b≠X.env.locals->b∈X.fs->b∉ch->s.heap.get? b=some o->H b=none->∃sl,h'.get? b=some { o with slots:=sl })(there:∀b o,b∉ch->s.heap.get? b=some o->∃o',h'.get? b=some o')(ns:∀m,s.heap.Ns X.env.locals m->h'.Ns X.env.locals m)(hok:HOk X.prog X.w H h')(hg:AllBare g'):
  Inv X pins σ H { s with heap:=h',gens:=g',drawn:=d',toks:=t' }:=by
 have neL:∀b o,X.s₀.heap.get? b=some o->b≠X.env.locals:=fun b o e=>Nat.ne_of_lt (Nat.lt_of_lt_of_le (Heap.lt_size e) I.ok.above);have neC:∀b o,X.s₀.heap.get? b=some o->b∉ch:=fun b o e hb=>by rw[(hch b hb).1] at e;cases e
 have cellK:∀x c,X.env.cells.lookup x=some c->∀v,s.heap.IsCell c v->h'.IsCell c v:=fun x c e v ⟨o,ho,hd⟩=>by
  have nch:c∉ch:=fun z=>(hch c z).2.2.1 x c e rfl
  by_cases hc:c∈X.fs
  ·obtain⟨sl,q⟩:=slot c o (I.cne x c e) hc nch ho (I.freeC x c e);exact⟨_,q,hd⟩
  ·exact⟨o,keep c o (I.cne x c e) hc nch ho (I.freeC x c e),hd⟩
 refine⟨I.ok,I.os,hg,⟨fun b o e n hb hx=>?_,fun b o e n hb hx=>?_,fun b o e n hx=>?_,fun b o e hx=>?_,fun b xs e=>I.base.tups b xs e,fun b o xs e=>I.base.frzs b o xs e,fun b ps e=>I.base.tbls b ps e⟩,?_,fun x c e=>?_,I.free,I.freeC,fun p hp=>?_,hok,I.len⟩
 ·exact keep b o (neL b o e) hb (neC b o e) (I.base.keep b o e n hb hx) (I.base.free b o e n hx)
 ·obtain⟨sl,e1⟩:=I.base.slot b o e n hb hx;obtain⟨sl',e2⟩:=slot b _ (neL b o e) hb (neC b o e) e1 (I.base.free b o e n hx);exact⟨sl',e2⟩
 ·exact I.base.free b o e n hx
 ·obtain⟨o',e1⟩:=I.base.there b o e hx;exact there b o' (neC b o e) e1
 ·obtain⟨m,hn,hl⟩:=I.loc;refine⟨m,ns m hn,fun i x v e1 e2 e3=>?_⟩;obtain⟨u,r,l⟩:=hl i x v e1 e2 e3;refine⟨u,r,?_⟩;rcases l with l | ⟨k,c,e,z⟩
  ·exact .inl l
  ·exact .inr ⟨k,c,e,cellK x c e _ z⟩
 ·obtain⟨v,z⟩:=I.cell x c e;exact⟨v,cellK x c e v z⟩
 ·obtain⟨e,n,ne,nf,d⟩:=I.pin p hp;have nch:p.1∉ch:=fun z=>(hch p.1 z).2.2.2 p hp rfl;exact⟨keep p.1 p.2 ne nf nch e n,n,ne,nf,d⟩
structure Frm (X:Cx):Prop where
 ex:X.ex=[]
 st:X.stack=X.env :: X.outer
 fr:X.env.frame=some X.env.locals
def sK (X:Cx)(pins:List (Addr × Obj))(σ:List (Option V))(H:Hp)(s:Shared)(a:Addr)(C:Value)(d:Option Addr):Prop:=
 Inv X pins σ H s/\∃h0:Heap,(∀p∈X.pn++pins,h0.get? p.1≠none)/\(∀b o,X.s₀.heap.get? b=some o->∃o',h0.get? b=some o')/\(∀b o,h0.get? b=some o->∃o',s.heap.get? b=some o')/\Fl h0 H s.heap a C d
theorem rK {h1 h2:Heap}(k:∀b o,h1.get? b=some o->∃o',h2.get? b=some o')(b:Addr)(e:h2.get? b=none):h1.get? b=none:=by
 cases q:h1.get? b with
 |none=>rfl
 |some o=>obtain⟨o',z⟩:=k b o q;rw[e] at z;cases z
theorem Id {h:Heap}(e:h.objs.size<=b):h.get? b=none:=Heap.get?_none_of_le e
theorem rM {h:Heap}(e:h.get? b=some o)(hd:o.data=.fields vs)(e':h.get? c=some o')(hd':∀vs,o'.data≠.fields vs):b≠c:=by
 intro z;subst z;rw[e] at e';cases e';exact hd' vs hd
theorem zX {a:Addr}{C:Value}{d:Option Addr}{h0:Heap}(I:Inv X pins σ H s)(hp:∀p∈X.pn++pins,h0.get? p.1≠none)(hs:∀b o,X.s₀.heap.get? b=some o->∃o',h0.get? b=some o'){b:Addr}(hb:h0.get? b=none/\H b=none/\∃o vs,s.heap.get? b=some o/\o.data=.fields vs) :
  X.s₀.heap.get? b=none/\b≠X.env.locals/\(∀x c,X.env.cells.lookup x=some c->c≠b)/\∀p∈X.pn++pins,p.1≠b:=by
 obtain⟨h1,h2,o,vs,h3,h4⟩:=hb;refine⟨rK hs b h1,?_,fun x c e=>?_,fun p hq z=>hp p hq (by rw[z];exact h1)⟩
 ·obtain⟨m,⟨o',es,ep,ho',hd',_⟩,_⟩:=I.loc;exact rM h3 h4 ho' fun vs z=>by rw[hd'] at z;cases z
 ·obtain⟨v,o',ho',hd'⟩:=I.cell x c e;exact Ne.symm (rM h3 h4 ho' fun vs z=>by rw[hd'] at z;cases z)
theorem Jn (hA:A'.frames=some X.stack)(fm:Frm X)(L:sK X pins σ H s a C d)(h:∀s',sK X pins σ H s' a C d->Q () s'):
  wpAny (model X.prog X.w) A' (noteFrame (.ref a) X.env) (fun _ s2=>wpAny (model X.prog X.w) A' (setFlight (.ref a) none) Q E s2) E s:=by
 obtain⟨I,h0,hp,hs,ht,F⟩:=L;have hstk:=I.stack;have hfree:=I.stkFree;rw[fm.st] at hA hstk hfree;have hfrs:frs (X.env :: X.outer)=X.env.locals :: X.fs:=by unfold frs;rw[filterMap_cons,fm.fr];rfl
 refine Pa (base:=X.base) hA hstk fm.fr F (fun b hb=>⟨rK ht b (Id hb),I.hok.fresh hb⟩) fun h' ch c1 c2 c3 F'=>?_;have tr:∀c u,H c=some u->∀v,s.heap.get? c=some v->h'.get? c=some v:=fun c u e v q=>
  c2 c v (fun z=>by rw[hfree c z] at e;cases e) (fun z=>by rw[(c1 c z).2.1] at e;cases e) q
 have th:∀b o,b∉ch->s.heap.get? b=some o->∃o',h'.get? b=some o':=fun b o hb q=>by
  by_cases hf:b∈frs (X.env :: X.outer)
  ·obtain⟨sl,e⟩:=c3 b o hf q;exact⟨_,e⟩
  ·exact⟨o,c2 b o hf hb q⟩
 have J:Inv X pins σ H { s with heap:=h',gens:=s.gens,drawn:=s.drawn,toks:=s.toks }:=by
  refine I.stepN (ch:=ch) (fun b hb=>zX (a:=a) (C:=C) (d:=d) I hp hs (c1 b hb)) (fun b o h1 h2 h3 e _=>c2 b o (by rw[hfrs];intro z;rcases mem_cons.mp z with z | z;exact h1 z;exact h2 z) h3 e)
   (fun b o _ h2 _ e _=>c3 b o (by rw[hfrs];exact mem_cons_of_mem _ h2) e) th (fun m hm=>?_) (fun b u e=>?_) I.bare
  ·obtain⟨o,es,ep,ho,r⟩:=hm;obtain⟨sl,e⟩:=c3 _ o (by rw[hfrs];exact mem_cons_self) ho;exact⟨_,es,ep,e,r⟩
  ·refine(I.hok b u e).stay (fun c v hc q=>?_) (fun _ q=>q) fun _ _ q=>q;rcases hc with rfl | hc
   ·exact tr c u e v q
   ·exact tr c _ hc v q
 refine h _ ⟨J,h0,hp,hs,fun b o e=>?_,F'⟩;obtain⟨o',e'⟩:=ht b o e;exact th b o' (fun z=>by rw[(c1 b z).1] at e;cases e) e'
theorem Vg (L:sK X pins σ H s a C d)(h:∀s',sK X pins σ H s' a C d->Q () s'):wpAny (model X.prog X.w) A' (setFlight (.ref a) none) Q E s:=by
 have L':=L;obtain⟨I,h0,hp,hs,ht,F⟩:=L';obtain⟨n,f,oe,vs,v,e1,e2,e3,e4,e5,t⟩:=F;unfold setFlight;refine wpAny_bind (wpAny_field e1 e4 e5 ?_);rcases t with rfl | ⟨T,oT,ts,rfl,t2,t3,t4,t5,t6,t7⟩
 ·rw[if_neg (by decide)];exact wpAny_pure (h s L)
 ·rw[if_pos (show (Value.ref T != Value.none)=true from by simp)];have hsz3:3 < ts.size:=(Array.getElem?_eq_some_iff.mp t7).1;have other:∀b,b≠T->(s.heap.update T (Obj.mapFields (·.setIfInBounds 3 ((none:Option Addr).elim Value.none fun f=>rawInt f)))).get? b=s.heap.get? b:=fun b hb=>Heap.get?_update_other _ _ (Ne.symm hb);have hT':=Heap.get?_update_self (Obj.mapFields (·.setIfInBounds 3 ((none:Option Addr).elim Value.none fun f=>rawInt f))) t5 (Obj.isFreed_of_fields (Obj.data_mapFields t6 _));refine wpAny_setField t5 t6 hsz3 ?_;have c1:∀b∈[T],h0.get? b=none/\H b=none/\∃o vs,s.heap.get? b=some o/\o.data=.fields vs:=fun b hb=>by
   have hb:b=T:=by simpa using hb
   subst hb;exact⟨t3,t4,_,_,t5,t6⟩
  have nT:∀b,b∉[T]->b≠T:=fun b hb z=>hb (by simp[z]);have J:Inv X pins σ H { s with heap:=(s.heap.update T (Obj.mapFields (·.setIfInBounds 3 ((none:Option Addr).elim Value.none fun f=>rawInt f)))),gens:=s.gens,drawn:=s.drawn,toks:=s.toks }:=by
   refine I.stepN (ch:=[T]) (fun b hb=>zX (a:=a) (C:=C) (d:=d) I hp hs (c1 b hb)) (fun b o _ _ h3 e _=>(other b (nT b h3)).trans e) (fun b o _ _ h3 e _=>⟨o.slots,(other b (nT b h3)).trans e⟩)
    (fun b o h3 e=>⟨o,(other b (nT b h3)).trans e⟩) (fun m hm=>?_) (fun b u e=>?_) I.bare
   ·obtain⟨o,es,ep,ho,hd,r⟩:=hm;exact⟨o,es,ep,(other _ (Ne.symm (rM t5 t6 ho fun vs z=>by rw[hd] at z;cases z))).trans ho,hd,r⟩
   ·refine(I.hok b u e).stay (fun c v hc q=>(other c ?_).trans q) (fun _ q=>q) fun _ _ q=>q;rintro rfl;rcases hc with rfl | hc
    ·rw[t4] at e;cases e
    ·rw[t4] at hc;cases hc
  refine h _ ⟨J,h0,hp,hs,fun b o e=>?_,⟨n,f,oe,vs,.ref T,(other a (Ne.symm t2)).trans e1,e2,e3,e4,e5,.inr ⟨T,_,_,rfl,t2,t3,t4,hT',Obj.data_mapFields t6 _,by simp[hsz3]⟩⟩⟩;obtain⟨o',e'⟩:=ht b o e;exact⟨o',(other b (fun z=>by rw[z,t3] at e;cases e)).trans e'⟩
end
def CX1 (P:Program)(w:World):CXT:=fun outer H s E e s'=>∃a C d H',e=.ref a/\s'.os=s.os/\AllBare s'.gens/\Un (frs outer) [] H H' s.heap s'.heap/\HOk P w H' s'.heap/\Fl s.heap H' s'.heap a C d/\E C d H'
def Vi (X:Cx)(E:XK):Prop:=∀(pins:List (Addr × Obj)) (σ:St) (H:Hp) (s:Shared) (a:Addr) (C:Value) (d:Option Addr),sK X pins σ H s a C d->E C d H->X.xe (.ref a) s
section
variable {X:Cx} {pins:List (Addr × Obj)} {σ:List (Option V)} {H:Hp} {s s':Shared} {E:XK} {e:Value}
theorem kX (fm:Frm X)(I:Inv X pins σ H s)(hcx:CX1 X.prog X.w X.stack H s E e s'):∃a C d H',e=.ref a/\sK X pins σ H' s' a C d/\E C d H':=by
 obtain⟨a,C,d,H',rfl,os,bare,un,hok,F,q⟩:=hcx;refine⟨a,C,d,H',rfl,⟨I.call' (ch:=[]) os un hok bare (fun b z=>absurd z (by simp)),s.heap,fun p hp z=>?_,fun b o e=>I.base.there b o e (by rw[fm.ex];simp),fun b o e=>un.there b o e (by simp),F⟩,q⟩;rw[(I.pin p hp).1] at z;cases z
theorem kK (fm:Frm X)(xo:Vi X E):jZ (CX1 X.prog X.w) X E:=fun pins σ H s e s' I hcx=>by
 obtain⟨a,C,d,H',rfl,L,q⟩:=kX fm I hcx;exact xo pins σ H' s' a C d L q
end
theorem gK {K:Frag}:
  Frm (wS CX P w K mg base N qual scope f cd A outer s H E):=⟨rfl,rfl,rfl⟩
theorem iW {K:Frag}:
  Vi (wS (CX1 P w) P w K mg base N qual scope f cd A outer s H E) E:=by
 intro pins σ H' s' a C d L q;show wpAny (model P w) (A.deeper (envOfC qual scope s.heap.objs.size f cd)) (leaving (envOfC qual scope s.heap.objs.size f cd) (.ref a)) (fun _ s''=>CX1 P w outer H s E (.ref a) s'') (fun e' s''=>CX1 P w outer H s E e' s'') s';unfold leaving;refine wpAny_bind (Jn (X:=wS (CX1 P w) P w K mg base N qual scope f cd A outer s H E) L.1.ok.frames gK L fun s'' L''=>?_);obtain⟨J,h0,hp,hs0,hth,F⟩:=L'';exact⟨a,C,d,H',rfl,J.os,J.bare,J.base,J.hok,F.older fun b z=>rK hs0 b z,q⟩
abbrev qY:List Value:=[.type "ValueError",.type "Exception",.type "BaseException",.type "object"]
def Nn (K:Frag)(C:Addr):Prop:=W.excIn K C qY "ValueError.__new__"=true
theorem qe7 {K:Frag}(X:K.In h)(q:W.excIn K C bmB newId=true):
  ∃bm N nm qn bs hdct sn sub ab col dd k0 k1 k2 k3 k5 mN,h.get? C=some (excClassObj nm qn C N bs bm hdct sn sub ab col dd k0 k1 k2 k3 k5 newId)/\h.Ns N mN/\mN "__init__"=none/\OwnTail h bmB bm:=by
 unfold W.excIn at q;split at q
 ·rename_i dd cd sl ho
  split at q
  ·rename_i C' bm k0 k1 k2 k3 n k5 hm hs
   simp only[Bool.and_eq_true,beq_iff_eq,Bool.not_eq_true'] at q;obtain⟨⟨⟨⟨⟨rfl,rfl⟩,hdel⟩,ht⟩,hok⟩,hni⟩:=q;obtain⟨nm,bs,mro,ns,qn,hd,sn,sub,ab,col,del⟩:=cd;dsimp only at hm hdel hok hni;subst hm hdel;have hsl:sl=#[k0,k1,k2,k3,some (.builtin n),k5]:=by
    obtain⟨l⟩:=sl;simp only at hs;rw[hs]
   subst hsl;exact⟨bm,ns,nm,qn,bs,hd,sn,sub,ab,col,dd,k0,k1,k2,k3,k5,_,X _ _ ho,.of_isNs (W.isNs_of_in X hok),W.nsMap_none_of_in X hok hni,W.tail_of_in X ht⟩
  ·cases q
 ·cases q
section
variable {X:Cx} {pins:List (Addr × Obj)} {σ:List (Option V)} {H:Hp} {s:Shared}
def qe8 (C:Addr)(E:XK)(ta:TA):TS:=fun _ σ H=>ta σ H fun vs H1=>vs.length<=sizeLine/\E (.ref C) none H1
theorem Ck (fm:Frm X)(xo:Vi X E)(hc:X.calm=true)(hg:Gl X x)(hm:X.mg x=some (.ref C))(q:Nn X.K C)(ha:PA X (e₀ :: es) ta)(hdb:(x == ("__debug__":Str))=false:=by decide)(he:starEach (e₀ :: es) X.env=(false,eval e₀ X.env) :: starEach es X.env:=by rfl)(hpl:(backTo cpos (starEach es X.env)).any (·.1)=false:=by rfl):
  PS X (.Raise (some (.Call (.Name x np) (e₀ :: es) [] cpos)) none pos) (qe8 C E ta):=by
 intro pins s σ H D I h;obtain⟨tl,N,nm,qn,bs,hdct,sn,sub,ab,col,dd,k0,k1,k2,k3,k5,mN,hC,hN,hni,T⟩:=qe7 I.mod.kin q;have FB:=PySem.F.excBase_ValueError;refine wpAny_Raise_call_subU (C:=C) (nm:=nm) (q:=qn) (N:=N) (bs:=bs) (bm:=tl) (hdct:=hdct) (sn:=sn) (sub:=sub) (ab:=ab) (col:=col) (dd:=dd) (k0:=k0) (k1:=k1) (k2:=k2) (k3:=k3) (k5:=k5)
  FB (by decide) FB (mN:=mN) (T.hasType FB.hasBase) (I.ok.hd hc) (by rw[he];show (false || (backTo cpos (starEach es X.env)).any (·.1))=false;rw[hpl];rfl) hni (iG I hg hm ⟨rfl,?_⟩ hdb)
 have ha':=ha cpos pins s σ H _ I h;rw[he] at ha' ⊢;refine Calls.evalArgs_plain (wpAny_mono ha' (fun vs s2 h2=>?_) fun _ _ y=>y);obtain⟨xs,H1,I1,r,hz,q1⟩:=h2;refine⟨rfl,by rw[<- r.length];exact hz,I1.bk _ _ hC,hN.keeps I1.bk,T.keeps I1.bk,fun h' e hx=>?_⟩;obtain⟨t,he1,htn,ht⟩:=hx.there;refine xo pins σ H1 _ e (.ref C) none ⟨I1.kept (t':=s2.toks) hx.keeps,s2.heap,fun p hp z=>?_,fun b o e=>I1.base.there b o e (by rw[fm.ex];simp),fun b o z=>⟨o,hx.keeps b o z⟩,⟨hx.new,I1.hok.none_of hx.new,_,_,.none,he1,rfl,rfl,rfl,rfl,.inl rfl⟩⟩ q1;rw[(I1.pin p hp).1] at z;cases z
end
abbrev TEX:=St->Hp->VK->XK->Prop
abbrev TSX:=kE->(St->XK)->St->Hp->Prop
def XP (X:Cx)(pins:List (Addr × Obj))(E:St->XK)(e:Value)(s':Shared):Prop:=∃a C d σ' H',e=.ref a/\sK X pins σ' H' s' a C d/\E σ' C d H'
def PX (X:Cx)(e:Expr)(t:TEX):Prop:=
 ∀(pins:List (Addr × Obj)) (s:Shared) (σ:St) (H:Hp) (Q:VK) (E:XK),Inv X pins σ H s->t σ H Q E->wpAny (model X.prog X.w) X.A (eval e X.env) (EP X pins σ Q) (XP X pins fun σ' C d H'=>σ'=σ/\E C d H') s
def PSX (X:Cx)(st:Stmt)(t:TSX):Prop:=
 ∀(pins:List (Addr × Obj)) (s:Shared) (σ:St) (H:Hp) (D:kE) (E:St->XK),Inv X pins σ H s->t D E σ H->wpAny (model X.prog X.w) X.A (exec st X.env) (SP X pins D) (XP X pins E) s
def Tp (X:Cx)(st:List Stmt)(t:TSX):Prop:=
 ∀(pins:List (Addr × Obj)) (s:Shared) (σ:St) (H:Hp) (D:kE) (E:St->XK),Inv X pins σ H s->t D E σ H->wpAny (model X.prog X.w) X.A (execs st X.env) (SP X pins D) (XP X pins E) s
theorem XP.at (h:XP X pins (fun σ' C d H'=>σ'=σ/\E σ C d H') e s'):XP X pins E e s':=by
 obtain⟨a,C,d,σ',H',rfl,L,rfl,q⟩:=h;exact⟨a,C,d,σ',H',rfl,L,q⟩
section
variable {X:Cx} {k:Nat} {f C:Addr} {fd:FuncData} {ps:List Str} {sp:Sp} {dvs:List V} {ds:List Value} {x m:Str} {p pos apos:Pos} {e o:Expr} {es:List Expr} {ta:TE} {t:TA}
def qk0 (sp:Sp)(dvs:List V)(t:TA):TEX:=fun σ H Q E=>t σ H fun vs H1=>sp (vs++dvs) H1 Q E
theorem qj0 (F:aK X.prog X.w X.K X.mg X.base (CX1 X.prog X.w) k f fd ps sp)(fm:Frm X)(hr:gH k X.A)(hb:aL X.K fd ps ds)(hd:bV dvs ds)(I:Inv X pins σ H s)(r:bV vs us)(h:sp (vs++dvs) H Q E):wpAny (model X.prog X.w) X.A (call (.ref f) us) (EP X pins σ Q) (XP X pins fun σ' C d H'=>σ'=σ/\E C d H') s:=by
 have r2:bV (vs++dvs) (us++ds):=r.append hd;have hl:(us++ds).length=ps.length:=by rw[<- r2.length];exact F.len _ _ _ _ h
 refine wpAny_call (codeAny_mono (F.run X.A X.stack s H ⟨us,[]⟩ (us++ds) (vs++dvs) Q E hr I.env0 (hb s us I.kIn hl) r2 h) fun r s' hq=>?_)
 cases r with
 |error e=>
  obtain⟨a,C,d,H',rfl,L,q⟩:=kX fm I hq;exact⟨a,C,d,σ,H',rfl,L,rfl,q⟩
 |ok fl=>
  cases fl with
  |ret u=>exact I.after hq
  |next=>exact False.elim hq
  |brk=>exact False.elim hq
  |cont=>exact False.elim hq
theorem Im (F:aK X.prog X.w X.K X.mg X.base (CX1 X.prog X.w) k f fd ps sp)(fm:Frm X)(hr:gH k X.A)(hg:Gl X x)(hm:X.mg x=some (.ref f))(hk:W.keepIn X.K (.ref f)=true)(hb:aL X.K fd ps ds)(hd:bV dvs ds)(ha:PA X.nox (e :: es) t)(hdb:(x == ("__debug__":Str))=false:=by decide)(he:starEach (e :: es) X.env=(false,eval e X.env) :: starEach es X.env:=by rfl)(hpl:(backTo pos (starEach es X.env)).any (·.1)=false:=by rfl) :
  PX X (.Call (.Name x p) (e :: es) [] pos) (qk0 sp dvs t):=by
 intro pins s σ H Q E I h;refine wpAny_Call_Name_kw (iG I hg hm ?_ hdb);refine W.callWith_K (h₀:=X.base) I.ok.mod.kin hk (wpAny_mono (ha pos pins s σ H _ (I.wish _) h) (fun us s1 h1=>?_) fun _ _ z=>False.elim z) he hpl;obtain⟨vs,H1,I1,r,q⟩:=h1;exact⟨I1.kIn,qj0 F fm hr hb hd I1.unwish r q⟩
def qf4 (te:TEX):TSX:=fun D E σ H=>te σ H (fun _ H1=>D.nx σ H1) (E σ)
theorem vT (he:PX X e te)(hs:swapsWith e none pos.line X.env=pure false:=by rfl):PSX X (.Expr e pos) (qf4 te):=by
 intro pins s σ H D E I h;exact wpAny_Expr_any (wpAny_mono (he pins s σ H _ _ I h) (fun v s1 ⟨x,H1,I1,r1,q1⟩=>⟨σ,H1,I1,q1⟩) fun _ _ z=>XP.at z) I.quiet hs
theorem nH {st:Stmt}{t:TSX}(h1:PSX X st t):Tp X [st] t:=by
 intro pins s σ H D E I h;refine wpAny_execs_cons (wpAny_mono (h1 pins s σ H D E I h) (fun f s1 q=>?_) fun _ _ z=>z)
 cases f with
 |next=>exact wpAny_execs_nil q
 |ret v=>exact q
 |brk=>exact q
 |cont=>exact q
def xIf (c:TT)(t u:TSX):TSX:=fun D E σ H=>c σ H fun b H1=>if b=true then t D E σ H1 else u D E σ H1
theorem Px {t u:TSX}(hc:PT X.nox c tc)(ha:Tp X a t)(hb:Tp X b u):PSX X (.If c a b pos) (xIf tc t u):=by
 intro pins s σ H D E I h;refine wpAny_If (wpAny_mono (hc pins s σ H _ (I.wish _) h) (fun d s1 h1=>?_) fun _ _ z=>False.elim z);obtain⟨H1,I1,q1⟩:=h1
 cases d with
 |true=>exact ha pins s1 σ H1 D E I1.unwish q1
 |false=>exact hb pins s1 σ H1 D E I1.unwish q1
end
abbrev Cx.sup (X:Cx)(a:Addr):Cx:={ X with A:=X.A.mark (some (.ref a)),calm:=false,xe:=fun _ _=>False }
section
variable {X:Cx} {pins:List (Addr × Obj)} {σ:List (Option V)} {H:Hp} {s:Shared} {a:Addr}
theorem Cx.Ok.sup (ok:X.Ok)(a:Addr):(X.sup a).Ok:=
 ⟨ok.mod,ok.kind,ok.glob,ok.blt,ok.above,ok.inj,ok.has,ok.cab,fun z=>Bool.noConfusion z,ok.frames,ok.stk,ok.exf,ok.bs,ok.bsz,ok.noex,ok.exfs,ok.funs,ok.frf⟩
theorem Inv.sup (I:Inv X pins σ H s)(a:Addr):Inv (X.sup a) pins σ H s:=⟨I.ok.sup a,I.os,I.bare,I.base,I.loc,I.cell,I.free,I.freeC,I.pin,I.hok,I.len⟩
theorem Inv.unsup (ok:X.Ok)(I:Inv (X.sup a) pins σ H s):Inv X pins σ H s:=⟨ok,I.os,I.bare,I.base,I.loc,I.cell,I.free,I.freeC,I.pin,I.hok,I.len⟩
def jN (a:Addr)(C:Value)(d:Option Addr):HO:=.ext fun h=>∃o vs,h.get? a=some o/\o.cls=C/\o.dict=d/\o.data=.fields vs
theorem sK.track (L:sK X pins σ H s a C d)(fm:Frm X):Inv X pins σ (upd H a (jN a C d)) s:=by
 obtain⟨I,h0,hp,hs,ht,F⟩:=L;obtain⟨n,f,oe,vs,v,e1,e2,e3,e4,e5,t⟩:=F;obtain⟨c1,c2,c3,c4⟩:=zX (a:=a) (C:=C) (d:=d) I hp hs (b:=a) ⟨n,f,_,_,e1,e4⟩;have tr:∀b u,H b=some u->upd H a (jN a C d) b=some u:=fun b u e=>by rw[aQ (aX e f)];exact e
 refine⟨I.ok,I.os,I.bare,⟨I.base.keep,I.base.slot,fun b o e n' hx=>?_,I.base.there,fun b xs e=>tr _ _ (I.base.tups b xs e),fun b o u e=>tr _ _ (I.base.frzs b o u e),fun b ps e=>?_⟩,I.loc,I.cell,?_,fun x c e=>?_,fun p hp'=>?_,fun b o e=>?_,I.len⟩
 ·have:b≠a:=fun z=>by rw[z,c1] at e;cases e
  rw[aQ this];exact I.base.free b o e n' hx
 ·obtain⟨more,z⟩:=I.base.tbls b ps e;exact⟨more,tr _ _ z⟩
 ·rw[aQ (Ne.symm c2)];exact I.free
 ·rw[aQ (c3 x c e)];exact I.freeC x c e
 ·obtain⟨z1,z2,z3⟩:=I.pin p hp';exact⟨z1,by rw[aQ (c4 p hp')];exact z2,z3⟩
 ·by_cases hb:b=a
  ·subst hb;rw[aB] at e;cases e;refine⟨⟨oe,vs,e1,e2,e3,e4⟩,⟨oe,e1⟩,fun h1 h2 p k=>?_⟩;obtain⟨o,vs',z1,z2⟩:=p;exact⟨o,vs',k o z1,z2⟩
  ·rw[aQ hb] at e;exact(I.hok b o e).stay (fun _ _ _ q=>q) (fun c q=>tr _ _ q) fun c xs q=>tr _ _ q
theorem nY (I:Inv X pins σ H s)(hN:X.N.Nodup)(hj:X.N[j]?=some n)(hl:X.env.scope.names.lookup n=some .local)(h:∀s',Inv X pins (σ.set j none) H s'->Q () s'):wpAny (model X.prog X.w) A' (do bindName X.env n .none;unbindBehindTheSuite X.env n pos) Q E s:=by
 obtain⟨m,hn,hlk⟩:=id I.loc;have hcls:(X.env.scope.kind == .class || (X.env.scope.kind == .module && X.env.locals != X.env.globals))=false:=by rw[I.ok.kind];rfl
 have hiσ:j < σ.length:=by rw[I.len];exact(List.getElem?_eq_some_iff.mp hj).1
 have cne:=I.cne;refine wpAny_nameGoes_keeps hl hn hcls fun h' v hn' hs=>?_;obtain⟨oL,_,_,hoL,_⟩:=id hn;refine h _ ⟨I.ok,I.os,I.bare,⟨fun b o e n hb hx=>?_,fun b o e n hb hx=>?_,I.base.free,fun b o e hx=>?_,I.base.tups,I.base.frzs,I.base.tbls⟩,⟨_,hn',fun i y v' e1 e2 e3=>?_⟩,fun y c e=>?_,I.free,I.freeC,fun p hp=>?_,fun b ob e=>?_,by simpa using I.len⟩
 ·exact(hs.2 b (Nat.ne_of_lt (Nat.lt_of_lt_of_le (Heap.lt_size e) I.ok.above))).trans (I.base.keep b o e n hb hx)
 ·obtain⟨sl,e1⟩:=I.base.slot b o e n hb hx;exact⟨sl,(hs.2 b (Nat.ne_of_lt (Nat.lt_of_lt_of_le (Heap.lt_size e) I.ok.above))).trans e1⟩
 ·obtain⟨o',e1⟩:=I.base.there b o e hx;exact⟨o',(hs.2 b (Nat.ne_of_lt (Nat.lt_of_lt_of_le (Heap.lt_size e) I.ok.above))).trans e1⟩
 ·by_cases hij:i=j
  ·subst hij;rw[getElem?_set_self hiσ] at e2
   cases e2
  ·rw[getElem?_set_ne (Ne.symm hij)] at e2;obtain⟨u',r',q⟩:=hlk i y v' e1 e2 e3;refine⟨u',r',?_⟩;rcases q with ⟨k,e⟩ | ⟨k,c,e,z⟩
   ·refine .inl ⟨k,?_⟩;have:y≠n:=fun e=>hij (vA hN e1 (e ▸ hj));simp[this,e]
   ·exact .inr ⟨k,c,e,z.sameBut hs (cne y c e)⟩
 ·obtain⟨w',z⟩:=I.cell y c e;exact⟨w',z.sameBut hs (cne y c e)⟩
 ·obtain⟨e,n,ne,nf,d⟩:=I.pin p hp;exact⟨(hs.2 p.1 ne).trans e,n,ne,nf,d⟩
 ·refine(I.hok b ob e).stay (fun c w' hc q=>(hs.2 c ?_).trans q) (fun _ q=>q) fun _ _ q=>q;rintro rfl;rcases hc with rfl | hc
  ·rw[I.free] at e;cases e
  ·rw[I.free] at hc;cases hc
end
abbrev TH:=Addr->Value->Option Addr->kE->St->Hp->Prop
def PH (X:Cx)(hs:List ExceptHandler)(t:TH):Prop:=
 ∀(pins:List (Addr × Obj)) (s:Shared) (σ:St) (H:Hp) (D:kE) (a:Addr) (C:Value) (d:Option Addr),sK X pins σ H s a C d->t a C d D σ H->wpAny (model X.prog X.w) X.A (handleBy (.ref a) X.env hs) (SP X pins D) X.xe s
section
variable {X:Cx} {pos np:Pos} {T:Str} {tc:Value} {b₀:Stmt} {suite:List Stmt} {rest:List ExceptHandler} {ts:TS} {tr:TH}
def Yx:TH:=fun _ _ _ _ _ _=>False
theorem Qf:PH X hs Yx:=fun _ _ _ _ _ _ _ _ _ h=>h.elim
def Xn (X:Cx)(T:Str)(c:Value):Prop:=X.mg T=some c\/(X.mg T=none/\bootBuiltins T=some c/\T≠"__name__")
theorem Ze (I:Inv X pins σ H s)(hg:Gl X T)(hc:Xn X T tc)(h:Q tc s)(hd:(T == ("__debug__":Str))=false:=by decide):wpAny (model X.prog X.w) X.A (eval (.Name T np) X.env) Q E s:=by
 rcases hc with e | ⟨e,hv,hn⟩
 ·exact iG I hg e h hd
 ·exact jW I hg e hv h hn hd
theorem sK.ty (L:sK X pins σ H s a C d):W.Looks M s.heap (typeOf (.ref a)) C:=by
 obtain⟨I,h0,hp,hs,ht,n,f,oe,vs,v,e1,e2,_⟩:=L;subst e2;exact(W.Looks.ld e1).andThen .now
def To (K:Frag)(tc:Value)(j:Nat)(ts:TS)(tr:TH):TH:=fun a C d D σ H=>∃b,W.exmOne K C tc=some b/\
 if b=true then ts { nx:=fun σ' H'=>D.nx (σ'.set j none) H',rt:=D.rt,bk:=fun σ' H'=>D.bk (σ'.set j none) H',ct:=fun σ' H'=>D.ct (σ'.set j none) H' } (σ.set j (some (.ref a))) (upd H a (jN a C d)) else tr a C d D σ H
theorem qk8 (fm:Frm X)(hN:X.N.Nodup)(hj:X.N[j]?=some n)(hl:X.env.scope.names.lookup n=some .local)(hg:Gl X T)(hc:Xn X T tc)(hs:∀a,PSs (X.sup a) (b₀ :: suite) ts)(hr:PH X rest tr)(hd:(T == ("__debug__":Str))=false:=by decide):
  PH X (.ExceptHandler (some (.Name T np)) (some n) (b₀ :: suite) pos :: rest) (To X.K tc j ts tr):=by
 intro pins s σ H D a C d L h;obtain⟨b,hb,h⟩:=h;have I:=L.1;refine wpAny_handleBy_cons (codeAny_handlers_test (Ze (X:=X.sup a) (I.sup a) hg hc ((W.exm_one I.kIn L.ty hb).here ?_) hd)) (by intro q;cases q)
 cases b with
 |false=>
  rw[if_neg Bool.false_ne_true] at h;exact hr pins s σ H D a C d L h
 |true=>
  rw[if_pos rfl] at h;refine codeAny_handlers_suite_as (Vg (X:=X) L fun s' L'=>?_);refine kQ (X:=X.sup a) ((L'.track fm).sup a) hN hj (.inl hl) (v:=.ref a) rfl (fun s2 I2=>?_) (.inr hl);refine wpAny_mono (hs a pins s2 _ _ _ I2 h) (fun f s3 q=>?_) fun _ _ z=>False.elim z
  cases f with
  |next=>
   obtain⟨σ',H',J,q⟩:=q;exact nY (J.unsup I.ok) hN hj hl fun s4 J4=>⟨_,H',J4,q⟩
  |brk=>
   obtain⟨σ',H',J,q⟩:=q;exact nY (J.unsup I.ok) hN hj hl fun s4 J4=>⟨_,H',J4,q⟩
  |cont=>
   obtain⟨σ',H',J,q⟩:=q;exact nY (J.unsup I.ok) hN hj hl fun s4 J4=>⟨_,H',J4,q⟩
  |ret u=>
   obtain⟨v,σ',H',J,r,q⟩:=q;exact nY (J.unsup I.ok) hN hj hl fun s4 J4=>⟨v,_,H',J4,r,q⟩
def qm2 (tb:TSX)(to:TS)(th:TH):TS:=fun D σ H=>tb { D with nx:=to D } (fun σ' C d H'=>∀a,H' a=none->th a C d D σ' H') σ H
theorem Zt (fm:Frm X)(hb:Tp X body tb)(ho:PSs X orelse to)(hh:PH X (h₀ :: hs) th):PS X (.Try body (h₀ :: hs) orelse [] pos) (qm2 tb to th):=by
 intro pins s σ H D I h;refine wpAny_Try_except (wpAny_mono (hb pins s σ H _ _ I h) (fun f s1 q=>?_) fun e s1 q=>?_)
 ·cases f with
  |next=>
   obtain⟨σ',H',I',q⟩:=q;exact ho pins s1 σ' H' D I' q
  |ret v=>exact q
  |brk=>exact q
  |cont=>exact q
 ·obtain⟨a,C,d,σ',H',rfl,L,q⟩:=q;refine Jn I.ok.frames fm L fun s2 L2=>?_;exact hh pins s2 σ' H' D a C d L2 (q a L2.2.choose_spec.2.2.2.free)
end
structure wU (K:Frag) (C:Addr):Prop where
 ga:W.findIn K (.ref C) "__getattribute__"=some (some (.builtin "BaseException.__getattribute__"))
 gn:W.findIn K (.ref C) "__getattr__"=some none
 bx:W.mroIn K C (.type "BaseException")=some true
 ob:W.mroIn K C (.type "object")=some true
 ca:W.findIn K (.ref C) "__class__"=some (some (.builtin "object.__class__"))
 hn:W.specialIn K (.builtin "object.__class__") "__get__"=some (some (.builtin "getset_descriptor.__get__"))
 tk:W.takesIn K (.builtin "object.__class__")=some true
 cl:(W.clsIn K C).isSome=true
section
variable {prog:Program} {w:World} {A:Around} {E:Value->Shared->Prop} {s:Shared} {K:Frag} {x D:Addr} {ox:Obj} {odo:Option Obj} {name:Str}
theorem Kq (k:wU K D)(X:K.In s.heap)(I:W.InstAt s.heap x ox D odo)(h:Q () s):
  wpAny (model prog w) A (checkBuiltinCall "BaseException.__getattribute__" ⟨[.ref x,nameV],[]⟩) Q E s:=by
 have hk:builtinKind "BaseException.__getattribute__"=some .slot:=by decide +kernel
 have hsplit:splitId "BaseException.__getattribute__"=some ("BaseException","__getattribute__"):=by decide +kernel
 obtain⟨hh,g,d,t,os⟩:=s;have L0:=I.type (M:=model prog w);have L1:=W.looks_mroIn (M:=model prog w) X k.bx;have LI:W.Looks (model prog w) hh (isInstance (.ref x) (.type "BaseException")) true:=L0.andThen L1;have ha:=PySem.F.args_bexc_ga (.ref x) nameV;simp only[checkBuiltinCall,hk,hsplit];refine wpAny_bind (LI.at ?_)
 repeat (first | lk | wp_step)
 exact h
theorem Ow {fill expr:Bool}(k:wU K D)(X:K.In s.heap)(I:W.InstAt s.heap x ox D odo)(hv:W.handedIn v=true)(hf:W.findObj K D odo name=some (.value v)\/∃g a,W.findObj K D odo name=some (.bind g a)/\∀(A':Around) (R:Result->Shared->Prop),R (.ok (.ret v)) s->codeAny (model prog w) A' (.call g ⟨[a,.ref x,.ref D],[]⟩) R s)(h:P v s):
  wpAny (model prog w) A (getAttrBy (.ref x) (.str name tk) fill expr) P E s:=by
 obtain⟨hh,g,d,t,os⟩:=s;have L0:=I.type (M:=model prog w);have L1:=W.looks_findIn (M:=model prog w) X k.ga;have L2:=W.looks_findIn (M:=model prog w) X k.gn;unfold getAttrBy;refine wpAny_holding (wpAny_bind (L0.at (wpAny_bind (L1.at ?_))));show wpAny _ _ (getAttrByItsOwn (.ref x) (.str name tk) (.ref D) (.builtin "BaseException.__getattribute__") fill expr) _ _ _;unfold getAttrByItsOwn hookBefore;have f3:=PySem.F.attr_ValueError.ga.bind (.ref x);refine wpAny_bind (L2.at ?_);refine wpAny_bind (wpAny_attempt (wpAny_holding ?_));unfold callGetattribute boundAndCalled;rw[if_neg (by cases expr<;>decide)];refine wpAny_bind (wpAny_of_eq f3 ?_);refine wpAny_call (codeAny_call_builtin PySem.F.attr_ValueError.ga.plain PySem.F.entry_bexc_ga (Kq k X I ?_));unfold Builtin.«object.__getattribute__»;refine wpAny_bind (wpAny_pure ?_);refine wpAny_bind (wpAny_pure ?_);refine wpAny_bind (L0.at ?_);rcases hf with hf | ⟨gg,a,hf,hc⟩
 ·refine wpAny_bind ((W.looks_find (M:=model prog w) X I hf).at ?_);refine wpAny_pure ?_;show wpAny _ _ (handedOut v) _ _ _;rw[W.handedOut_of hv];exact wpAny_pure h
 ·refine wpAny_bind ((W.looks_find (M:=model prog w) X I hf).at ?_);show wpAny _ _ (Builtin.ObjectAttr.bindTo gg a (.ref x) (.ref D)) _ _ _;show wpAny _ _ (holding [a] (call gg [a,.ref x,.ref D]) >>= ret) _ _ _;refine wpAny_bind (wpAny_holding (wpAny_call (hc _ _ ?_)));refine wpAny_pure ?_;show wpAny _ _ (handedOut v) _ _ _;rw[W.handedOut_of hv];exact wpAny_pure h
theorem Ku (k:wU K D)(X:K.In s.heap)(I:W.InstAt s.heap x ox D odo)(h:Q (some (.ref D)) { s with toks:=s.toks+1 }):
  wpAny (model prog w) A (getAttr? (.ref x) "__class__") Q E s:=by
 have hf:W.findObj K D odo "__class__"=some (.bind (.builtin "getset_descriptor.__get__") (.builtin "object.__class__")):=by
  obtain⟨cd,hc⟩:=Option.isSome_iff_exists.mp k.cl;unfold W.findObj;rw[hc,Option.bind_some,k.ca,Option.bind_some];simp[k.hn,k.tk]
 unfold getAttr? getAttrBy?;refine wpAny_bind (wpAny_mkText (wpAny_bind (wpAny_attempt (Ow (s:={ s with toks:=s.toks+1 }) k X I rfl (.inr ⟨_,_,hf,fun A' R q=>W.class_get (s:={ s with toks:=s.toks+1 }) X I k.ob q⟩) ?_))));exact wpAny_pure h
theorem Do (k:wU K D):W.KitX K (.ref x) (.ref D) (fun h=>W.InstAt h x ox D odo) where
 ty:=fun _ _ _ I=>I.type
 it:=fun _ _ X _=>by
  obtain⟨cdD,hcD⟩:=Option.isSome_iff_exists.mp k.cl;unfold W.clsIn at hcD;split at hcD
  ·rename_i c' d' cd' sl' ho
   intro A' Q' E' s' kk q;unfold isType loadHead;exact wpAny_bind (wpAny_loadPart (kk _ _ (X _ _ ho)) (wpAny_pure q))
  ·cases hcD
 ne:=fun h tp dd its n sl X htp=>by
  obtain⟨cdD,hcD⟩:=Option.isSome_iff_exists.mp k.cl;refine Bool.eq_false_iff.mpr fun q=>?_;have e:D=tp:=Value.ref.inj (beq_iff_eq.mp q);subst e;unfold W.clsIn at hcD;split at hcD
  ·rename_i c' d' cd' sl' ho
   have z:=(X _ _ ho).symm.trans htp
   cases z
  ·cases hcD
 ca:=fun X I h=>Ku k X I h
end
section
variable {X:Cx}
theorem Qb (I:Inv X pins σ H s)(e:H a=some (jN a (.ref C) none)):∃ox,W.InstAt s.heap a ox C none:=by
 obtain⟨⟨o,vs,h1,h2,h3,h4⟩,_⟩:=(show cN X.prog X.w H s.heap a (jN a (.ref C) none) from I.hok a _ e)
 refine⟨o,h1,h2,?_,?_⟩
 ·unfold W.notCls;rw[h4]
 ·rw[h3];trivial
theorem Kt:kL X (.builtin "isinstance") (fun xs H Q=>∃a C c cv b,xs=[.ref a,c]/\H a=some (jN a (.ref C) none)/\wU X.K C/\cC c cv/\(∀u,cC c u->u=cv)/\W.kitOne X.K (.ref C) cv=some b/\Q (.bl b) H):=by
 intro pins s σ H xs us Q I r h;obtain⟨a,C,c,cv,b,rfl,ha,k,rc,ru,e,q⟩:=h;obtain⟨u,w',rfl,rx,rn⟩:=Ih r
 cases (show u=Value.ref a from rx)
 cases ru w' rn
 obtain⟨ox,hi⟩:=Qb I ha;exact W.kia_one (Do (ox:=ox) (odo:=none) k) I.kIn hi e (fun z=>nomatch z) fun tk=>⟨.bl b,H,I.tok tk,rfl,q⟩
theorem iF (hg:Gl X x)(hm:X.mg x=some (.ref C))(hd:(x == ("__debug__":Str))=false:=by decide):PE X (.Name x pos) (tC (.ref C)):=dA hg hm rfl hd
end
end L2
namespace Mq
theorem eU (hp:1<=p.2)(hq:1<=q.2):Low (minus p q):=iV (gU hp hq)
theorem xY (hp:1<=p.2)(hq:1<=q.2):Low (rV p q):=iV (gU hp hq)
theorem tO {p q:Q2}(hp:1<=p.2)(hq:q.1≠0):p.2*q.1≠0:=Int.mul_ne_zero (by lia) hq
theorem Pn (hp:1<=p.2)(hq:q.1≠0):Low (rA p q):=iV (tO hp hq)
theorem Da (h:Bd n p)(g:Bd m q)(hp:1<=p.2)(hq:1<=q.2):Bd (n+m+1) (minus p q):=by
 have k:=rD (t:=p.1*q.2 - q.1*p.2) (gU hp hq);have a2:B (n+m) (q.1*p.2):=by rw[Nat.add_comm];exact g.a.mul h.b
 exact⟨((h.a.mul g.b).sub a2).le k.1,((h.b.mul g.b).mono (Nat.le_succ _)).le k.2⟩
theorem Oi (h:Bd n p)(g:Bd m q)(hp:1<=p.2)(hq:1<=q.2):Bd (n+m) (rV p q):=by
 have k:=rD (t:=p.1*q.1) (gU hp hq);exact⟨(h.a.mul g.a).le k.1,(h.b.mul g.b).le k.2⟩
theorem Vf (h:Bd n p)(g:Bd m q)(hp:1<=p.2)(hq:q.1≠0):Bd (n+m) (rA p q):=by
 have k:=rD (t:=p.1*q.2) (tO hp hq);exact⟨(h.a.mul g.b).le k.1,(h.b.mul g.a).le k.2⟩
end Mq
namespace L2
open PySem PySem.Spec PyProof.Rows
def NW (K:Frag)(H:Hp)(x:V):Prop:=∃t,kD K H x t/\iI t
inductive zD (K:Frag) (vs:List V) (H:Hp) (Q:VK) (E:XK):Prop where
 |mk (a b:Addr) (p q:Mq.Q2) (n m:Nat):vs=[.ref a,.ref b]->Fq K H a p->Fq K H b q->Mq.Bd n p->Mq.Bd m q->n+m+1<=9000->Q (.bl (decide (p.1*q.2 < q.1*p.2))) H->zD K vs H Q E
inductive TyQ (K:Frag) (H:Hp):V->Value->Prop where
 |of {x:V} {t:Value} (h:kD K H x t):TyQ K H x t
 |tup {a:Addr} {xs:List V} (h:SqT K H a xs):TyQ K H (.ref a) (.type "tuple")
 |lst {a:Addr} {xs:List V} (h:SqL K H a xs):TyQ K H (.ref a) (.type "list")
section
variable {X:Cx} {pins:List (Addr × Obj)} {σ:St} {H:Hp} {s:Shared} {A:Around} {E:Value->Shared->Prop} {Q:Value->Shared->Prop} {c:Value} {b:Bool}
theorem Fy (I:Inv X pins σ H s)(rx:cC x u)(ty:TyQ X.K H x t)(e:W.kitOne X.K t c=some b)(h:∀tk,Q (.bool b) { s with toks:=tk }):
  wpAny (model X.prog X.w) A (call (.builtin "isinstance") [u,c]) Q E s:=by
 cases ty with
 |of ty=>exact Ma I rx ty e h
 | @tup a xs ht=>
  cases (show u=Value.ref a from rx)
  obtain⟨its,_,p,_⟩:=I.tuple ht;obtain⟨o,h1,h2,_⟩:=p;exact W.kia_one W.kitx_tuple I.kIn ⟨o,h1,h2⟩ e (fun z=>nomatch z) h
 | @lst a xs ht=>
  cases (show u=Value.ref a from rx)
  obtain⟨its,_,p,_⟩:=I.list ht;obtain⟨o,h1,h2,_⟩:=p.isList;exact W.kia_one W.kitx_list I.kIn ⟨_,h1,h2⟩ e (fun z=>nomatch z) h
end
section
variable {X:Cx}
theorem Lp:kL X (.builtin "isinstance") (fun xs H Q=>∃x n t b,xs=[x,.ty n]/\TyQ X.K H x t/\W.kitOne X.K t (.type n)=some b/\Q (.bl b) H):=by
 intro pins s σ H vs us Q I rv h;obtain⟨x,n,t,b,rfl,ty,e,q⟩:=h;obtain⟨u,u2,rfl,r1,r2⟩:=Ih rv
 cases (show u2=Value.type n from r2)
 exact Fy I r1 ty e fun tk=>⟨.bl b,H,I.tok tk,rfl,q⟩
theorem kR {i:Nat}(hN:X.N[i]?=some x)(hv:Vis X.env.scope x)(b:X.mg "isinstance"=none)(b2:X.mg T=none)(g1:Gl X "isinstance")(g2:Gl X T)(hT:bootBuiltins T=some (.type T'))(hd:(x == ("__debug__":Str))=false:=by decide)(hcd:(x == ("__classdict__":Str))=false:=by decide)(hTn:T≠"__name__":=by decide)(hTd:(T == ("__debug__":Str))=false:=by decide)(he:starEach [.Name x p2,.Name T p3] X.env=(false,eval (.Name x p2) X.env) :: starEach [.Name T p3] X.env:=by rfl)(he2:starEach [.Name T p3] X.env=(false,eval (.Name T p3) X.env) :: starEach [] X.env:=by rfl)(hpl:(backTo pos (starEach [.Name T p3] X.env)).any (·.1)=false:=by rfl):
  PE X (.Call (.Name "isinstance" p1) [.Name x p2,.Name T p3] [] pos) (fun σ H Q=>∃v t b,σ[i]?=some (some v)/\TyQ X.K H v t/\W.kitOne X.K t (.type T')=some b/\Q (.bl b) H):=by
 have h:=bM (X:=X) (pos:=pos) (p:=p1) Lp g1 b PyProof.Rows.boot_isinstance (aA (Qh (i:=i) (pos:=p2) hN hv hd hcd) (aA (Ii (v:=.ty T') (pos:=p3) g2 b2 hT rfl hTn hTd) aC he2) he) (by decide) (by decide) he hpl;intro pins s σ H Q I q;obtain⟨v,t,bb,h1,h2,h3,h4⟩:=q;exact h pins s σ H Q I ⟨v,h1,v,T',t,bb,rfl,h2,h3,h4⟩
end
theorem SqT.upd {K:Frag}(h:SqT K H a xs)(hl:H l=some (.lst ys)):SqT K (L2.upd H l o) a xs:=by
 rcases h with (h | ⟨u,h⟩) | h
 ·exact .inl (.inl (by rw[aQ (fD h hl (fun z=>by cases z))];exact h))
 ·exact .inl (.inr ⟨u,by rw[aQ (fD h hl (fun z=>by cases z))];exact h⟩)
 ·exact .inr h
theorem pZ {K:Frag}:∀ns:List Int,vK K H (ns.map V.int) (ns.map PyData.int)
 | []=>.nil
 |n :: r=>.cons (.int n) (pZ r)
theorem vJ:∀ns:List Int,PyData.canLayAll0 (ns.map PyData.int)=true
 | []=>rfl
 |n :: r=>by
  show ((PyData.int n).canLay0 && PyData.canLayAll0 (r.map PyData.int))=true;rw[vJ r];rfl
theorem Pi (ns:List Int)(lo hi:Option Int):∃ms:List Int,lV (ns.map V.int) lo hi=ms.map V.int/\ms.length<=ns.length:=by
 refine⟨(ns.drop (HT.sIx (ns.map V.int).length 0 lo)).take (HT.sIx (ns.map V.int).length (ns.map V.int).length hi - HT.sIx (ns.map V.int).length 0 lo),?_,?_⟩
 ·unfold lV;rw[map_take,map_drop]
 ·rw[length_take,length_drop];lia
theorem Dv {K:Frag}{ns:List Int}(h1:SqL K H a (ns.map V.int))(h2:SqL K H b [])(z:Q (.bl (if neg then !ns.isEmpty else ns.isEmpty)) H):vL K neg (.ref a) (.ref b) H Q:=by
 refine⟨_,_,.lst h1 (pZ ns),.lst h2 .nil,vJ ns,rfl,?_,?_⟩
 ·have:(PyData.list []).depth<=1:=by decide
  lia
 ·cases ns<;>exact z
theorem iT:(((σC 2 fr σ).set 0 (some x)).set 1 (some y)).length=(σC 2 fr σ).length/\∀(i:Nat) v,(σC 2 fr σ)[i]?=some (some v)->(((σC 2 fr σ).set 0 (some x)).set 1 (some y))[i]?=some (some v):=by
 refine⟨by simp,fun i v h=>?_⟩
 match i with
 |0=>unfold σC at h;simp at h
 |1=>unfold σC at h;simp at h
 |k+2=>rw[getElem?_set_ne (by lia),getElem?_set_ne (by lia)];exact h
theorem Fqs.set {K:Frag}(h:Fq K H a p):∀{xs:List V} {ps:List Mq.Q2} (i:Nat),Fqs K H xs ps->Fqs K H (xs.set i (.ref a)) (ps.set i p)
 |_,_,_,.nil=>.nil
 |_,_,0,.cons _ q=>.cons h q
 |_,_,i+1,.cons g q=>.cons g (Fqs.set h i q)
theorem Fqs.at {K:Frag}:∀{xs:List V} {ps:List Mq.Q2} {i:Nat} {p:Mq.Q2},Fqs K H xs ps->ps[i]?=some p->∃a,xs[i]?=some (.ref a)/\Fq K H a p
 |_,_,_,_,.nil,h=>by simp at h
 |_,_,0,_,.cons h _,e=>by simp at e;subst e;exact⟨_,rfl,h⟩
 |_,_,i+1,_,.cons _ q,e=>by simpa using Fqs.at q (by simpa using e)
theorem Lq (lo:-(2 ^ n:Int) < i)(hi:i < 2 ^ n):Mq.B n i:=by
 unfold Mq.B;have e:((2 ^ n:Nat):Int)=2 ^ n:=by simp
 lia
theorem zF (X:Cx):∀l:List (Int × _ × Pos),PA X (l.map fun q=>Expr.Constant (.int q.1) q.2.1 q.2.2) (fun _ H Q=>Q (l.map fun q=>V.int q.1) H)
 | []=>aC
 |q :: l=>aA (te:=tC (.int q.1)) aG (zF X l) rfl
theorem kZ (h:k < n):ixN n (k:Int)=some k:=by
 unfold ixN;rw[if_pos (by lia),if_pos (by lia)];simp
section
variable {X:Cx} {tg:Expr}
inductive qf7 (K:Frag) (xs:List V) (H:Hp) (Q:VK):Prop where
 |mk (p:Addr) (bs:List Bool):xs=[.ref p]->SqL K H p (bs.map V.bl)->Q (.bl (bs.all id)) H->qf7 K xs H Q
theorem Oe (hc:X.calm=true):kL X (.builtin "all") (qf7 X.K):=by
 intro pins s σ H xs us Q I r h;obtain⟨p,bs,rfl,hq,q⟩:=h;obtain⟨u,rfl,rx⟩:=xZ r
 cases rx
 obtain⟨its,rv,pl,hz⟩:=I.list hq;have hlen:its.toArray.size=bs.length:=by rw[size_toArray,<- rv.length,length_map]
 have hne:p≠s.heap.objs.size:=by
  obtain⟨o,e,_⟩:=pl.isList;exact Nat.ne_of_lt (Heap.lt_size e)
 refine call_all_walk (wpAny_pyIter_list pl.isList ?_);refine⟨s.heap.objs.size,_,_,_,_,_,fun i=>bs.getD i false,rfl,Walks.list (by exact I.ok.hd hc) s.heap.objs.size p hne its.toArray,⟨⟨_,Heap.get?_push_size _ rfl,rfl,rfl⟩,?_⟩,?_,?_⟩
 ·obtain⟨o,e,c⟩:=pl.isList;exact⟨o,Heap.get?_push_of_some _ e,c⟩
 ·intro i v s' Q' E' hv q';have hv':its[i]?=some v:=by simpa using hv
  have hi:i < its.length:=(List.getElem?_eq_some_iff.mp hv').1;have hb:(bs.map V.bl)[i]?=some (.bl (bs.getD i false)):=by
   rw[getElem?_map,getElem?_eq_getElem (by rw[<- hlen];simpa using hi)];simp[List.getD,getElem?_eq_getElem (show i < bs.length by rw[<- hlen];simpa using hi)]
  obtain⟨u,hu,ru⟩:=rv.get hb;have e:u=v:=by rw[hv'] at hu;cases hu;rfl
  subst e
  cases ru
  exact wpAny_truthy_bool q'
 ·intro h' tk kk;have e:(List.range its.toArray.size).all (fun i=>bs.getD i false)=bs.all id:=by
   rw[hlen,Bool.eq_iff_iff,all_eq_true,all_eq_true];constructor
   ·intro z b hb;obtain⟨i,hi,rfl⟩:=getElem_of_mem hb;have:=z i (mem_range.mpr hi);simpa[List.getD,getElem?_eq_getElem hi] using this
   ·intro z i hi;have hi':=mem_range.mp hi;have:=z bs[i] (getElem_mem hi');simpa[List.getD,getElem?_eq_getElem hi'] using this
  rw[e];refine⟨.bl _,H,I.kept (t':=tk) fun b o hb=>?_,rfl,q⟩;have hb2:b≠s.heap.objs.size:=Nat.ne_of_lt (Heap.lt_size hb);exact kk b o (by simpa using hb2) (Heap.get?_push_of_some _ hb)
end
inductive Jr {ι:Type} (C:ι->Addr) (m:Str) (sp:ι->Sp) (dvs:List V) (E:XK) (t:TA) (σ:St) (Q:VK) (x:V) (H1:Hp):Prop where
 |mk (i a dx fs):x=.ref a->H1 a=some (.ins (C i) dx fs)->fs.lookup m=none->(t σ H1 fun vs H2=>sp i (x :: (vs++dvs)) H2 Q E)->Jr C m sp dvs E t σ Q x H1
def Sc {ι:Type}(C:ι->Addr)(m:Str)(sp:ι->Sp)(dvs:List V)(E:XK)(ta:TE)(t:TA):TE:=fun σ H Q=>ta σ H fun x H1=>Jr C m sp dvs E t σ Q x H1
section
variable {X:Cx} {ι:Type} {C f:ι->Addr} {fd:ι->FuncData} {sp:ι->Sp} {m:Str} {CX:CXT} {k:Nat} {ps:List Str} {ds:List Value} {dvs:List V} {E:XK} {o e:Expr} {es:List Expr} {ta:TE} {t:TA} {apos pos:Pos}
theorem By (he:PE X o ta)(c:∀i,Cls X.K (C i))(hm:∀i,fM X.K (C i) m (f i))(F:∀i,aK X.prog X.w X.K X.mg X.base CX k (f i) (fd i) ps (sp i))(hr:gH k X.A)(hb:∀i,aL X.K (fd i) ps ds)(hd:bV dvs ds)(hx:jZ CX X E)(ha:PA X (e :: es) t)(hst:starEach (e :: es) X.env=(false,eval e X.env) :: starEach es X.env:=by rfl)(hpl:(backTo pos (starEach es X.env)).any (·.1)=false:=by rfl)(ht:eval (.Call (.Attribute o m apos) (e :: es) [] pos) X.env=(do
   let ov <- eval o X.env
   standAt apos.atName
   let (f,first) <- holding [ov] (getMethod ov m pl)
   callWith pos f first (backTo pos (starEach (e :: es) X.env)) (backToKw pos (keywordEach [] X.env))):=by rfl):
  PE X (.Call (.Attribute o m apos) (e :: es) [] pos) (Sc C m sp dvs E ta t):=by
 intro pins s σ H Q I h;refine W.methodCall_KW (pl:=pl) (thn (he pins s σ H _ I h) fun u s1 ⟨x,H1,I1,rx,i,a,dx,fs,ex,ea,l,q⟩=>?_) ht;subst ex;obtain rfl:u=Value.ref a:=rx;refine lM I1 ea (c i) (hm i) l ?_;refine W.callWith_K (first:=[.ref a]) (h₀:=X.base) I.ok.mod.kin (hm i).kp (thn (ha pos pins s1 σ H1 _ I1 q) fun us s2 ⟨vs,H2,I2,r,q2⟩=>⟨I2.kIn,?_⟩) hst hpl;exact uL (us:=.ref a :: us) (vs:=.ref a :: vs) (F i) hr (hb i) hd hx I2 (.cons rfl r) q2
theorem fH (he:PE X o ta)(c:∀i,Cls X.K (C i))(hm:∀i,fM X.K (C i) m (f i))(F:∀i,aK X.prog X.w X.K X.mg X.base CX k (f i) (fd i) ps (sp i))(hr:gH k X.A)(hb:∀i,aL X.K (fd i) ps ds)(hd:bV dvs ds)(hx:jZ CX X E)(ht:eval (.Call (.Attribute o m apos) [] [] pos) X.env=(do
   let ov <- eval o X.env
   standAt apos.atName
   let (f,first) <- holding [ov] (getMethod ov m pl)
   callWith pos f first (backTo pos (starEach [] X.env)) (backToKw pos (keywordEach [] X.env))):=by rfl):
  PE X (.Call (.Attribute o m apos) [] [] pos) (Sc C m sp dvs E ta Zy):=by
 intro pins s σ H Q I h;refine W.methodCall_KW (pl:=pl) (thn (he pins s σ H _ I h) fun u s1 ⟨x,H1,I1,rx,i,a,dx,fs,ex,ea,l,q⟩=>?_) ht;subst ex;obtain rfl:u=Value.ref a:=rx;refine lM I1 ea (c i) (hm i) l ?_;exact W.callWith_K0 (first:=[.ref a]) I1.kIn (hm i).kp (uL (us:=[.ref a]) (vs:=[.ref a]) (F i) hr (hb i) hd hx I1 (.cons rfl .nil) q)
end
inductive Kd where
 |pc | pu | ho
 deriving DecidableEq
def Kd.wd:Kd->Str
 | .pc=>"piece"
 | .pu=>"push"
 | .ho=>"hold"
def Kd.cn:Kd->Str
 | .pc=>"Piece"
 | .pu=>"Push"
 | .ho=>"Hold"
theorem Kd.wd_inj {k j:Kd}(h:k.wd=j.wd):k=j:=by
 cases k<;>cases j<;>first | rfl | exact absurd h (by decide +kernel)
theorem fsg:¬(("start":Str) = "goal"):=by decide +kernel
theorem fsz:¬(("start":Str) = "size"):=by decide +kernel
theorem fgz:¬(("goal":Str) = "size"):=by decide +kernel
def kO (s g z:V):List (Str × V):=dB "size" z (dB "goal" g (dB "start" s []))
theorem dG (s g z:V):(kO s g z).lookup ("start":Str)=some s:=by
 unfold kO;rw[bN,if_neg fsz,bN,if_neg fsg,bN,if_pos rfl]
theorem dQ (s g z:V):(kO s g z).lookup ("goal":Str)=some g:=by
 unfold kO;rw[bN,if_neg fgz,bN,if_pos rfl]
theorem fX (s g z:V):(kO s g z).lookup ("size":Str)=some z:=by
 unfold kO;rw[bN,if_pos rfl]
theorem dM (s g z:V){m:Str}(h1:¬m = "start")(h2:¬m = "goal")(h3:¬m = "size"):(kO s g z).lookup m=none:=by
 unfold kO;rw[bN,if_neg h3,bN,if_neg h2,bN,if_neg h1];rfl
def Rw (CK:Kd->Addr)(H:Hp)(x:Addr)(k:Kd)(s g z:V):Prop:=∃dx,H x=some (.ins (CK k) dx (kO s g z))
theorem Rw.same (e:aS H H')(h:Rw CK H x k s g z):Rw CK H' x k s g z:=let ⟨dx,q⟩:=h;⟨dx,e _ _ q⟩
theorem Rw.upd (h:Rw CK H x k s g z)(hl:H l=some (.lst ys)):Rw CK (L2.upd H l o) x k s g z:=let ⟨dx,q⟩:=h;⟨dx,by rw[aQ (fD q hl (fun z=>by cases z))];exact q⟩
structure RT (K:Frag) (mg:Str->Option Value) (CR:Addr) (CK:Kd->Addr):Prop where
 cl:∀k,Cls K (CK k)
 nS:∀k,gG K (CK k) "start"
 nG:∀k,gG K (CK k) "goal"
 nZ:∀k,gG K (CK k) "size"
 t1:∀k,W.findIn K (.ref (CK k)) "__class__"=some (some (.builtin "object.__class__"))
 t2:W.specialIn K (.builtin "object.__class__") "__get__"=some (some (.builtin "getset_descriptor.__get__"))
 t3:W.takesIn K (.builtin "object.__class__")=some true
 t4:∀k,W.mroIn K (CK k) (.type "object")=some true
 isR:∀k,W.kitOne K (.ref (CK k)) (.ref CR)=some true
 isK:∀k j,W.kitOne K (.ref (CK k)) (.ref (CK j))=some (decide (k=j))
 mR:mg "Row"=some (.ref CR)
 mK:∀k,mg (Kd.cn k)=some (.ref (CK k))
section
variable {K:Frag} {mg:Str->Option Value} {CR:Addr} {CK:Kd->Addr} {H:Hp} {x:Addr} {k:Kd} {s g z:V}
theorem Rw.new (h1:H x=none)(h2:H dx=none)(ne:dx≠x):aS H (L2.upd (L2.upd H dx (.own x)) x (.ins C dx fs)):=fun b o e=>by
 rw[aQ (aX e h1),aQ (aX e h2)];exact e
end
inductive tT (CK:Kd->Addr) (vs:List V) (H:Hp) (Q:VK) (E:XK):Prop where
 |mk (x dx:Addr) (k:Kd) (s g z:V):vs=[.ref x,s,g,z]->H x=some (.ins (CK k) dx [])->Q .non (upd H x (.ins (CK k) dx (kO s g z)))->tT CK vs H Q E
inductive jH (k:Kd) (vs:List V) (H:Hp) (Q:VK) (E:XK):Prop where
 |mk (x):vs=[x]->Q (.str k.wd) H->jH k vs H Q E
inductive oA (k:Kd) (vs:List V) (H:Hp) (Q:VK) (E:XK):Prop where
 |mk (x):vs=[x]->Q (.bl (decide (k≠.pu))) H->oA k vs H Q E
inductive sQ (CK:Kd->Addr) (vs:List V) (H:Hp) (Q:VK) (E:XK):Prop where
 |mk (x:Addr) (k:Kd) (s g z:V):vs=[.ref x]->Rw CK H x k s g z->(∀t,H t=none->Q (.ref t) (upd H t (.tup [.str k.wd,s,g,z])))->sQ CK vs H Q E
def qo8 (CK:Kd->Addr)(H:Hp)(Q:VK)(k:Kd)(s g z:V):Prop:=∀x H',aS H H'->H x=none->Rw CK H' x k s g z->Q (.ref x) H'
theorem Bm {K:Frag}(h1:oR K H x d)(h2:oR K H y d)(hl:d.canLay0=true)(hd:d.depth<=16)(z:Q (.bl (!neg)) H):vL K neg x y H Q:=by
 refine⟨d,d,h1,h2,hl,hl,by lia,?_⟩;have e:PyData.eqv d d=true:=PySem.SeqAt.eqv_refl _ hl;rw[e]
 cases neg<;>exact z
def rd4 (w:Str)(i j:Int)(p:Mq.Q2):PyData:=.tuple [.str w,.int i,.int j,qd p]
theorem Ux (h:(PyData.str w).canLay0=true)(i j:Int)(p:Mq.Q2):(rd4 w i j p).canLay0=true:=by
 show ((PyData.str w).canLay0 && ((PyData.int i).canLay0 && ((PyData.int j).canLay0 && ((qd p).canLay0 && true))))=true;rw[h];rfl
theorem Kd.lay (k:Kd):(PyData.str k.wd).canLay0=true:=by cases k<;>decide +kernel
theorem ifT {A B:Prop}(h:c=true)(x:A):if c=true then A else B:=by rw[if_pos h];exact x
theorem ifF {A B:Prop}(h:c=false)(x:B):if c=true then A else B:=by rw[if_neg (by rw[h];decide)];exact x
theorem Tt {K:Frag}(h:SqT K H t [.str w,.int i,.int j,.ref a])(f:Fq K H a p):oR K H (.ref t) (rd4 w i j p):=.tup h (.cons (.str _) (.cons (.int _) (.cons (.int _) (.cons f.dat .nil))))
theorem dL (k j:Kd):decide (V.str k.wd=V.str j.wd)=decide (k=j):=by
 by_cases h:k=j
 ·subst h;simp
 ·rw[decide_eq_false h];exact decide_eq_false fun z=>h (Kd.wd_inj (V.str.inj z))
theorem kD.same {K:Frag}(s:aS H H')(h:kD K H x t):kD K H' x t:=by
 cases h with
 |non=>exact .non
 |bl b=>exact .bl b
 |int i=>exact .int i
 |str y=>exact .str y
 |flt y=>exact .flt y
 |lst e=>exact .lst (s _ _ e)
 |frz e=>exact .frz (s _ _ e)
 |tup e=>exact .tup (s _ _ e)
 |dK e=>exact .dK (s _ _ e)
 |dT e=>exact .dT (s _ _ e)
 |ins e cl ha hn htk hm=>exact .ins (s _ _ e) cl ha hn htk hm
theorem jC {p:Kd->Prop}(a:p .pc)(b:p .pu)(c:p .ho):∀k,p k:=fun k=>by cases k<;>assumption
theorem pT (K:Frag)(t:PySem.Value):PySem.W.kitOne K t t=some true:=by unfold PySem.W.kitOne;rw[if_pos (beq_self_eq_true _)]
def kd3 {α:Type}(a b c:α):Kd->α
 | .pc=>a
 | .pu=>b
 | .ho=>c
end L2
namespace Mq
def jM (ps:List Q2):Prop:=∀p∈ps,Low p
end Mq
open Mq (jM)
namespace L2
open PySem PySem.Spec PyProof.Rows
section
variable {κ:Type} [DecidableEq κ]
def pG (kvs:List (κ × V))(k:κ):Option V:=(kvs.find? fun kv=>decide (kv.1=k)).map (·.2)
def mC (kvs:List (κ × V))(k:κ)(v:V):List (κ × V):=
 if (kvs.any fun kv=>decide (kv.1=k))=true then kvs.map (fun kv=>if kv.1=k then (kv.1,v) else kv) else kvs++[(k,v)]
theorem pE {p:κ × V}(e:p.1=k):pG (p :: r) k=some p.2:=by simp[pG,find?_cons,e]
theorem nU {p:κ × V}(e:¬p.1=k):pG (p :: r) k=pG r k:=by simp[pG,find?_cons,e]
theorem Cm (k:κ):∀kvs:List (κ × V),(kvs.any fun kv=>decide (kv.1=k))=(pG kvs k).isSome
 | []=>rfl
 |p :: r=>by
  rw[any_cons]
  by_cases e:p.1=k
  ·simp only[pE e,decide_eq_true e,Bool.true_or,Option.isSome_some]
  ·rw[nU e,decide_eq_false e,Bool.false_or];exact Cm k r
theorem nQ (kvs:List (κ × V))(k:κ)(v:V):(mC kvs k v).length<=kvs.length+1:=by
 unfold mC;split
 ·rw[length_map];lia
 ·rw[List.length_append,length_cons,length_nil];lia
theorem jY.isSome_eq (r:jY o u):o.isSome=u.isSome:=by
 cases o with
 |none=>cases u with
  |none=>rfl
  |some _=>exact(show False from r).elim
 |some _=>cases u with
  |none=>exact(show False from r).elim
  |some _=>rfl
theorem jY.getD (r:jY o u)(rd:cC d d'):cC (o.getD d) (u.getD d'):=by
 cases o with
 |none=>cases u with
  |none=>exact rd
  |some _=>exact(show False from r).elim
 |some _=>cases u with
  |none=>exact(show False from r).elim
  |some _=>exact r
theorem KV.val (r:KV kvs vs)(k:κ):jY (pG kvs k) (valueAt vs k):=by
 unfold KV at r
 induction r with
 |nil=>exact True.intro
 | @cons p q ps qs h t ih=>
  obtain⟨h1,h2⟩:=h
  by_cases e:p.1=k
  ·have e':q.1=k:=h1.symm.trans e;have b:valueAt (q :: qs) k=some q.2:=by simp[valueAt,find?_cons,e']
   rw[pE e,b];exact h2
  ·have e':¬q.1=k:=fun z=>e (h1.trans z);have b:valueAt (q :: qs) k=valueAt qs k:=by simp[valueAt,find?_cons,e']
   rw[nU e,b];exact ih
theorem KV.any (r:KV kvs vs)(k:κ):(kvs.any fun kv=>decide (kv.1=k))=vs.any fun kv=>decide (kv.1=k):=by
 unfold KV at r
 induction r with
 |nil=>rfl
 |cons h t ih=>rw[any_cons,any_cons,ih,h.1]
theorem KV.repl (r:KV kvs vs)(k:κ)(ry:cC y u):
  KV (kvs.map fun kv=>if kv.1=k then (kv.1,y) else kv) (vs.map fun kv=>if kv.1=k then (kv.1,u) else kv):=by
 unfold KV at r ⊢
 induction r with
 |nil=>exact .nil
 | @cons p q ps qs h t ih=>
  rw[map_cons,map_cons];refine .cons ?_ ih;obtain⟨h1,h2⟩:=h
  by_cases e:p.1=k
  ·rw[if_pos e,if_pos (h1.symm.trans e)];exact⟨h1,ry⟩
  ·rw[if_neg e,if_neg (fun z=>e (h1.trans z))];exact⟨h1,h2⟩
theorem KV.put (r:KV kvs vs)(k:κ)(ry:cC y u):KV (mC kvs k y) (stored vs k u):=by
 unfold mC stored;rw[r.any k]
 by_cases e:(vs.any fun kv=>decide (kv.1=k))=true
 ·rw[if_pos e,if_pos e];exact r.repl k ry
 ·rw[if_neg e,if_neg e];exact Paired.snoc r ⟨rfl,ry⟩
theorem KV.length {kvs:List (κ × V)}(r:KV kvs vs):kvs.length=vs.length:=Paired.length r
end
theorem xG (r:cC (kV k) u):(dZ P w).is k u=true:=by
 cases k with
 |inl i=>obtain⟨t,e⟩:=(show ∃t,u=Value.int i t from r);subst e;exact Dx P w i t
 |inr x=>obtain⟨t,e⟩:=(show ∃t,u=Value.str x t from r);subst e;exact Ea P w x t
theorem yM:∀{ks:List Key} {us:List Value},bV (ks.map kV) us->ItemsAre (dZ P w) ks us
 | [],_,r=>by rw[map_nil] at r;cases r;exact .nil
 |k :: ks,_,r=>by
  rw[map_cons] at r
  cases r with
  |cons h t=>exact .cons (xG h) (yM t)
abbrev KT (H:Hp):List (List Key × V)->List (List Key × Addr × Value)->Prop:=Paired fun p q=>p.1=q.1/\H q.2.1=some (.tup (p.1.map kV))/\cC p.2 q.2.2
theorem KT.val (r:KT H kvs xs)(k:List Key):jY (pG kvs k) ((atKey xs k).map (·.2)):=by
 induction r with
 |nil=>exact True.intro
 | @cons p q ps qs h t ih=>
  obtain⟨h1,_,h2⟩:=h
  by_cases e:p.1=k
  ·have e':q.1=k:=h1.symm.trans e;have b:atKey (q :: qs) k=some q.2:=by simp[atKey,find?_cons,e']
   rw[pE e,b];exact h2
  ·have e':¬q.1=k:=fun z=>e (h1.trans z);have b:atKey (q :: qs) k=atKey qs k:=by simp[atKey,find?_cons,e']
   rw[nU e,b];exact ih
theorem KT.repl (r:KT H kvs xs)(k:List Key)(ry:cC y u):
  KT H (kvs.map fun kv=>if kv.1=k then (kv.1,y) else kv) (xs.map (putAt k u)):=by
 induction r with
 |nil=>exact .nil
 | @cons p q ps qs h t ih=>
  rw[map_cons,map_cons];refine .cons ?_ ih;obtain⟨h1,h2,h3⟩:=h;unfold putAt
  by_cases e:p.1=k
  ·rw[if_pos e,if_pos (h1.symm.trans e)];exact⟨h1,h2,ry⟩
  ·rw[if_neg e,if_neg (fun z=>e (h1.trans z))];exact⟨h1,h2,h3⟩
theorem KT.put (r:KT H kvs xs)(k:List Key)(hb:H b=some (.tup (k.map kV)))(ry:cC y u):
  KT H (mC kvs k y) (storedH xs k b u):=by
 have e:(kvs.any fun kv=>decide (kv.1=k))=(atKey xs k).isSome:=by
  rw[Cm,(r.val k).isSome_eq,Option.isSome_map]
 unfold mC storedH;rw[e]
 by_cases q:(atKey xs k).isSome=true
 ·rw[if_pos q,if_pos q];exact r.repl k ry
 ·rw[if_neg q,if_neg q];exact Paired.snoc r ⟨rfl,hb,ry⟩
theorem KT.keeps (r:KT H kvs xs)(ht:∀b ys,H b=some (.tup ys)->H' b=some (.tup ys)):KT H' kvs xs:=
 Paired.mapP r fun _ _ z=>⟨z.1,ht _ _ z.2.1,z.2.2⟩
section
variable {P:Program} {w:World} {H:Hp} {h:Heap} {a:Addr}
theorem Xb (ok:HOk P w H h)(e:Rd H a u):cN P w H h a u:=e.ok ok
theorem yN (ok:HOk P w H h)(e:Rd H a (.dK kvs)):kvs.length<=sizeLine/\(a == sysModules)=false/\∃vs,KV kvs vs/\h.DictOf (dZ P w) a vs:=
 show cN P w H h a (.dK kvs) from Xb ok e
theorem Xc (ok:HOk P w H h)(e:H a=some (.dK kvs)):kvs.length<=sizeLine/\(a == sysModules)=false/\∃vs,KV kvs vs/\h.DictOf (dZ P w) a vs:=yN ok (.inl e)
theorem uO (ok:HOk P w H h)(e:H a=some (.tup (ks.map kV))):(tupleKind (dZ P w)).is h ks a:=by
 obtain⟨_,its,r,o,h1,h2,n,h3⟩:=(show cN P w H h a (.tup (ks.map kV)) from ok a _ e)
 exact⟨o,its.toArray,n,h1,h2,h3,by simpa using yM r⟩
theorem xL (ok:HOk P w H h)(e:Rd H a (.dT kvs)):kvs.length<=sizeLine/\(a == sysModules)=false/\
  ∃xs,KT H kvs xs/\h.DictOfH (tupleKind (dZ P w)) a xs:=by
 obtain⟨z,y,xs,r,o,es,ep,h1,h2,h3,h4,h5⟩:=(show cN P w H h a (.dT kvs) from Xb ok e)
 refine⟨z,y,xs,r,o,es,ep,h1,h2,h3,h4,fun x hx=>?_,h5⟩;have all:∀{l:List (List Key × V)} {m:List (List Key × Addr × Value)},KT H l m->∀x∈m,(tupleKind (dZ P w)).is h x.1 x.2.1:=by
  intro l m q
  induction q with
  |nil=>intro x hx;exact nomatch hx
  | @cons p q ps qs hq t ih=>
   intro x hx;rcases mem_cons.mp hx with e | hx
   ·subst e;exact uO ok (by rw[<- hq.1];exact hq.2.1)
   ·exact ih x hx
 exact all r x hx
theorem qg6 (ok:HOk P w H h)(e:H a=some (.dT kvs)):kvs.length<=sizeLine/\(a == sysModules)=false/\
  ∃xs,KT H kvs xs/\h.DictOfH (tupleKind (dZ P w)) a xs:=xL ok (.inl e)
end
def kI (H:Hp)(a:Addr)(y:V)(r:Option V):Prop:=
 (∃kvs k,Rd H a (.dK kvs)/\y=kV k/\r=pG kvs k)\/∃kvs k b,Rd H a (.dT kvs)/\y=.ref b/\H b=some (.tup (k.map kV))/\r=pG kvs k
def Qe (H:Hp)(a:Addr)(y v:V)(H':Hp):Prop:=
 (∃kvs k,H a=some (.dK kvs)/\y=kV k/\kvs.length < sizeLine/\H'=upd H a (.dK (mC kvs k v)))\/
 ∃kvs k b,H a=some (.dT kvs)/\y=.ref b/\H b=some (.tup (k.map kV))/\kvs.length < sizeLine/\H'=upd H a (.dT (mC kvs k v))
theorem kI.k {k:Key}(e:H a=some (.dK kvs)):kI H a (kV k) (pG kvs k):=.inl ⟨kvs,k,.inl e,rfl,rfl⟩
theorem Qe.k {k:Key}(e:H a=some (.dK kvs))(hl:kvs.length < sizeLine):Qe H a (kV k) v (upd H a (.dK (mC kvs k v))):=.inl ⟨kvs,k,e,rfl,hl,rfl⟩
section
variable {X:Cx} {pins:List (Addr × Obj)} {σ:St} {H:Hp} {s:Shared} {a:Addr} {y v:V} {u r:Value} {o:Option V} {A:Around} {E:Value->Shared->Prop}
theorem Inv.big (I:Inv X pins σ H s):sysModules < s.heap.objs.size:=by
 have h:mainGlobals < s.heap.objs.size:=(I.mod.glob.keeps I.bk).lt;exact Nat.lt_trans (by decide) h
theorem Le (hu:A.units+1 < cLine)(I:Inv X pins σ H s)(g:kI H a y (some v))(ry:cC y u)(h:∀w' s',Inv X pins σ H s'->cC v w'->Q w' s'):
  wpAny (model X.prog X.w) A (getItem (.ref a) u) Q E s:=by
 rcases g with ⟨kvs,k,e,ey,l⟩ | ⟨kvs,k,b,e,ey,eb,l⟩
 ·subst ey;obtain⟨z,hd,vs,rel,dd⟩:=yN I.hok e;obtain⟨w',hw,rw'⟩:=jY.some_of (v:=v) (o:=valueAt vs k) (by rw[l];exact rel.val k);exact wpAny_getItem_of (xG ry) dd.mapOf hw (h w' _ (I.tok _) rw')
 ·subst ey
  cases (show u=Value.ref b from ry)
  obtain⟨z,hd,xs,rel,dd⟩:=xL I.hok e;obtain⟨w',hw,rw'⟩:=jY.some_of (v:=v) (o:=(atKey xs k).map (·.2)) (by rw[l];exact rel.val k);obtain⟨p,hp,hp2⟩:=Option.map_eq_some_iff.mp hw;refine wpAny_getItem_heap (tupleKind_room_in1 hu) (uO I.hok eb) dd hp ?_;rw[hp2];exact h w' _ (I.tok _) rw'
theorem Uo (hu:A.units+1 < cLine)(I:Inv X pins σ H s)(g:kI H a y o)(ry:cC y u)(h:∀s',Inv X pins σ H s'->Q (.bool (!o.isSome)) s'):
  wpAny (model X.prog X.w) A (compareOp .NotIn u (.ref a)) Q E s:=by
 rcases g with ⟨kvs,k,e,ey,l⟩ | ⟨kvs,k,b,e,ey,eb,l⟩
 ·subst ey;obtain⟨z,hd,vs,rel,dd⟩:=yN I.hok e;refine wpAny_notIn_of (xG ry) hd dd.mapOf ?_;rw[<- (rel.val k).isSome_eq,<- l];exact h _ (I.tok _)
 ·subst ey
  cases (show u=Value.ref b from ry)
  obtain⟨z,hd,xs,rel,dd⟩:=xL I.hok e;refine wpAny_notIn_heap (tupleKind_room_in1 hu) (uO I.hok eb) hd dd ?_;have q:=(rel.val k).isSome_eq;rw[Option.isSome_map] at q;rw[<- q,<- l];exact h _ (I.tok _)
theorem Aw (I:Inv X pins σ H s)(mu:Mut (H a))(hs:Heap.SameBut a s.heap h')(he:∃q,h'.get? a=some q)(new:cN X.prog X.w (upd H a ob) h' a ob):
  Inv X pins σ (upd H a ob) { s with heap:=h',toks:=t' }:=
 I.write (x:=a) (e:=a) mu (.inl rfl) (fun b q hb z=>(hs.2 b hb).trans z) he new
theorem Rx (z:kvs.length<=sizeLine)(hd:(a == sysModules)=false)(rel:KV kvs vs)(dd:h'.DictOf (dZ P w) a vs):
  cN P w H' h' a (.dK kvs):=⟨z,hd,vs,rel,dd⟩
theorem Ml (hu:A.units+1 < cLine)(I:Inv X pins σ H s)(g:Qe H a y v H')(ry:cC y u)(rv:cC v r)(h:∀s',Inv X pins σ H' s'->Q () s'):
  wpAny (model X.prog X.w) A (setItem (.ref a) u r) Q E s:=by
 rcases g with ⟨kvs,k,e,ey,l,eH⟩ | ⟨kvs,k,b,e,ey,eb,l,eH⟩
 ·subst ey eH;obtain⟨z,hd,vs,rel,dd⟩:=Xc I.hok e;have hz:vs.length<=sizeLine:=by rw[<- rel.length];exact z
  have hl:(mC kvs k v).length<=sizeLine:=by have:=nQ kvs k v;lia
  refine wpAny_setItem_pairs (hsz:=hz) (xG ry) dd fun h' dd' hs=>h _ ?_;have he:∃q,h'.get? a=some q:=let ⟨q,_,_,hq,_⟩:=dd';⟨q,hq⟩
  exact Aw I (by rw[e];exact True.intro) hs he (Rx hl hd (rel.put k rv) dd')
 ·subst ey eH
  cases (show u=Value.ref b from ry)
  obtain⟨z,hd,xs,rel,dd⟩:=qg6 I.hok e;have hz:xs.length<=sizeLine:=by rw[<- Paired.length rel];exact z
  have hl:(mC kvs k v).length<=sizeLine:=by have:=nQ kvs k v;lia
  refine wpAny_setItem_heap (hsz:=hz) (tupleKind_room_in1 hu) (uO I.hok eb) dd fun h' dd' hs=>h _ ?_;obtain⟨q,es,ep,hq,h2,h3,h4,_,h5⟩:=dd';refine Aw I (by rw[e];exact True.intro) hs ⟨q,hq⟩ ⟨hl,hd,_,(rel.put k eb rv).keeps fun c ys ec=>?_,q,es,ep,hq,h2,h3,h4,h5⟩;rw[aQ (fD ec e (fun z=>nomatch z))];exact ec
end
def ql1 (i:Expr):Prop:=∀ov iv,subscripted i false ov iv=operate [ov,iv] (getItem ov iv)
theorem Ve {T id:String}(hl:typeLookup (.type T) "__getitem__"=pure (some (.builtin id)))(hs:ql1 slice)(h:wpAny (model prog w) A (eval value env) (fun o s₁=>wpAny (model prog w) A (eval slice env) (fun i s₂=>s₂.TypeIs o T/\wpAny (model prog w) A (getItem o i) Q E s₂) E s₁) E s):
  wpAny (model prog w) A (eval (.Subscript value slice pos) env) Q E s:=by
 refine Subscript_ (wpAny_mono h (fun o s₁ h₁=>wpAny_mono h₁ (fun i s₂ h₂=>?_) fun _ _ x=>x) fun _ _ x=>x);obtain⟨hT,h₂⟩:=h₂;unfold subscriptTail;refine wpAny_bind ?_;rw[getitemInPython_of_ne hT.not_modules];refine wpAny_bind (wpAny_specialOf hT hl ?_);have fin:wpAny (model prog w) A (subscripted slice false o i) (fun r s₃=>wpAny (model prog w) A (letTemporaryGo value o r >>= fun _=>pure r) Q E s₃) E s₂:=by
  rw[hs o i];exact wpAny_operating (wpAny_mono h₂ (fun r s₃ h₃=>wpAny_bind (wpAny_letTemporaryGo (wpAny_pure h₃))) fun _ _ x=>x)
 first
  |exact wpAny_pure (wpAny_bind fin)
  |exact wpAny_bind (wpAny_pure (wpAny_bind fin))
  |exact wpAny_bind fin
theorem Eb (I:Inv X pins σ H s)(g:kI H a y o):s.TypeIs (.ref a) "dict":=by
 rcases g with ⟨kvs,k,e,_,_⟩ | ⟨kvs,k,b,e,_,_,_⟩
 ·obtain⟨_,_,vs,_,dd⟩:=yN I.hok e;exact dd.typeIs
 ·obtain⟨_,_,xs,_,dd⟩:=xL I.hok e;exact dd.typeIs
def qi6 (td ty:TE):TE:=fun σ H Q=>td σ H fun x H1=>ty σ H1 fun y H2=>∃a v,x=.ref a/\kI H2 a y (some v)/\Q v H2
def Vl (ty td:TE):TE:=fun σ H Q=>ty σ H fun y H1=>td σ H1 fun x H2=>∃a o,x=.ref a/\kI H2 a y o/\Q (.bl (!o.isSome)) H2
def qi2 (td ty tv:TE):TS:=fun D σ H=>tv σ H fun v H1=>td σ H1 fun x H2=>ty σ H2 fun y H3=>∃a H4,x=.ref a/\Qe H3 a y v H4/\D.nx σ H4
section
variable {X:Cx} {o i e value:Expr} {pos pos' tpos:Pos} {td ty tv:TE}
theorem sY (hu:X.A.units+1 < cLine)(ho:PE X o td)(hi:PE X i ty)(hs:ql1 i):PE X (.Subscript o i pos) (qi6 td ty):=by
 intro pins s σ H Q I h;refine Ve PySem.F.slot_dict_getitem.lookup hs (thn (ho pins s σ H _ I h) fun u s1 ⟨x,H1,I1,rx,q1⟩=>thn (hi pins s1 σ H1 _ I1 q1) fun iv s2 ⟨y,H2,I2,ry,a,v,ex,g,q2⟩=>?_);subst ex;obtain rfl:u=Value.ref a:=rx;exact⟨Eb I2 g,Le hu I2 g ry fun w' s3 I3 rw'=>⟨v,H2,I3,rw',q2⟩⟩
theorem Mh (hu:X.A.units+1 < cLine)(hi:PE X i ty)(ho:PE X o td):PC X .NotIn i o (Vl ty td):=by
 intro pins s σ H Q I h;refine thn (hi pins s σ H _ I h) fun iv s1 ⟨y,H1,I1,ry,q1⟩=>thn (ho pins s1 σ H1 _ I1 q1) fun u s2 ⟨x,H2,I2,rx,a,ov,ex,g,q2⟩=>?_;subst ex;obtain rfl:u=Value.ref a:=rx;exact Uo hu I2 g ry fun s3 I3=>⟨.bl (!ov.isSome),H2,I3,rfl,q2⟩
theorem Tn (hu:X.A.units+1 < cLine)(ho:PE X o td)(hi:PE X i ty)(hv:PE X value tv)(hs:swapsWith value (some (.Subscript o i pos')) pos.line X.env=pure false) :
  PS X (.Assign [.Subscript o i pos'] value pos) (qi2 td ty tv):=by
 intro pins s σ H D I h;refine wpAny_Assign_Subscript (thn (hv pins s σ H _ I h) fun r s1 ⟨v,H1,I1,rv,q1⟩=>thn (ho pins s1 σ H1 _ I1 q1) fun u s2 ⟨x,H2,I2,rx,q2⟩=>thn (hi pins s2 σ H2 _ I2 q2) fun iv s3 ⟨y,H3,I3,ry,a,H4,ex,g,q3⟩=>?_) hs;subst ex;obtain rfl:u=Value.ref a:=rx;exact Ml hu I3 g ry rv fun s4 I4=>⟨σ,H4,I4,q3⟩
end
theorem Ob (h:Heap)(hb:sysModules < h.objs.size):cN P w H (h.push { cls:=.type "dict",data:=.dict #[] }) h.objs.size (.dK []):=
 ⟨Nat.zero_le _,beq_eq_false_iff_ne.mpr (Ne.symm (Nat.ne_of_lt hb)),[],.nil,Heap.DictOf.new h⟩
def Eo:List (TE × TE)->St->Hp->(List (V × V)->Hp->Prop)->Prop
 | [],_,H,Q=>Q [] H
 | (tk,tv) :: r,σ,H,Q=>tk σ H fun x H1=>tv σ H1 fun y H2=>Eo r σ H2 fun ps H3=>Q ((x,y) :: ps) H3
abbrev VV:List (V × V)->List (Value × Value)->Prop:=Paired fun p q=>cC p.1 q.1/\cC p.2 q.2
def PPs (X:Cx)(pos:Pos)(keys:List (Option Expr))(values:List Expr)(trs:List (TE × TE)):Prop:=
 ∀(pins:List (Addr × Obj)) (s:Shared) (σ:St) (H:Hp) (Q:List (V × V)->Hp->Prop),Inv X pins σ H s->Eo trs σ H Q->
  wpAny (model X.prog X.w) X.A (evalPairs (pairTrees keys values X.env pos)) (fun vs s'=>∃ps H',Inv X pins σ H' s'/\VV ps vs/\Q ps H') X.xe s
theorem Jc:PPs X pos [] [] []:=fun pins s σ H Q I h=>pairTrees_nil_walk ⟨[],H,I,.nil,h⟩
theorem mP (hk:PE X k tk)(hv:PE X v tv)(hr:PPs X pos ks vs trs):
  PPs X pos (some k :: ks) (v :: vs) ((tk,tv) :: trs):=fun pins s σ H Q I h=>
 pairTrees_cons_walk (thn (hk pins s σ H _ I h) fun u s1 ⟨x,H1,I1,rx,q1⟩=>thn (hv pins s1 σ H1 _ I1 q1) fun w2 s2 ⟨y,H2,I2,ry,q2⟩=>
  thn (hr pins s2 σ H2 _ I2 q2) fun ws s3 ⟨ps,H3,I3,rel,q3⟩=>⟨(x,y) :: ps,H3,I3,.cons ⟨rx,ry⟩ rel,q3⟩)
def jV (kvs more:List (Key × V)):List (Key × V):=more.foldl (fun acc kv=>mC acc kv.1 kv.2) kvs
theorem KV.merge:∀{more:List (Key × V)} {rs:List (Key × Value)} {kvs:List (Key × V)} {vs:List (Key × Value)},KV more rs->KV kvs vs->KV (jV kvs more) (merged vs rs):=by
 intro more rs kvs vs r;unfold KV at r
 induction r generalizing kvs vs with
 |nil=>intro q;exact q
 | @cons p q ps qs h t ih=>
  intro r0;have e:KV (mC kvs p.1 p.2) (stored vs q.1 q.2):=by
   have:=r0.put p.1 h.2;rw[<- h.1];exact this
  exact ih e
theorem oM:∀(more kvs:List (Key × V)),(jV kvs more).length<=kvs.length+more.length
 | [],kvs=>by show kvs.length<=kvs.length+0;lia
 |p :: r,kvs=>by
  have h1:=oM r (mC kvs p.1 p.2);have h2:=nQ kvs p.1 p.2;show (jV (mC kvs p.1 p.2) r).length<=_;rw[length_cons];lia
theorem vS:∀{kvs:List (Key × V)} {ws:List (Value × Value)},VV (kvs.map fun kv=>(kV kv.1,kv.2)) ws->∃rs,Carries (dZ P w) ws rs/\KV kvs rs
 | [],_,r=>by rw[map_nil] at r;cases r;exact⟨[],True.intro,.nil⟩
 |p :: kvs,_,r=>by
  rw[map_cons] at r
  cases r with
  | @cons a b as bs h t=>
   obtain⟨rs,c,q⟩:=vS (P:=P) (w:=w) t;obtain⟨b1,b2⟩:=b;exact⟨(p.1,b2) :: rs,⟨xG h.1,rfl,c⟩,.cons ⟨rfl,h.2⟩ q⟩
def qf3 (trs:List (TE × TE)):TE:=fun σ H Q=>∀p,H p=none->Eo trs σ (upd H p (.dK [])) fun ps H2=>H2 p=some (.dK [])/\∃kvs:List (Key × V),ps=kvs.map (fun kv=>(kV kv.1,kv.2))/\kvs.length<=15/\Q (.ref p) (upd H2 p (.dK (jV [] kvs)))
theorem Ig (h:PPs X pos keys values trs)(hall:keys.all (·.isSome)=true)(hl:keys.length=values.length)(h0:keys≠[])(h15:keys.length<=15):PE X (.Dict keys values pos) (qf3 trs):=by
 intro pins s σ H Q I q;have hn:=I.hok.fresh (Nat.le_refl s.heap.objs.size);have I1:=I.laid (a:=s.heap.objs.size) (o:=.dK []) (h':=s.heap.push { cls:=.type "dict",data:=.dict #[] }) (t':=s.toks) (fun _ _ q=>Heap.get?_push_of_some _ q) (Nat.le_refl _) (Ob s.heap I.big);refine wpAny_Dict_walk (knd:=dZ X.prog X.w) hall hl h0 h15 (thn (h pins _ σ _ _ I1 (q _ hn)) fun ws s2 ⟨ps,H2,I2,rel,e,kvs,ep,lk,q2⟩=>?_);subst ep;obtain⟨rs,c,rk⟩:=vS (P:=X.prog) (w:=X.w) rel;obtain⟨z,hd,vs0,r0,dd⟩:=Xc I2.hok e
 cases r0
 refine⟨rs,c,dd,fun h' dd' hs=>⟨.ref s.heap.objs.size,_,?_,rfl,q2⟩⟩;have hz:(jV [] kvs).length<=sizeLine:=by
  have h1:=oM kvs [];rw[length_nil] at h1;rw[sizeLine_eq];lia
 have he:∃q,h'.get? s.heap.objs.size=some q:=let ⟨q,_,_,hq,_⟩:=dd';⟨q,hq⟩
 exact Aw I2 (by rw[e];exact True.intro) hs he (Rx hz hd (rk.merge .nil) dd')
structure M1 (X:Cx) (o:Expr) (m:Str) (apos:Pos) (e:Expr) (cpos:Pos):Prop where
 base:attributeBase o m X.env (eval o X.env)=eval o X.env
 few:((backTo cpos (starEach [e] X.env)).all (fun x=>!x.1) && (backToKw cpos (keywordEach [] X.env)).all (fun x=>x.1.isSome)
  && decide (([e]:List Expr).length+([]:List Keyword).length+(if ([]:List Keyword).isEmpty then 0 else 1) < 30))=true
 line:(apos.endLine == cpos.line)=true
 trees:backTo cpos (starEach [e] X.env)=[(false,eval e X.env)]
def IsD (H:Hp)(a:Addr):Prop:=(∃kvs,Rd H a (.dK kvs))\/∃kvs,Rd H a (.dT kvs)
theorem Yl (I:Inv X pins σ H s)(d:IsD H a):
  s.TypeIs (.ref a) "dict"/\(∀b,Value.ref a=.ref b->∃ob,s.heap.get? b=some ob/\ob.dict=none)/\(a == sysModules)=false:=by
 rcases d with ⟨kvs,e⟩ | ⟨kvs,e⟩
 ·obtain⟨_,hd,vs,_,dd⟩:=yN I.hok e;refine⟨dd.typeIs,fun b q=>?_,hd⟩
  cases q
  obtain⟨ob,_,_,h1,h2,_⟩:=dd;exact⟨ob,h1,h2.2.1⟩
 ·obtain⟨_,hd,xs,_,dd⟩:=xL I.hok e;refine⟨dd.typeIs,fun b q=>?_,hd⟩
  cases q
  obtain⟨ob,_,_,h1,h2,_⟩:=dd;exact⟨ob,h1,h2.2.1⟩
section
variable {X:Cx} {pins:List (Addr × Obj)} {σ:St} {H:Hp} {s:Shared} {a:Addr} {y d:V} {u r:Value} {o:Option V} {A:Around} {E:Value->Shared->Prop}
theorem Yj (hu:A.units+1 < cLine)(I:Inv X pins σ H s)(g:kI H a y o)(ry:cC y u)(h:∀w' s',Inv X pins σ H s'->cC (o.getD .non) w'->Q w' s'):
  wpAny (model X.prog X.w) A (call (.builtin "dict.get") [.ref a,u]) Q E s:=by
 rcases g with ⟨kvs,k,e,ey,l⟩ | ⟨kvs,k,b,e,ey,eb,l⟩
 ·subst ey;obtain⟨z,hd,vs,rel,dd⟩:=yN I.hok e;refine call_meetsIn PySem.F.slot_dict_get dd.typeIs PySem.F.entry_dict_get (PySem.F.args_dict_get_2 _ _) (meets_dict_get (dZ X.prog X.w) a (xG ry) hd) ⟨_,dd.mapOf,h _ _ (I.tok _) ?_⟩;rw[l];exact(rel.val k).getD rfl
 ·subst ey
  cases (show u=Value.ref b from ry)
  obtain⟨z,hd,xs,rel,dd⟩:=xL I.hok e;refine call_meetsIn PySem.F.slot_dict_get dd.typeIs PySem.F.entry_dict_get (PySem.F.args_dict_get_2 _ _) (meetsH_dict_get (tupleKind (dZ X.prog X.w)) a b hd) ⟨tupleKind_room_in1 hu,k,xs,uO I.hok eb,dd,h _ _ (I.tok _) ?_⟩;rw[l];exact(rel.val k).getD rfl
end
def qd7 (td ty:TE):TE:=fun σ H Q=>td σ H fun x H1=>∃a,x=.ref a/\IsD H1 a/\ty σ H1 fun y H2=>∃o,kI H2 a y o/\Q (o.getD .non) H2
section
variable {X:Cx} {o e f:Expr} {apos cpos:Pos} {td ty tx:TE}
theorem Sj (hu:X.A.units+1 < cLine)(ho:PE X o td)(he:PE X e ty)(m:M1 X o "get" apos e cpos):PE X (.Call (.Attribute o "get" apos) [e] [] cpos) (qd7 td ty):=by
 intro pins s σ H Q I h;refine wpAny_Call_method m.base m.few m.line PySem.F.plainAttrs_dict PySem.F.slot_dict_get PySem.F.type_dict_get (thn (ho pins s σ H _ I h) fun u s1 ⟨x,H1,I1,rx,a,ex,d,q1⟩=>?_);subst ex;obtain rfl:u=Value.ref a:=rx;obtain⟨t1,t2,_⟩:=Yl I1 d;refine⟨t1,t2,?_⟩;rw[m.trees];refine Calls.callWith_builtin rfl (Calls.evalArgs_plain (Calls.spliced_cons (thn (he pins s1 σ H1 _ I1 q1) fun iv s2 ⟨y,H2,I2,ry,ov,g,q2⟩=>Calls.spliced_nil ?_)));exact Yj hu I2 g ry fun w' s3 I3 rw'=>⟨_,H2,I3,rw',q2⟩
end
def Mi:Kd->Mq.Q2->Mq.Q2->Mq.Q2->Mq.Q2
 | .pc,u,_,p=>rA u p
 | .pu,_,_,p=>p
 | .ho,_,v,_=>v
theorem uT:∀ns:List Int,PyData.depthAll (ns.map PyData.int)<=1
 | []=>by simp[PyData.depthAll]
 |n :: r=>by
  have b:=uT r;simp only[map_cons,PyData.depthAll,PyData.depth];lia
theorem qd9 {K:Frag}{ns:List Int}(h1:SqL K H a (ns.map V.int))(h2:SqL K H b (ns.map V.int))(z:Q (.bl (!neg)) H):vL K neg (.ref a) (.ref b) H Q:=
 Bm (d:=.list (ns.map PyData.int)) (.lst h1 (pZ ns)) (.lst h2 (pZ ns)) (vJ ns) (by have:=uT ns;simp only[PyData.depth];lia) z
theorem Fq.mod {K:Frag}(l:K.lookup a=some ⟨.type "tuple",d,.seq #[.int i t,.int j u] n,sl⟩)(H:Hp):Fq K H a (i,j):=
 .inr ⟨_,_,_,l,rfl,rfl,(zl9 2),.cons ⟨_,rfl⟩ (.cons ⟨_,rfl⟩ .nil)⟩
abbrev RD:=Kd × Int × Int × Mq.Q2
inductive Rts (K:Frag) (H:Hp):List V->List RD->Prop where
 |nil:Rts K H [] []
 |cons {t z:Addr} {k:Kd} {i j:Int} {p:Mq.Q2} {xs:List V} {ds:List RD} (h:SqT K H t [.str k.wd,.int i,.int j,.ref z]) (f:Fq K H z p) (q:Rts K H xs ds):Rts K H (.ref t :: xs) ((k,i,j,p) :: ds)
section
variable {K:Frag} {H H':Hp}
theorem Rts.same (e:aS H H'):∀{xs:List V} {ds:List RD},Rts K H xs ds->Rts K H' xs ds
 |_,_,.nil=>.nil
 |_,_,.cons h f q=>.cons (e.seqT h) (e.fq f) (Rts.same e q)
theorem Rts.length:∀{xs:List V} {ds:List RD},Rts K H xs ds->xs.length=ds.length
 |_,_,.nil=>rfl
 |_,_,.cons _ _ q=>by simp[Rts.length q]
theorem Rts.app:∀{xs ys:List V} {ds es:List RD},Rts K H xs ds->Rts K H ys es->Rts K H (xs++ys) (ds++es)
 |_,_,_,_,.nil,r=>r
 |_,_,_,_,.cons h f q,r=>.cons h f (Rts.app q r)
theorem Rts.at:∀{xs:List V} {ds:List RD} {q:Nat} {d:RD},Rts K H xs ds->ds[q]?=some d->∃t z,xs[q]?=some (.ref t)/\SqT K H t [.str d.1.wd,.int d.2.1,.int d.2.2.1,.ref z]/\Fq K H z d.2.2.2
 |_,_,_,_,.nil,h=>by simp at h
 |_,_,0,_,.cons h f _,e=>by simp at e;subst e;exact⟨_,_,rfl,h,f⟩
 |_,_,i+1,_,.cons _ _ q,e=>by simpa using Rts.at q (by simpa using e)
theorem Rts.upd (hl:H l=some (.lst ys)):∀{xs:List V} {ds:List RD},Rts K H xs ds->Rts K (L2.upd H l o) xs ds
 |_,_,.nil=>.nil
 |_,_,.cons h f q=>.cons (h.upd hl) (f.upd hl) (Rts.upd hl q)
def rdd (d:RD):PyData:=rd4 d.1.wd d.2.1 d.2.2.1 d.2.2.2
theorem Rts.dat:∀{xs:List V} {ds:List RD},Rts K H xs ds->vK K H xs (ds.map rdd)
 |_,_,.nil=>.nil
 |_,_,.cons h f q=>.cons (Tt h f) (Rts.dat q)
theorem Cu:∀ds:List RD,PyData.canLayAll0 (ds.map rdd)=true
 | []=>rfl
 |d :: r=>by
  show ((rdd d).canLay0 && PyData.canLayAll0 (r.map rdd))=true;rw[Cu r,show (rdd d).canLay0=true from Ux (Kd.lay _) _ _ _];rfl
end
def cD (l:Addr)(H H':Hp):Prop:=∀b o,H b=some o->b≠l->H' b=some o
theorem aS.x (s:aS H H'):cD l H H':=fun b o h _=>s b o h
theorem cD.trans (a:cD l H H1)(b:cD l H1 H2):cD l H H2:=fun c o h n=>b c o (a c o h n) n
theorem cD.write (a:cD l H H1):cD l H (upd H1 l o):=fun c u h n=>by rw[aQ n];exact a c u h n
section
variable {K:Frag} {H H':Hp} {l:Addr}
theorem cD.seqT (hl:H l=some (.lst ys))(e:cD l H H')(h:SqT K H a xs):SqT K H' a xs:=by
 rcases h with (h | ⟨u,h⟩) | h
 ·exact .inl (.inl (e _ _ h (fD h hl (fun z=>by cases z))))
 ·exact .inl (.inr ⟨u,e _ _ h (fD h hl (fun z=>by cases z))⟩)
 ·exact .inr h
theorem cD.rts (hl:H l=some (.lst ys))(e:cD l H H'):∀{xs:List V} {ds:List RD},Rts K H xs ds->Rts K H' xs ds
 |_,_,.nil=>.nil
 |_,_,.cons h f q=>.cons (e.seqT hl h) (e.seqT hl f) (cD.rts hl e q)
end
theorem fpk:¬(("point_count":Str) = "kept"):=by decide +kernel
def iJ (m:Int)(l:Addr):List (Str × V):=dB "kept" (.ref l) (dB "point_count" (.int m) [])
theorem uI (m:Int)(l:Addr):(iJ m l).lookup ("point_count":Str)=some (.int m):=by
 unfold iJ;rw[bN,if_neg fpk,bN,if_pos rfl]
theorem gO (m:Int)(l:Addr):(iJ m l).lookup ("kept":Str)=some (.ref l):=by
 unfold iJ;rw[bN,if_pos rfl]
theorem dE (m:Int)(l:Addr){x:Str}(h1:¬x = "point_count")(h2:¬x = "kept"):(iJ m l).lookup x=none:=by
 unfold iJ;rw[bN,if_neg h2,bN,if_neg h1];rfl
theorem Kn (m:Int)(l l':Addr):dB "kept" (.ref l') (iJ m l)=iJ m l':=by
 unfold iJ;show dB "kept" (.ref l') (dB "kept" (.ref l) [(("point_count":Str),V.int m)])=dB "kept" (.ref l') [(("point_count":Str),V.int m)];show dB "kept" (.ref l') (if (("point_count":Str)) = "kept" then _ else _)=(if (("point_count":Str)) = "kept" then _ else _)
 rw[if_neg fpk,if_neg fpk];show (if (("point_count":Str)) = "kept" then _ else (("point_count":Str),V.int m) :: (if ("kept":Str) = "kept" then _ else _))=_;rw[if_neg fpk,if_pos rfl];rfl
theorem Km (m:Int)(l:Addr):(iJ m l).length<=2:=by
 unfold iJ;have a:=dP ("kept":Str) (.ref l) (dB "point_count" (.int m) []);have b:=dP ("point_count":Str) (.int m) [];simp only[length_nil] at b;lia
def Mg (m:Int)(d:RD):Prop:=0<=d.2.1/\d.2.1 < m/\0<=d.2.2.1/\d.2.2.1 < m/\Mq.Low d.2.2.2/\(d.1=.pc->0 < d.2.2.2.1)/\Mq.Bd 1000 d.2.2.2
structure cZ (CN:Addr) (K:Frag) (H:Hp) (n l:Addr) (m:Int) (ds:List RD):Prop where
 ob:∃dx,H n=some (.ins CN dx (iJ m l))
 ls:∃ts,H l=some (.lst ts)/\Rts K H ts ds
theorem cZ.same {K:Frag}(e:aS H H')(h:cZ CN K H n l m ds):cZ CN K H' n l m ds:=
 let ⟨⟨dx,a⟩,ts,b,c⟩:=h;⟨⟨dx,e _ _ a⟩,ts,e _ _ b,c.same e⟩
theorem cZ.x {K:Frag}(hq:H q=some (.lst ys))(e:cD q H H')(ne:l≠q)(h:cZ CN K H n l m ds):cZ CN K H' n l m ds:=
 let ⟨⟨dx,a⟩,ts,b,c⟩:=h;⟨⟨dx,e _ _ a (fD a hq (fun z=>by cases z))⟩,ts,e _ _ b ne,e.rts hq c⟩
structure NT (K:Frag) (mg:Str->Option Value) (CN:Addr):Prop where
 cl:Cls K CN
 nP:gG K CN "point_count"
 nK:gG K CN "kept"
 t1:W.findIn K (.ref CN) "__class__"=some (some (.builtin "object.__class__"))
 t2:W.specialIn K (.builtin "object.__class__") "__get__"=some (some (.builtin "getset_descriptor.__get__"))
 t3:W.takesIn K (.builtin "object.__class__")=some true
 t4:W.mroIn K CN (.type "object")=some true
 mN:mg "Net"=some (.ref CN)
inductive mX (K:Frag) (CK:Kd->Addr) (vs:List V) (H:Hp) (Q:VK) (E:XK):Prop where
 |mk (t:Addr) (v s g z:V) (_:vs=[.ref t]) (_:SqT K H t [v,s,g,z]) (k:Kd):v=.str k.wd->qo8 CK H Q k s g z->mX K CK vs H Q E
inductive Jx (K:Frag) (vs:List V) (H:Hp) (Q:VK) (E:XK):Prop where
 |mk (a:Addr) (p:Mq.Q2):vs=[.ref a]->Fq K H a p->Mq.Low p->Q (.bl true) H->Jx K vs H Q E
inductive Xx (K:Frag) (vs:List V) (H:Hp) (Q:VK) (E:XK):Prop where
 |mk (a:Addr) (p:Mq.Q2) (n:Nat):vs=[.ref a]->Fq K H a p->Mq.Low p->0 < p.1->Mq.Bd n p->n<=8000->Q (.bl true) H->Xx K vs H Q E
inductive qb9 (K:Frag) (vs:List V) (H:Hp) (Q:VK) (E:XK):Prop where
 |mk (k:Kd) (z:Addr) (p:Mq.Q2):vs=[.str k.wd,.ref z]->Fq K H z p->Mq.Low p->(k=.pc->0 < p.1)->Mq.Bd 1000 p->Q .non H->qb9 K vs H Q E
inductive sM (CN:Addr) (vs:List V) (H:Hp) (Q:VK) (E:XK):Prop where
 |mk (n dx:Addr) (m:Int):vs=[.ref n,.int m]->H n=some (.ins CN dx [])->1<=m->m<=20->(∀l H',H l=none->(∀b o,H b=some o->b≠n->H' b=some o)->H' n=some (.ins CN dx (iJ m l))->H' l=some (.lst [])->Q .non H')->sM CN vs H Q E
inductive oX (CN:Addr) (K:Frag) (vs:List V) (H:Hp) (Q:VK) (E:XK):Prop where
 |mk (n l:Addr) (m:Int) (ds:List RD):vs=[.ref n]->cZ CN K H n l m ds->Q (.int m) H->oX CN K vs H Q E
inductive tE (CN:Addr) (K:Frag) (vs:List V) (H:Hp) (Q:VK) (E:XK):Prop where
 |mk (n l:Addr) (m:Int) (ds:List RD):vs=[.ref n]->cZ CN K H n l m ds->Q (.int ds.length) H->tE CN K vs H Q E
inductive Kf (CN:Addr) (K:Frag) (vs:List V) (H:Hp) (Q:VK) (E:XK):Prop where
 |mk (n l:Addr) (m:Int) (ds:List RD):vs=[.ref n]->cZ CN K H n l m ds->(∀a ts H',aS H H'->H a=none->H' a=some (.lst ts)->Rts K H' ts ds->Q (.ref a) H')->Kf CN K vs H Q E
inductive Jw (CN:Addr) (K:Frag) (CK:Kd->Addr) (vs:List V) (H:Hp) (Q:VK) (E:XK):Prop where
 |mk (n l x z:Addr) (m:Int) (ds:List RD) (k:Kd) (i j:Int) (p:Mq.Q2):vs=[.ref n,.ref x]->cZ CN K H n l m ds->Rw CK H x k (.int i) (.int j) (.ref z)->Fq K H z p->Mg m (k,i,j,p)->ds.length < 40->(∀H',cD l H H'->cZ CN K H' n l m (ds++[(k,i,j,p)])->Q (.int ds.length) H')->Jw CN K CK vs H Q E
inductive Gh (CN:Addr) (K:Frag) (vs:List V) (H:Hp) (Q:VK) (E:XK):Prop where
 |mk (n l:Addr) (m:Int) (ds:List RD):vs=[.ref n]->cZ CN K H n l m ds->1<=m->m<=20->(∀n' l' H',aS H H'->H n'=none->H l'=none->cZ CN K H' n' l' m ds->Q (.ref n') H')->Gh CN K vs H Q E
theorem qV (P:St->Hp->Prop)(h1:∀X:St->Hp->Prop,(∀σ' H',P σ' H'->X σ' H')->(a1) { D with nx:=X } σ H)(h2:∀σ' H',P σ' H'->u D σ' H'):(jU a1 (u)) D σ H:=h1 _ h2
theorem Zm (P:St->Hp->Prop)(h1:∀X:St->Hp->Prop,(∀σ' H',P σ' H'->X σ' H')->(jU a1 (a2)) { D with nx:=X } σ H)(h2:∀σ' H',P σ' H'->u D σ' H'):(jU a1 (jU a2 (u))) D σ H:=h1 _ h2
theorem qo4 (P:St->Hp->Prop)(h1:∀X:St->Hp->Prop,(∀σ' H',P σ' H'->X σ' H')->(jU a1 (jU a2 (a3))) { D with nx:=X } σ H)(h2:∀σ' H',P σ' H'->u D σ' H'):(jU a1 (jU a2 (jU a3 (u)))) D σ H:=h1 _ h2
theorem qo3 (P:St->Hp->Prop)(h1:∀X:St->Hp->Prop,(∀σ' H',P σ' H'->X σ' H')->(jU a1 (jU a2 (jU a3 (a4)))) { D with nx:=X } σ H)(h2:∀σ' H',P σ' H'->u D σ' H'):(jU a1 (jU a2 (jU a3 (jU a4 (u))))) D σ H:=h1 _ h2
theorem Kr (ns:List Int)(lo hi:Option Int):∃ms:List Int,lV (ns.map V.int) lo hi=ms.map V.int:=
 ⟨(ns.drop (HT.sIx (ns.map V.int).length 0 lo)).take (HT.sIx (ns.map V.int).length (ns.map V.int).length hi - HT.sIx (ns.map V.int).length 0 lo),by unfold lV;rw[map_take,map_drop]⟩
end L2
namespace Mq
def val (p:Q2):Rat:=(p.1:Rat) / (p.2:Rat)
theorem dS {b:Int}(h:b≠0):(b:Rat)≠0:=fun e=>h (Rat.intCast_inj.mp (by simpa using e))
theorem Fo {p:Q2}(hp:p.2≠0)(hb:b≠0)(h:p.1*b=t*p.2):val p=(t:Rat) / (b:Rat):=by
 unfold val;have h1:=dS hp;have h2:=dS hb;have h3:(p.1:Rat)*(b:Rat)=(t:Rat)*(p.2:Rat):=by rw[<- Rat.intCast_mul,<- Rat.intCast_mul,h]
 grind
theorem jQ (hb:b≠0):val (red t b)=(t:Rat) / (b:Rat):=by
 have:=(iV (t:=t) hb).pos;exact Fo (by lia) hb (yC hb)
theorem Vd (hp:Low p)(hq:Low q)(h:val p=val q):p=q:=by
 refine Qz hp hq ?_;have p1:=dS (show p.2≠0 by have:=hp.pos;lia);have q1:=dS (show q.2≠0 by have:=hq.pos;lia);unfold val at h;have:(p.1:Rat)*(q.2:Rat)=(q.1:Rat)*(p.2:Rat):=by grind
 rw[<- Rat.intCast_mul,<- Rat.intCast_mul] at this;exact Rat.intCast_inj.mp this
theorem mI (hp:1<=p.2)(hq:1<=q.2):val (jO p q)=val p+val q:=by
 have p1:=dS (show p.2≠0 by lia);have q1:=dS (show q.2≠0 by lia);unfold jO;rw[jQ (gU hp hq),Rat.intCast_add,Rat.intCast_mul,Rat.intCast_mul,Rat.intCast_mul];unfold val;grind
theorem eX (hp:1<=p.2)(hq:1<=q.2):val (minus p q)=val p - val q:=by
 have p1:=dS (show p.2≠0 by lia);have q1:=dS (show q.2≠0 by lia);unfold minus;rw[jQ (gU hp hq),Rat.intCast_sub,Rat.intCast_mul,Rat.intCast_mul,Rat.intCast_mul];unfold val;grind
theorem Kp (hp:1<=p.2)(hq:1<=q.2):val (rV p q)=val p*val q:=by
 have p1:=dS (show p.2≠0 by lia);have q1:=dS (show q.2≠0 by lia);unfold rV;rw[jQ (gU hp hq),Rat.intCast_mul,Rat.intCast_mul];unfold val;grind
theorem Qy (hp:1<=p.2)(hq:1<=q.2)(h0:q.1≠0):val (rA p q)=val p / val q:=by
 have p1:=dS (show p.2≠0 by lia);have q1:=dS (show q.2≠0 by lia);have q2:=dS h0;unfold rA;rw[jQ (tO hp h0),Rat.intCast_mul,Rat.intCast_mul];unfold val;grind
theorem pF:val (0,1)=0:=by unfold val;simp;grind
theorem Hy:val (1,1)=1:=by unfold val;simp;grind
theorem Tv (ht:0 < t)(hb:0 < b):0 < (red t b).1:=by
 have h1:=yC (t:=t) (b:=b) (by lia);have h2:=(iV (t:=t) (b:=b) (by lia)).pos;have h3:0 < t*(red t b).2:=Int.mul_pos ht (by lia);rw[<- h1] at h3;exact Int.pos_of_mul_pos_left h3 (by lia)
def Mn:List Rat->Rat
 | []=>0
 |x :: l=>x+Mn l
theorem yV:∀{l:List Q2} {p:Q2},1<=p.2->Pos l->val (l.foldl jO p)=val p+Mn (l.map val)
 | [],p,_,_=>by simp[Mn];grind
 |q :: l,p,hp,h=>by
  have hq:=h q (by simp);rw[foldl_cons,yV (kC hp hq).pos (fun f hf=>h f (mem_cons_of_mem _ hf)),mI hp hq];simp only[map_cons,Mn];grind
theorem Vv (h:Pos l):val (tot l)=Mn (l.map val):=by
 unfold tot;rw[yV (by decide) h,pF];grind
def rs (n:Nat)(F:Nat->Rat):Rat:=match n with
 |0=>0
 |n+1=>rs n F+F n
theorem aT {F G:Nat->Rat}(h:∀i,i < n->F i=G i):rs n F=rs n G:=by
 induction n with
 |zero=>rfl
 |succ n ih=>simp only[rs];rw[ih (fun i hi=>h i (by lia)),h n (by lia)]
theorem fC (n:Nat)(F G:Nat->Rat):rs n (fun i=>F i+G i)=rs n F+rs n G:=by
 induction n with
 |zero=>simp[rs];grind
 |succ n ih=>simp only[rs];rw[ih];grind
theorem fL (n:Nat)(c:Rat)(F:Nat->Rat):rs n (fun i=>c*F i)=c*rs n F:=by
 induction n with
 |zero=>simp[rs]
 |succ n ih=>simp only[rs];rw[ih];grind
theorem qX (n:Nat)(F:Nat->Rat):rs n (fun i=>- F i)=- rs n F:=by
 induction n with
 |zero=>simp[rs]
 |succ n ih=>simp only[rs];rw[ih];grind
theorem eI (n:Nat):rs n (fun _=>0)=0:=by
 induction n with
 |zero=>rfl
 |succ n ih=>simp only[rs];rw[ih];grind
theorem Fz (n k:Nat)(F:Nat->Rat):rs n (fun i=>if k=i then F i else 0)=if k < n then F k else 0:=by
 induction n with
 |zero=>simp[rs]
 |succ n ih=>
  simp only[rs];rw[ih]
  by_cases h1:k < n
  ·rw[if_pos h1,if_neg (by lia),if_pos (by lia)];grind
  ·by_cases h2:k=n
   ·subst h2;rw[if_neg h1,if_pos rfl,if_pos (by lia)];grind
   ·rw[if_neg h1,if_neg h2,if_neg (by lia)];grind
abbrev z0:Q2:=(0,1)
abbrev Row:=Nat × Nat × Q2
theorem jM.pos (h:jM ls):Pos ls:=fun p hp=>(h p hp).pos
def pA (L b:Int):Int:=Int.fdiv L (gc L b)*b
theorem oW (hL:1<=L)(hb:1<=b):1<=pA L b/\(∃j,pA L b=L*j)/\(∃k,pA L b=k*b/\1<=k)/\pA L b<=L*b:=by
 have gp:0 < gc L b:=vQ (by lia);have d1:gc L b ∣ L:=by unfold gc;exact Int.gcd_dvd_left ..
 have d2:gc L b ∣ b:=by unfold gc;exact Int.gcd_dvd_right ..
 obtain⟨k,hk⟩:=d1;obtain⟨j,hj⟩:=d2;have ek:Int.fdiv L (gc L b)=k:=fU (by lia) hk;have k1:1<=k:=by
  have:0 < gc L b*k:=by lia
  have:=Int.pos_of_mul_pos_right this (by lia);lia
 unfold pA;rw[ek];refine⟨?_,⟨j,?_⟩,⟨k,rfl,k1⟩,?_⟩
 ·have:0 < k*b:=Int.mul_pos (by lia) (by lia);lia
 ·generalize gc L b=g at *
  rw[hk,hj];grind
 ·have:k<=L:=by
   rw[hk];have:=Int.mul_le_mul_of_nonneg_right (show 1<=gc L b by lia) (show 0<=k by lia);lia
  exact Int.mul_le_mul_of_nonneg_right this (by lia)
def eJ (ps:List Q2):Int:=ps.foldl (fun L p=>pA L p.2) 1
theorem Lg (ps:List Q2)(p:Q2):eJ (ps++[p])=pA (eJ ps) p.2:=by unfold eJ;rw[foldl_append];rfl
theorem oH {ps:List Q2}(h:ps[i]?=some p):eJ (ps.take (i+1))=pA (eJ (ps.take i)) p.2:=by
 rw[take_add_one,h];exact Lg _ _
theorem oZ (hp:Pos ps)(hb:∀p∈ps,Bd n p):∀i,i<=ps.length->1<=eJ (ps.take i)/\B (1+n*i) (eJ (ps.take i))/\∀p∈ps.take i,∃k,eJ (ps.take i)=k*p.2
 |0,_=>⟨by show (1:Int)<=1;lia,show (1:Nat) < 2 ^ (1+n*0) by simp,fun p h=>by simp at h⟩
 |i+1,hi=>by
  obtain⟨h1,h2,h3⟩:=oZ hp hb i (by lia);have e:ps[i]?=some ps[i]:=getElem?_eq_getElem (by lia);have mem:ps[i]∈ps:=getElem_mem _;rw[oH e];obtain⟨l1,⟨j,l2⟩,⟨k,l3,l4⟩,l5⟩:=oW h1 (hp _ mem);refine⟨l1,?_,fun p hpp=>?_⟩
  ·have:=h2.mul (hb _ mem).b;refine B.mono (n:=1+n*i+n) (this.le ?_) (by rw[Nat.mul_succ];lia);have h0:1<=ps[i].2:=hp _ mem;have:0<=eJ (ps.take i)*ps[i].2:=Int.mul_nonneg (by lia) (by lia);lia
  ·rw[take_add_one,e] at hpp;rcases mem_append.mp hpp with z | z
   ·obtain⟨q,hq⟩:=h3 p z;exact⟨q*j,by rw[l2,hq];grind⟩
   ·have:p=ps[i]:=by simpa using z
    rw[this];exact⟨k,l3⟩
theorem sZ (hp:Pos ps):1<=eJ ps:=by
 have:∀(l:List Q2) (L:Int),1<=L->Pos l->1<=l.foldl (fun L p=>pA L p.2) L:=fun l=>by
  induction l with
  |nil=>intro L h _;exact h
  |cons p l ih=>intro L h q;exact ih _ (oW h (q p (by simp))).1 fun x hx=>q x (mem_cons_of_mem _ hx)
 exact this ps 1 (by lia) hp
def Dy (L:Int)(p:Q2):Int:=p.1*Int.fdiv L p.2
def iw (ps:List Q2):List Int:=ps.map (Dy (eJ ps))
theorem Pe (h:1<=p.2)(e:L=k*p.2):((Dy L p:Int):Rat)=val p*(L:Rat):=by
 have e1:Int.fdiv L p.2=k:=fU (by lia) (by rw[e,Int.mul_comm]);have n:=dS (show p.2≠0 by lia);unfold Dy val;rw[e1,e,Rat.intCast_mul,Rat.intCast_mul];grind
theorem Ca (hp:Pos ps):∀p∈ps,∃k,eJ ps=k*p.2:=fun p hpp=>by
 have:∀(l:List Q2) (L:Int),1<=L->Pos l->(∃j,l.foldl (fun L p=>pA L p.2) L=L*j)/\∀p∈l,∃k,l.foldl (fun L p=>pA L p.2) L=k*p.2:=fun l=>by
  induction l with
  |nil=>intro L h _;exact⟨⟨1,by simp⟩,fun p h=>by simp at h⟩
  |cons q l ih=>
   intro L h hq;obtain⟨l1,⟨j,l2⟩,⟨k,l3,l4⟩,l5⟩:=oW h (hq q (by simp));obtain⟨⟨j2,i1⟩,i2⟩:=ih (pA L q.2) l1 fun x hx=>hq x (mem_cons_of_mem _ hx);refine⟨⟨j*j2,by rw[foldl_cons,i1,l2];grind⟩,fun p hp=>?_⟩;rcases mem_cons.mp hp with rfl | hp
   ·exact⟨k*j2,by rw[foldl_cons,i1,l3];grind⟩
   ·exact i2 p hp
 exact(this ps 1 (by lia) hp).2 p hpp
def fQ (X:List (List Q2)):Prop:=∀row∈X,Pos row
theorem Py (h:Pos row)(j:Nat):1<=(row.getD j z0).2:=by
 rw[getD_eq_getElem?_getD]
 cases e:row[j]? with
 |none=>exact Int.le_refl 1
 |some v=>exact h v (mem_of_getElem? e)
end Mq
open Mq (Ca Dy Fz Hy aT dS eI eJ fC fL fQ iw jQ oZ sZ)
namespace L2
open PySem PySem.Spec PyProof.Rows
def Ite (K : Frag)(a : Addr) : It :=
  ⟨fun i H => ∃ xs x, SqL K H a xs /\ xs[i]? = some x,
   fun i H v H' => ∃ T x, v = .ref T /\ H T = none /\ H' = upd H T (.tup [.int (i : Int), x]) /\ ∀ xs, SqL K H a xs -> xs[i]? = some x,
   fun i H => ∃ xs, SqL K H a xs /\ xs.length <= i⟩
def qa1 (e it l:Addr)(i:Nat)(h:Heap):Prop:=e≠it/\(∃old,IsEnum h e it (i:Int) old)/\h.IsListIter it l i
theorem Mo {K:Frag}(e it l:Addr):
  Pb P w K (.Tuple elts kk tpos) (Ite K l) [e,it] e (qa1 e it l) where
 mem:=by simp
 obj:=fun i h st b hb=>by
  obtain⟨ne,⟨old,he⟩,⟨o1,e1,c1,d1⟩⟩:=st;simp only[mem_cons,not_mem_nil,or_false] at hb;rcases hb with rfl | rfl
  ·exact⟨_,he,fun v q=>by cases q⟩
  ·exact⟨o1,e1,fun v q=>by rw[d1] at q;cases q⟩
 keep:=fun i h h' st k=>by
  obtain⟨ne,⟨old,he⟩,⟨o1,e1,c1,d1⟩⟩:=st;exact⟨ne,⟨old,k _ (by simp) _ he⟩,⟨o1,k _ (by simp) _ e1,c1,d1⟩⟩
 item:=by
  intro X hP hw hK hc i pins s σ H E I hf st hg;subst hP hw hK;obtain⟨ne,⟨old,he⟩,t1⟩:=st;obtain⟨xs,x,hx,ex⟩:=hg;obtain⟨its1,rv1,p1,z1⟩:=I.list hx;obtain⟨u1,hu1,ru1⟩:=rv1.get ex;refine wpAny_pyNext_enum_item he t1 p1.isList (x:=u1) (by simpa using hu1) ne fun h' g1 g2 g3 g4 kk'=>?_;have hn:H s.heap.objs.size=none:=I.hok.fresh (Nat.le_refl _);have lt:∀b∈[e,it],b < s.heap.objs.size:=fun b hb=>by
   simp only[mem_cons,not_mem_nil,or_false] at hb;obtain⟨o1,e1,_⟩:=t1;rcases hb with rfl | rfl
   ·exact Heap.lt_size he
   ·exact Heap.lt_size e1
  have I1:Inv X pins σ (upd H s.heap.objs.size (.tup [.int (i:Int),x])) { s with heap:=s.heap.push { cls:=.type "tuple",data:=.seq #[.int i s.toks,u1] },toks:=s.toks+1 }:=
   I.laid (t':=s.toks+1) (fun b o e=>Heap.get?_push_of_some _ e) (Nat.le_refl _) (show cN X.prog X.w _ _ _ (.tup [.int (i:Int),x]) from ⟨zl9 2,[.int i s.toks,u1],.cons ⟨_,rfl⟩ (.cons ru1 .nil),IsTup.new _ _⟩)
  have hf1:∀b∈[e,it],oJ X pins (upd H s.heap.objs.size (.tup [.int (i:Int),x])) b:=fun b hb=>⟨by rw[aQ (Nat.ne_of_lt (lt b hb))];exact(hf b hb).1,(hf b hb).2⟩
  have k1:∀b o,b∉[e,it]->(s.heap.push { cls:=.type "tuple",data:=.seq #[.int i s.toks,u1] }).get? b=some o->h'.get? b=some o:=fun b o nb e=>by
   simp only[mem_cons,not_mem_nil,or_false,not_or] at nb
   by_cases hb:b=s.heap.objs.size
   ·subst hb;rw[Heap.get?_push_size _ rfl] at e
    cases e
    exact g3
   ·have e0:s.heap.get? b=some o:=by rw[Heap.get?_push_ne _ _ _ hb] at e;exact e
    exact kk' b o nb.1 nb.2 e0
  have I2:Inv X pins σ (upd H s.heap.objs.size (.tup [.int (i:Int),x])) { s with heap:=h',toks:=s.toks+1 }:=Inv.turnedL (s:={ s with heap:=s.heap.push { cls:=.type "tuple",data:=.seq #[.int i s.toks,u1] },toks:=s.toks+1 }) (t':=s.toks+1) I1 k1 hf1;refine⟨_,rfl,wpAny_letOwnedTupleGo_enum (s:={ s with heap:=h',toks:=s.toks+1 }) g1 fun h2 q1 q2=>?_⟩;have kz:∀b o,b≠e->h'.get? b=some o->h2.get? b=some o:=fun b o nb e=>(q2.2 b nb).trans e;have I3:Inv X pins σ (upd H s.heap.objs.size (.tup [.int (i:Int),x])) { s with heap:=h2,toks:=s.toks+1 }:=Inv.turnedL (s:={ s with heap:=h',toks:=s.toks+1 }) (t':=s.toks+1) (fp:=[e]) I2 (fun b o nb e=>kz b o (by simpa using nb) e) fun b hb=>hf1 b (by simp at hb;simp[hb]);obtain⟨o3,e3,c3,d3⟩:=g2;refine⟨.ref s.heap.objs.size,_,I3,rfl,⟨_,x,rfl,hn,rfl,fun xs' h1=>?_⟩,⟨ne,⟨_,q1⟩,⟨o3,kz _ _ ne.symm e3,c3,d3⟩⟩,fun b hb=>(hf1 b hb).1⟩;rw[I.list_inj h1 hx];exact ex
 done:=by
  intro X hP hw hK hc i pins s σ H E I hf st hg;subst hP hw hK;obtain⟨ne,⟨old,he⟩,t1⟩:=st;obtain⟨xs,hx,hor⟩:=hg;obtain⟨its1,rv1,p1,z1⟩:=I.list hx;have l1':=rv1.length;refine wpAny_pyNext_enum_end (I.ok.hd hc) he t1 p1.isList (by simp;lia) fun h' kk'=>⟨rfl,?_⟩
  refine I.turnedL (t':=s.toks) (fun b o nb e=>?_) hf;simp only[mem_cons,not_mem_nil,or_false,not_or] at nb;exact kk' b o nb.2 e
 self:=fun A i s Q E st h=>by
  obtain⟨ne,⟨old,he⟩,t1⟩:=st;exact wpAny_pyIter_enum he h
section
variable {X:Cx}
def qg7 (K:Frag)(ta:TA):TI:=fun σ H R=>ta σ H fun vs H1=>∃a,vs=[.ref a]/\(∃xs,SqL K H1 a xs)/\R (Ite K a) H1
theorem tY (hg:Gl X "enumerate")(hm:X.mg "enumerate"=none)(hv:bootBuiltins "enumerate"=some (.type "enumerate"))(ha:PA X [e1] ta)(hs:starEach [e1] X.env=(false,eval e1 X.env) :: starEach [] X.env:=by rfl)(hpl:(backTo pos (starEach [] X.env)).any (·.1)=false:=by rfl):PI X (.Tuple elts kk tpos) (.Call (.Name "enumerate" p) [e1] [] pos) (qg7 X.K ta):=by
 intro pins s σ H R I h;refine Call_ (jW I hg hm hv (PyProof.Rows.callWith_type1 (thn (ha pos pins s σ H _ I h) fun us s1 ⟨vs,H1,I1,r1,q1⟩=>?_) hs hpl));obtain⟨a,rfl,⟨xs,hx⟩,q⟩:=q1;obtain⟨u,rfl,ra⟩:=xZ r1
 cases (show u=Value.ref a from ra)
 obtain⟨its1,rv1,p1,z1⟩:=I1.list hx;have la:a < s1.heap.objs.size:=by obtain⟨o,e,_⟩:=p1.isList;exact Heap.lt_size e
 refine call_enumerate_list p1.isList fun h' g1 g2 g3 kk'=>?_;refine wpAny_pyIter_enum g1 ?_;refine⟨s1.heap.objs.size+1,[s1.heap.objs.size+1,s1.heap.objs.size],_,Ite X.K a,H1,rfl,I1.kept (t':=s1.toks) kk',Mo _ _ a,⟨?_,⟨_,g1⟩,g2⟩,fun c hc=>?_,q⟩
 ·exact Nat.succ_ne_self _
 ·have hle:s1.heap.objs.size<=c:=by
   simp only[mem_cons,not_mem_nil,or_false] at hc;rcases hc with rfl | rfl<;>first | exact Nat.le_add_right _ _ | exact Nat.le_refl _
  exact I1.fpOk hle (I1.hok.fresh hle)
theorem Rt {K:Frag}{g:TG}{tb:TS}{D:kE}(Pv:Nat->St->Hp->Prop)(h0:Pv 0 σ H)(hl:∀i σ H,i<=xs.length->Pv i σ H->SqL K H a xs)(hs:∀i x σ H T,xs[i]?=some x->Pv i σ H->H T=none->g (.ref T) σ (upd H T (.tup [.int (i:Int),x])) fun σ2 H2=>tb { D with nx:=Pv (i+1),ct:=Pv (i+1),bk:=D.nx } σ2 H2)(hd:∀σ H,Pv xs.length σ H->D.nx σ H):
  ∃W:Nat->Nat->St->Hp->Prop,(∃m,W 0 m σ H)/\∀i m σ H,W i m σ H->
   ((Ite K a).stop i H/\D.nx σ H)\/((Ite K a).go i H/\∃N:St->Hp->Prop,(∀σ' H',N σ' H'->∃m',m' < m/\W (i+1) m' σ' H')/\∀x H',(Ite K a).yld i H x H'->g x σ H' fun σ2 H2=>tb { D with nx:=N,ct:=N,bk:=D.nx } σ2 H2):=by
 refine⟨fun i m σ H=>m=xs.length - i/\i<=xs.length/\Pv i σ H,⟨_,rfl,Nat.zero_le _,h0⟩,?_⟩;rintro i m σ H ⟨rfl,hi,p⟩;have qx:=hl i σ H hi p
 by_cases hlt:i < xs.length
 ·refine .inr ⟨⟨xs,xs[i],qx,by simp[hlt]⟩,Pv (i+1),fun σ' H' p'=>⟨xs.length - (i+1),by lia,rfl,hlt,p'⟩,fun v H' z=>?_⟩;obtain⟨T,x,rfl,hT,rfl,hh⟩:=z;exact hs i x σ H T (hh xs qx) p hT
 ·have e:i=xs.length:=by lia
  subst e;exact .inl ⟨⟨xs,qx,Nat.le_refl _⟩,hd σ H p⟩
theorem rO {K:Frag}(Pv:Nat->List V->Hp->Prop)(h0:Pv 0 [] (upd H1 D (.lst [])))(hl:∀i zs H,Pv i zs H->H D=some (.lst zs))(hx:∀i zs H,i<=xs.length->Pv i zs H->SqL K H a xs)(hs:∀i zs x H T,xs[i]?=some x->Pv i zs H->H T=none->∀(C:Nat->List V->Hp->Prop),(∀zs H,Pv (i+1) zs H->C (i+1) zs H)->Jq nl fr g tt te σ D C i zs (.ref T) (upd H T (.tup [.int (i:Int),x])))(hd:∀zs H,Pv xs.length zs H->Q (.ref D) H):
  De (Ite K a) nl fr g tt te σ D H1 Q:=by
 refine⟨fun i m zs H=>m=xs.length - i/\i<=xs.length/\Pv i zs H,⟨_,rfl,Nat.zero_le _,h0⟩,?_⟩;rintro i m zs H ⟨rfl,hi,p⟩;refine⟨hl i zs H p,?_⟩;have qx:=hx i zs H hi p
 by_cases hlt:i < xs.length
 ·refine .inr ⟨⟨xs,xs[i],qx,by simp[hlt]⟩,fun v H' z=>?_⟩;obtain⟨T,x,rfl,hT,rfl,hh⟩:=z;exact hs i zs x H T (hh xs qx) p hT (fun j zs Hz=>∃m',m' < xs.length - i/\m'=xs.length - j/\j<=xs.length/\Pv j zs Hz) fun zs Hz z=>⟨xs.length - (i+1),by lia,rfl,hlt,z⟩
 ·have e:i=xs.length:=by lia
  subst e;exact .inl ⟨⟨xs,qx,Nat.le_refl _⟩,hd zs H p⟩
end
end L2
namespace Shp
open PySem L2
theorem Tl (h:0 < b):dvr t b=gc t b:=by unfold dvr;rw[if_neg (by lia)]
end Shp
namespace Mq
def skip (j k:Nat):Nat:=if k < j then k else k+1
def sgn (n:Nat):Rat:=if n % 2=0 then 1 else -1
theorem vB (n:Nat):sgn (n+1)=- sgn n:=by
 unfold sgn;rcases Nat.mod_two_eq_zero_or_one n with h | h
 ·rw[if_neg (by lia),if_pos h]
 ·rw[if_pos (by lia),if_neg (by lia)];grind
abbrev Mat:=Nat->Nat->Rat
def det:Nat->Mat->Rat
 |0,_=>1
 |n+1,M=>rs (n+1) fun j=>sgn (n+j)*M n j*det n fun i k=>M i (skip j k)
theorem fZ (n:Nat)(M:Mat):det (n+1) M=rs (n+1) fun j=>sgn (n+j)*M n j*det n fun i k=>M i (skip j k):=rfl
theorem Vh (hk:k < n):skip j k < n+1:=by unfold skip;split<;>lia
theorem cP:∀{n:Nat} {M N:Mat},(∀i j,i < n->j < n->M i j=N i j)->det n M=det n N
 |0,_,_,_=>rfl
 |n+1,M,N,h=>by
  rw[fZ,fZ];exact aT fun j hj=>by rw[h n j (by lia) hj,cP (N:=fun i k=>N i (skip j k)) fun i k hi hk=>h i _ (by lia) (Vh hk)]
theorem yO (h:j<=k):skip (k+1) (skip j l)=skip j (skip k l):=by
 unfold skip
 by_cases h1:l < j
 ·rw[if_pos h1,if_pos (show l < k by lia),if_pos (show l < k+1 by lia),if_pos h1]
 ·rw[if_neg h1]
  by_cases h2:l < k
  ·rw[if_pos h2,if_pos (show l+1 < k+1 by lia),if_neg h1]
  ·rw[if_neg h2,if_neg (show ¬l+1 < k+1 by lia),if_neg (show ¬l+1 < j by lia)]
theorem Wp (n m:Nat)(F:Nat->Nat->Rat):(rs n fun i=>rs m fun j=>F i j)=rs m fun j=>rs n fun i=>F i j:=by
 induction n with
 |zero=>simp only[rs];rw[eI]
 |succ n ih=>simp only[rs];rw[ih,<- fC]
theorem uE (n:Nat)(F:Nat->Rat):rs (n+1) F=F 0+rs n fun i=>F (i+1):=by
 induction n with
 |zero=>simp only[rs];grind
 |succ n ih=>rw[show rs (n+1+1) F=rs (n+1) F+F (n+1) from rfl,ih];simp only[rs];grind
theorem yH (N:Nat)(X:Nat->Nat->Rat):(rs (N+1) fun j=>rs N fun k=>X j k)=(rs N fun k=>rs N fun j=>if k<=j then X (j+1) k else 0)+rs N fun j=>rs N fun k=>if j<=k then X j k else 0:=by
 have h1:(rs (N+1) fun j=>rs N fun k=>X j k)=(rs (N+1) fun j=>rs N fun k=>if k < j then X j k else 0)+rs (N+1) fun j=>rs N fun k=>if k < j then 0 else X j k:=by
  rw[<- fC];refine aT fun j _=>?_;rw[<- fC];exact aT fun k _=>by split<;>grind
 have h2:(rs (N+1) fun j=>rs N fun k=>if k < j then X j k else 0)=rs N fun k=>rs N fun j=>if k<=j then X (j+1) k else 0:=by
  rw[Wp];refine aT fun k _=>?_;rw[uE,if_neg (by lia)];have:(rs N fun i=>if k < i+1 then X (i+1) k else 0)=rs N fun j=>if k<=j then X (j+1) k else 0:=aT fun i _=>by
   by_cases c:k<=i
   ·rw[if_pos (by lia),if_pos c]
   ·rw[if_neg (by lia),if_neg c]
  rw[this];grind
 have h3:(rs (N+1) fun j=>rs N fun k=>if k < j then 0 else X j k)=rs N fun j=>rs N fun k=>if j<=k then X j k else 0:=by
  show (rs N fun j=>rs N fun k=>if k < j then 0 else X j k)+(rs N fun k=>if k < N then 0 else X N k)=_;have:(rs N fun k=>if k < N then 0 else X N k)=rs N fun _=>0:=aT fun k hk=>by rw[if_pos hk]
  rw[this,eI];have e2:(rs N fun j=>rs N fun k=>if k < j then 0 else X j k)=rs N fun j=>rs N fun k=>if j<=k then X j k else 0:=aT fun j _=>aT fun k _=>by
   by_cases c:j<=k
   ·rw[if_neg (by lia),if_pos c]
   ·rw[if_pos (by lia),if_neg c]
  rw[e2];grind
 rw[h1,h2,h3]
theorem Ez (N:Nat)(X Y:Nat->Nat->Rat)(h:∀j k,j<=k->Y (k+1) j=- X j k)(h':∀j k,j<=k->X (k+1) j=- Y j k):(rs (N+1) fun j=>rs N fun k=>Y j k)=- rs (N+1) fun j=>rs N fun k=>X j k:=by
 rw[yH,yH];have e1:(rs N fun k=>rs N fun j=>if k<=j then Y (j+1) k else 0)=- rs N fun j=>rs N fun k=>if j<=k then X j k else 0:=by
  rw[<- qX];refine aT fun k _=>?_;rw[<- qX];exact aT fun j _=>by
   by_cases c:k<=j
   ·rw[if_pos c,if_pos c,h k j c]
   ·rw[if_neg c,if_neg c];grind
 have e2:(rs N fun k=>rs N fun j=>if k<=j then X (j+1) k else 0)=- rs N fun j=>rs N fun k=>if j<=k then Y j k else 0:=by
  rw[<- qX];refine aT fun k _=>?_;rw[<- qX];exact aT fun j _=>by
   by_cases c:k<=j
   ·rw[if_pos c,if_pos c,h' k j c]
   ·rw[if_neg c,if_neg c];grind
 rw[e1,e2];grind
def cH (a:Nat)(M:Mat):Mat:=fun i=>if i=a then M (a+1) else if i=a+1 then M a else M i
theorem Hw (n:Nat)(M:Mat):det (n+2) M=rs (n+2) fun j=>rs (n+1) fun k=>(sgn (n+1+j)*M (n+1) j)*(sgn (n+k)*M n (skip j k)*det n fun i l=>M i (skip j (skip k l))):=by
 rw[fZ];exact aT fun j _=>by rw[fZ,<- fL]
theorem pH (a b:Nat):sgn (a+1+b)=- sgn (a+b):=by rw[show a+1+b=a+b+1 by lia,vB]
theorem xJ (n:Nat)(M:Mat):det (n+2) (cH n M)=- det (n+2) M:=by
 rw[Hw,Hw];refine Ez (n+1) _ _ (fun j k hjk=>?_) (fun j k hjk=>?_)
 ·show (sgn (n+1+(k+1))*cH n M (n+1) (k+1))*(sgn (n+j)*cH n M n (skip (k+1) j)*det n fun i l=>cH n M i (skip (k+1) (skip j l)))=- ((sgn (n+1+j)*M (n+1) j)*(sgn (n+k)*M n (skip j k)*det n fun i l=>M i (skip j (skip k l))));have a1:cH n M (n+1)=M n:=by unfold cH;rw[if_neg (by lia),if_pos rfl]
  have a2:cH n M n=M (n+1):=by unfold cH;rw[if_pos rfl]
  have a3:(det n fun i l=>cH n M i (skip (k+1) (skip j l)))=det n fun i l=>M i (skip j (skip k l)):=cP fun i l hi _=>by
   show cH n M i (skip (k+1) (skip j l))=M i (skip j (skip k l));rw[yO hjk];unfold cH;rw[if_neg (by lia),if_neg (by lia)]
  have a4:skip (k+1) j=j:=by unfold skip;rw[if_pos (by lia)]
  have a5:skip j k=k+1:=by unfold skip;rw[if_neg (by lia)]
  rw[a1,a2,a3,a4,a5,pH,pH,show n+(k+1)=n+k+1 by lia,vB];generalize (det n fun i l=>M i (skip j (skip k l)))=dd;generalize sgn (n+k)=s1;generalize sgn (n+j)=s2;grind
 ·show (sgn (n+1+(k+1))*M (n+1) (k+1))*(sgn (n+j)*M n (skip (k+1) j)*det n fun i l=>M i (skip (k+1) (skip j l)))=- ((sgn (n+1+j)*cH n M (n+1) j)*(sgn (n+k)*cH n M n (skip j k)*det n fun i l=>cH n M i (skip j (skip k l))));have a1:cH n M (n+1)=M n:=by unfold cH;rw[if_neg (by lia),if_pos rfl]
  have a2:cH n M n=M (n+1):=by unfold cH;rw[if_pos rfl]
  have a3:(det n fun i l=>M i (skip (k+1) (skip j l)))=det n fun i l=>cH n M i (skip j (skip k l)):=cP fun i l hi _=>by
   show M i (skip (k+1) (skip j l))=cH n M i (skip j (skip k l));rw[yO hjk];unfold cH;rw[if_neg (by lia),if_neg (by lia)]
  have a4:skip (k+1) j=j:=by unfold skip;rw[if_pos (by lia)]
  have a5:skip j k=k+1:=by unfold skip;rw[if_neg (by lia)]
  rw[a1,a2,a3,a4,a5,pH,pH,show n+(k+1)=n+k+1 by lia,vB];generalize (det n fun i l=>cH n M i (skip j (skip k l)))=dd;generalize sgn (n+k)=s1;generalize sgn (n+j)=s2;grind
theorem mL:∀(n a:Nat) (M:Mat),a+1 < n->det n (cH a M)=- det n M
 |0,_,_,h=>absurd h (by lia)
 |n+1,a,M,h=>by
  by_cases e:a+1=n
  ·subst e;exact xJ a M
  ·rw[fZ,fZ,<- qX];refine aT fun j hj=>?_;have e1:cH a M n j=M n j:=by unfold cH;rw[if_neg (by lia),if_neg (by lia)]
   have e2:(det n fun i k=>cH a M i (skip j k))=- det n fun i k=>M i (skip j k):=by
    rw[<- mL n a (fun i k=>M i (skip j k)) (by lia)];exact cP fun i k _ _=>by
     show cH a M i (skip j k)=cH a (fun i k=>M i (skip j k)) i k;unfold cH;split
     ·rfl
     ·split<;>rfl
   rw[e1,e2];grind
theorem yG:∀(t n:Nat) (M:Mat) (i:Nat),i+t+1=n->(∀j,M i j=M n j)->det (n+1) M=0
 |0,n,M,i,h,e=>by
  have hn:n=i+1:=by lia
  subst hn;have s:=xJ i M;have c:det (i+2) (cH i M)=det (i+2) M:=cP fun k j _ _=>by
   unfold cH
   by_cases k1:k=i
   ·rw[if_pos k1,k1];exact(e j).symm
   ·rw[if_neg k1]
    by_cases k2:k=i+1
    ·rw[if_pos k2,k2];exact e j
    ·rw[if_neg k2]
  rw[c] at s;grind
 |t+1,n,M,i,h,e=>by
  have s:=mL (n+1) i M (by lia);have z:=yG t n (cH i M) (i+1) (by lia) fun j=>by
   have a1:cH i M (i+1)=M i:=by unfold cH;rw[if_neg (by lia),if_pos rfl]
   have a2:cH i M n=M n:=by unfold cH;rw[if_neg (by lia),if_neg (by lia)]
   rw[a1,a2];exact e j
  rw[z] at s;grind
def Az (n:Nat)(S:Mat)(x:Nat->Rat):Mat:=fun i=>if i=n then x else S i
def F (n:Nat)(S:Mat)(c:Nat->Nat)(x:Nat->Rat):Rat:=det (n+1) (Az n (fun i j=>S i (c j)) fun j=>x (c j))
theorem Kv (n:Nat)(S:Mat)(c:Nat->Nat)(x:Nat->Rat):F n S c x=rs (n+1) fun j=>sgn (n+j)*x (c j)*det n fun i k=>S i (c (skip j k)):=by
 unfold F;rw[fZ];refine aT fun j _=>?_;have e1:Az n (fun i j=>S i (c j)) (fun j=>x (c j)) n j=x (c j):=by unfold Az;rw[if_pos rfl]
 rw[e1,cP fun i k hi _=>show Az n (fun i j=>S i (c j)) (fun j=>x (c j)) i (skip j k)=S i (c (skip j k)) by unfold Az;rw[if_neg (by lia)]]
theorem qg3 (n:Nat)(S:Mat)(c:Nat->Nat)(x y:Nat->Rat)(l:Rat):F n S c (fun j=>x j+l*y j)=F n S c x+l*F n S c y:=by
 rw[Kv,Kv,Kv,<- fL,<- fC];exact aT fun j _=>by grind
theorem Kj (n:Nat)(S:Mat)(c:Nat->Nat)(h:i < n):F n S c (S i)=0:=by
 unfold F;refine yG (n - i - 1) n _ i (by lia) fun j=>?_;unfold Az;rw[if_neg (by lia),if_pos rfl]
theorem Ah (n:Nat)(S:Mat)(c:Nat->Nat)(x:Nat->Rat)(h:∀j,j < n->x (c j)=0):F n S c x=x (c n)*det n fun i j=>S i (c j):=by
 rw[Kv];show (rs n fun j=>sgn (n+j)*x (c j)*det n fun i k=>S i (c (skip j k)))+sgn (n+n)*x (c n)*(det n fun i k=>S i (c (skip n k)))=_;have z:(rs n fun j=>sgn (n+j)*x (c j)*det n fun i k=>S i (c (skip j k)))=rs n fun _=>0:=aT fun j hj=>by rw[h j hj];grind
 have s:sgn (n+n)=1:=by unfold sgn;rw[if_pos (by lia)]
 have d:(det n fun i k=>S i (c (skip n k)))=det n fun i j=>S i (c j):=cP fun i k _ hk=>by show S i (c (skip n k))=_;unfold skip;rw[if_pos hk]
 rw[z,eI,s,d];grind
theorem Df {F:Nat->Rat}(h:∀i,i < n->∃z:Int,F i=(z:Rat)):∃z:Int,rs n F=(z:Rat):=by
 induction n with
 |zero=>exact⟨0,by simp[rs]⟩
 |succ n ih=>
  obtain⟨a,ha⟩:=ih fun i hi=>h i (by lia);obtain⟨b,hb⟩:=h n (by lia);exact⟨a+b,by simp only[rs];rw[ha,hb,Rat.intCast_add]⟩
theorem Ms (n:Nat):∃z:Int,sgn n=(z:Rat):=by
 unfold sgn;split
 ·exact⟨1,by simp⟩
 ·exact⟨-1,by rw[Rat.intCast_neg];simp⟩
theorem qH (h:∃z:Int,a=(z:Rat))(k:∃z:Int,b=(z:Rat)):∃z:Int,a*b=(z:Rat):=by
 obtain⟨x,rfl⟩:=h;obtain⟨y,rfl⟩:=k;exact⟨x*y,by rw[Rat.intCast_mul]⟩
theorem yJ:∀{n:Nat} {M:Mat},(∀i j,∃z:Int,M i j=(z:Rat))->∃z:Int,det n M=(z:Rat)
 |0,_,_=>⟨1,by simp[det]⟩
 |n+1,M,h=>by
  rw[fZ];exact Df fun j _=>qH (qH (Ms _) (h n j)) (yJ fun i k=>h i _)
theorem Ti (h:∀i j,∃z:Int,S i j=(z:Rat))(hx:∀j,∃z:Int,x j=(z:Rat)):∃z:Int,F n S c x=(z:Rat):=by
 unfold F;refine yJ fun i j=>?_;unfold Az;split
 ·exact hx _
 ·exact h i _
def Lin (Φ:(Nat->Rat)->Rat):Prop:=∀x y l,Φ (fun j=>x j+l*y j)=Φ x+l*Φ y
theorem Lin.zero (h:Lin Φ):Φ (fun _=>0)=0:=by
 have:=h (fun _=>0) (fun _=>0) 1;have e:(fun j:Nat=>(fun _=>(0:Rat)) j+1*(fun _=>(0:Rat)) j)=fun _=>0:=by funext j;show (0:Rat)+1*0=0;grind
 rw[e] at this;grind
theorem Lin.mul (h:Lin Φ)(l:Rat)(y:Nat->Rat):Φ (fun j=>l*y j)=l*Φ y:=by
 have:=h (fun _=>0) y l;have e:(fun j:Nat=>(fun _=>(0:Rat)) j+l*y j)=fun j=>l*y j:=by funext j;show (0:Rat)+l*y j=_;grind
 rw[e,h.zero] at this;grind
theorem Lin.sum (h:Lin Φ)(a:Nat->Rat)(Y:Nat->Nat->Rat):∀n,Φ (fun j=>rs n fun k=>a k*Y k j)=rs n fun k=>a k*Φ (Y k)
 |0=>h.zero
 |n+1=>by
  have:=h (fun j=>rs n fun k=>a k*Y k j) (Y n) (a n);simp only[rs];rw[this,Lin.sum h a Y n]
theorem Ik (n:Nat)(S:Mat)(c:Nat->Nat):Lin (F n S c):=fun x y l=>qg3 n S c x y l
def Wh (x:Rat):Prop:=∃z:Int,x=(z:Rat)
theorem Wh.mul (h:Wh a)(k:Wh b):Wh (a*b):=qH h k
theorem Wh.neg (h:Wh a):Wh (-a):=by obtain⟨z,rfl⟩:=h;exact⟨-z,by rw[Rat.intCast_neg]⟩
theorem Wh.sub (h:Wh a)(k:Wh b):Wh (a - b):=by obtain⟨x,rfl⟩:=h;obtain⟨y,rfl⟩:=k;exact⟨x - y,by rw[Rat.intCast_sub]⟩
theorem Wh.one:Wh 1:=⟨1,by simp⟩
theorem Wh.nil:Wh 0:=⟨0,by simp⟩
structure Bar (m:Nat) (A E:Mat) (r col:Nat) (d:Rat) (c:Nat->Nat):Prop where
 dne:d≠0
 rm:r<=m
 rc:r<=col
 clt:∀j,j < r->c j < col
 cinj:∀i j,i < r->j < r->c i=c j->i=j
 wA:∀i j,Wh (A i j)
 wE:∀i j,i < m->Wh (E i j)
 i2:∀k j,k < r->j < r->E k (c j)=if j=k then d else 0
 i3:∀i x,r<=i->i < m->x < col->E i x=0
 i4:∀i x,i < m->d*A i x=(rs r fun k=>A i (c k)*E k x)+if i < r then 0 else E i x
 i5:det r (fun i j=>A i (c j))=d
 i6:∀Φ,Lin Φ->(∀s,s < r->Φ (A s)=0)->∀k,k < r->Φ (E k)=0
 full:r=col->∀j,j < r->c j=j
theorem Bar.start (wA:∀i j,Wh (A i j)):Bar m A A 0 0 1 id where
 dne:=by grind
 rm:=by lia
 rc:=by lia
 clt:=fun j h=>absurd h (by lia)
 cinj:=fun i j h=>absurd h (by lia)
 wA:=wA
 wE:=fun i j _=>wA i j
 i2:=fun k j h=>absurd h (by lia)
 i3:=fun i x _ _ h=>absurd h (by lia)
 i4:=fun i x _=>by simp only[rs];rw[if_neg (by lia)];grind
 i5:=rfl
 i6:=fun Φ _ _ k h=>absurd h (by lia)
 full:=fun _ j h=>absurd h (by lia)
section
variable {m:Nat} {A E:Mat} {r col:Nat} {d:Rat} {c:Nat->Nat}
theorem Bar.skip (h:Bar m A E r col d c)(hz:∀i,r<=i->i < m->E i col=0):Bar m A E r (col+1) d c:=
 { h with
  rc:=by have:=h.rc;lia
  clt:=fun j hj=>by have:=h.clt j hj;lia
  i3:=fun i x hi hm hx=>by
   by_cases e:x=col
   ·rw[e];exact hz i hi hm
   ·exact h.i3 i x hi hm (by lia)
  full:=fun e=>by have:=h.rc;lia }
def sw (p r i:Nat):Nat:=if i=r then p else if i=p then r else i
theorem xU (hp:r<=p)(hi:i < r):sw p r i=i:=by unfold sw;rw[if_neg (by lia),if_neg (by lia)]
theorem Xp (hp:r<=p)(hi:r<=i):r<=sw p r i:=by unfold sw;split;exact hp;split<;>lia
theorem zW (hp:p < m)(hr:r < m)(hi:i < m):sw p r i < m:=by unfold sw;split;exact hp;split<;>lia
theorem Qo (p r i:Nat):sw p r (sw p r i)=i:=by
 unfold sw
 by_cases h1:i=r
 ·rw[if_pos h1]
  by_cases h2:p=r
  ·rw[if_pos h2];lia
  ·rw[if_neg h2,if_pos rfl];exact h1.symm
 ·rw[if_neg h1]
  by_cases h2:i=p
  ·rw[if_pos h2,if_pos rfl];exact h2.symm
  ·rw[if_neg h2,if_neg h1,if_neg h2]
theorem Bar.swap (h:Bar m A E r col d c)(hp:r<=p)(hpm:p < m):Bar m (fun i=>A (sw p r i)) (fun i=>E (sw p r i)) r col d c:=
 { h with
  wA:=fun i j=>h.wA _ j
  wE:=fun i j hi=>h.wE _ j (zW hpm (by lia) hi)
  i2:=fun k j hk hj=>by
   show E (sw p r k) (c j)=_;rw[xU hp hk];exact h.i2 k j hk hj
  i3:=fun i x hi hm hx=>h.i3 _ x (Xp hp hi) (zW hpm (by lia) hm) hx
  i4:=fun i x hm=>by
   have e:(rs r fun k=>A (sw p r i) (c k)*E (sw p r k) x)=rs r fun k=>A (sw p r i) (c k)*E k x:=aT fun k hk=>by rw[xU hp hk]
   show d*A (sw p r i) x=(rs r fun k=>A (sw p r i) (c k)*E (sw p r k) x)+_;rw[e,h.i4 _ x (zW hpm (by lia) hm)];congr 1
   by_cases hi:i < r
   ·rw[xU hp hi,if_pos hi]
   ·have:=Xp hp (show r<=i by lia);rw[if_neg (by lia),if_neg hi]
  i5:=by
   rw[<- h.i5];exact cP fun i j hi _=>by show A (sw p r i) (c j)=_;rw[xU hp hi]
  i6:=fun Φ hΦ hs k hk=>by
   show Φ (E (sw p r k))=0;rw[xU hp hk];exact h.i6 Φ hΦ (fun s hs'=>by have:=hs s hs';rwa [xU hp hs'] at this) k hk }
def clr (E:Mat)(r col:Nat)(d:Rat):Mat:=fun k x=>if k=r then E r x else (E r col*E k x - E k col*E r x) / d
def c1 (c:Nat->Nat)(r col:Nat):Nat->Nat:=fun j=>if j=r then col else c j
theorem jF (c:Nat->Nat)(h:j < r):c1 c r col j=c j:=by unfold c1;rw[if_neg (by lia)]
theorem oN (c:Nat->Nat)(r col:Nat):c1 c r col r=col:=by unfold c1;rw[if_pos rfl]
theorem zQ (E:Mat)(r col:Nat)(d:Rat):clr E r col d r=E r:=by funext x;unfold clr;rw[if_pos rfl]
theorem mH (E:Mat)(h:k≠r)(x:Nat):clr E r col d k x=(E r col*E k x - E k col*E r x) / d:=by unfold clr;rw[if_neg h]
theorem Bar.j2 (h:Bar m A E r col d c)(hr:r < m):∀k j,k < r+1->j < r+1->clr E r col d k (c1 c r col j)=if j=k then E r col else 0:=fun k j hk hj=>by
 have hd:=h.dne
 by_cases kr:k=r
 ·subst kr;rw[zQ]
  by_cases jr:j=k
  ·rw[if_pos jr,jr,oN]
  ·rw[if_neg jr,jF c (by lia)];exact h.i3 k _ (Nat.le_refl _) hr (h.clt j (by lia))
 ·rw[mH E kr]
  by_cases jr:j=r
  ·subst jr;rw[oN,if_neg (by lia)];grind
  ·rw[jF c (by lia),h.i2 k j (by lia) (by lia),h.i3 r (c j) (Nat.le_refl _) hr (h.clt j (by lia))]
   by_cases e:j=k
   ·rw[if_pos e,if_pos e];grind
   ·rw[if_neg e,if_neg e];grind
theorem Bar.j4 (h:Bar m A E r col d c)(hr:r < m):∀i x,i < m->E r col*A i x=(rs (r+1) fun k=>A i (c1 c r col k)*clr E r col d k x)+if i < r+1 then 0 else clr E r col d i x:=fun i x hi=>by
 have hd:=h.dne;have q:=h.i4 i x hi;have q2:=h.i4 i col hi;show _=(rs r fun k=>A i (c1 c r col k)*clr E r col d k x)+A i (c1 c r col r)*clr E r col d r x+_;rw[oN,zQ];have e:(rs r fun k=>A i (c1 c r col k)*clr E r col d k x)=(E r col / d)*(rs r fun k=>A i (c k)*E k x)+(-(E r x / d))*rs r fun k=>A i (c k)*E k col:=by
  rw[<- fL,<- fL,<- fC];exact aT fun k hk=>by rw[jF c hk,mH E (by lia)];grind
 rw[e];generalize (rs r fun k=>A i (c k)*E k x)=s1 at q ⊢;generalize (rs r fun k=>A i (c k)*E k col)=s2 at q2 ⊢
 by_cases h1:i < r
 ·rw[if_pos h1] at q q2;rw[if_pos (by lia)];have:s1=d*A i x:=by grind
  have:s2=d*A i col:=by grind
  subst s1 s2;grind
 ·rw[if_neg h1] at q q2;have a1:s1=d*A i x - E i x:=by grind
  have a2:s2=d*A i col - E i col:=by grind
  subst a1 a2
  by_cases h2:i=r
  ·subst h2;rw[if_pos (by lia)];grind
  ·rw[if_neg (by lia),mH E h2];grind
theorem Bar.j6 (h:Bar m A E r col d c)(hr:r < m):∀Φ,Lin Φ->(∀s,s < r+1->Φ (A s)=0)->∀k,k < r+1->Φ (clr E r col d k)=0:=fun Φ hΦ hs k hk=>by
 have hd:=h.dne;have z:=h.i6 Φ hΦ fun s hs'=>hs s (by lia);have zr:Φ (E r)=0:=by
  have e:E r=fun x=>(fun x=>d*A r x) x+(-1)*(fun x=>rs r fun k=>A r (c k)*E k x) x:=by
   funext x
   have:=h.i4 r x hr;rw[if_neg (by lia)] at this;show E r x=d*A r x+(-1)*(rs r fun k=>A r (c k)*E k x)
   grind
  rw[e,hΦ,hΦ.mul,hΦ.sum,hs r (by lia)];have:(rs r fun k=>A r (c k)*Φ (E k))=rs r fun _=>0:=aT fun k hk=>by rw[z k hk];grind
  rw[this,eI];grind
 by_cases kr:k=r
 ·rw[kr,zQ];exact zr
 ·have e:clr E r col d k=fun x=>(fun x=>(E r col / d)*E k x) x+(-(E k col / d))*E r x:=by
   funext x
   rw[mH E kr];show _=(E r col / d)*E k x+(-(E k col / d))*E r x;grind
  rw[e,hΦ,hΦ.mul,z k (by lia),zr];grind
theorem Bar.j5 (h:Bar m A E r col d c)(hr:r < m):det (r+1) (fun i j=>A i (c1 c r col j))=E r col:=by
 have hd:=h.dne;have e1:det (r+1) (fun i j=>A i (c1 c r col j))=F r A (c1 c r col) (A r):=by
  unfold F;exact cP fun i j hi _=>by
   unfold Az
   by_cases e:i=r
   ·rw[if_pos e,e]
   ·rw[if_neg e]
 have hΦ:=Ik r A (c1 c r col);have z:=h.i6 _ hΦ fun s hs=>Kj r A (c1 c r col) hs;have eA:A r=fun x=>(fun x=>(1 / d)*E r x) x+(1 / d)*(fun x=>rs r fun k=>A r (c k)*E k x) x:=by
  funext x
  have:=h.i4 r x hr;rw[if_neg (by lia)] at this;show A r x=(1 / d)*E r x+(1 / d)*(rs r fun k=>A r (c k)*E k x)
  grind
 have zs:(rs r fun k=>A r (c k)*F r A (c1 c r col) (E k))=0:=by
  have:(rs r fun k=>A r (c k)*F r A (c1 c r col) (E k))=rs r fun _=>0:=aT fun k hk=>by rw[z k hk];grind
  rw[this,eI]
 have fb:=Ah r A (c1 c r col) (E r) fun j hj=>by rw[jF c hj];exact h.i3 r _ (Nat.le_refl _) hr (h.clt j hj)
 have dd:(det r fun i j=>A i (c1 c r col j))=d:=by rw[<- h.i5];exact cP fun i j _ hj=>by show A i (c1 c r col j)=_;rw[jF c hj]
 rw[oN,dd] at fb;rw[e1,eA,hΦ,hΦ.mul,hΦ.sum,zs,fb];grind
theorem Bar.wV (h:Bar m A E r col d c)(hr:r < m)(he:E r col≠0):∀i x,i < m->Wh (clr E r col d i x):=by
 have j2:=h.j2 hr;have j4:=h.j4 hr;have j5:=h.j5 hr;have j6:=h.j6 hr;have cin:∀i j,i < r+1->j < r+1->c1 c r col i=c1 c r col j->i=j:=fun i j hi hj e=>by
  by_cases a:i=r
  ·by_cases b:j=r
   ·lia
   ·rw[a,oN,jF c (by lia)] at e;have:=h.clt j (by lia);lia
  ·by_cases b:j=r
   ·rw[b,oN,jF c (by lia)] at e;have:=h.clt i (by lia);lia
   ·rw[jF c (by lia),jF c (by lia)] at e;exact h.cinj i j (by lia) (by lia) e
 have top:∀k x,k < r+1->Wh (clr E r col d k x):=fun k x hk=>by
  by_cases hx:∃j,j < r+1/\x=c1 c r col j
  ·obtain⟨j,hj,rfl⟩:=hx;rw[j2 k j hk hj];split
   ·exact h.wE r col hr
   ·exact Wh.nil
  ·let c2:Nat->Nat:=fun j=>if j=r+1 then x else c1 c r col j
   let u:Nat->Rat:=fun j=>if j=c1 c r col k then 1 else 0
   have hΦ:=Ik (r+1) A c2;have z:=j6 _ hΦ (fun s hs=>Kj (r+1) A c2 hs) k hk;have eu:u=fun y=>(fun y=>u y+(-(1 / E r col))*clr E r col d k y) y+(1 / E r col)*clr E r col d k y:=by
    funext y
    show u y=u y+(-(1 / E r col))*clr E r col d k y+(1 / E r col)*clr E r col d k y;grind
   have fb:=Ah (r+1) A c2 (fun y=>u y+(-(1 / E r col))*clr E r col d k y) fun j hj=>by
    have ec:c2 j=c1 c r col j:=by show (if j=r+1 then x else c1 c r col j)=_;rw[if_neg (by lia)]
    rw[ec];show u (c1 c r col j)+(-(1 / E r col))*clr E r col d k (c1 c r col j)=0;rw[j2 k j hk hj];show (if c1 c r col j=c1 c r col k then (1:Rat) else 0)+_=0
    by_cases e:j=k
    ·rw[if_pos e,if_pos (by rw[e])];grind
    ·rw[if_neg e,if_neg (fun q=>e (cin j k hj hk q))];grind
   have dd:(det (r+1) fun i j=>A i (c2 j))=E r col:=by
    rw[<- j5];exact cP fun i j _ hj=>by show A i (if j=r+1 then x else c1 c r col j)=_;rw[if_neg (by lia)]
   have ux:u x=0:=by show (if x=c1 c r col k then (1:Rat) else 0)=0;rw[if_neg (fun q=>hx ⟨k,hk,q⟩)]
   have cx:c2 (r+1)=x:=by show (if r+1=r+1 then x else _)=x;rw[if_pos rfl]
   rw[dd,cx] at fb;have val:F (r+1) A c2 u=- clr E r col d k x:=by
    rw[eu,hΦ,z,fb];show (u x+(-(1 / E r col))*clr E r col d k x)*E r col+_=_;rw[ux];grind
   have wh:Wh (F (r+1) A c2 u):=Ti h.wA fun j=>by
    show Wh (if j=c1 c r col k then (1:Rat) else 0);split
    ·exact Wh.one
    ·exact Wh.nil
   rw[val] at wh;have:=wh.neg
   rwa [show - - clr E r col d k x=clr E r col d k x by grind] at this
 intro i x hi
 by_cases h1:i < r+1
 ·exact top i x h1
 ·have q:=j4 i x hi;rw[if_neg h1] at q;have e:clr E r col d i x=E r col*A i x - rs (r+1) fun k=>A i (c1 c r col k)*clr E r col d k x:=by grind
  rw[e];exact Wh.sub (Wh.mul (h.wE r col hr) (h.wA i x)) (Df fun k hk=>Wh.mul (h.wA _ _) (top k x hk))
theorem Bar.clear (h:Bar m A E r col d c)(hr:r < m)(he:E r col≠0):Bar m A (clr E r col d) (r+1) (col+1) (E r col) (c1 c r col) where
 dne:=he
 rm:=hr
 rc:=by have:=h.rc;lia
 clt:=fun j hj=>by
  by_cases e:j=r
  ·rw[e,oN];lia
  ·rw[jF c (by lia)];have:=h.clt j (by lia);lia
 cinj:=fun i j hi hj e=>by
  by_cases a:i=r
  ·by_cases b:j=r
   ·lia
   ·rw[a,oN,jF c (by lia)] at e;have:=h.clt j (by lia);lia
  ·by_cases b:j=r
   ·rw[b,oN,jF c (by lia)] at e;have:=h.clt i (by lia);lia
   ·rw[jF c (by lia),jF c (by lia)] at e;exact h.cinj i j (by lia) (by lia) e
 wA:=h.wA
 wE:=fun i j hi=>h.wV hr he i j hi
 i2:=h.j2 hr
 i3:=fun i x hi hm hx=>by
  rw[mH E (by lia)]
  by_cases e:x=col
  ·rw[e];grind
  ·rw[h.i3 i x (by lia) hm (by lia),h.i3 r x (Nat.le_refl _) hr (by lia)];grind
 i4:=h.j4 hr
 i5:=h.j5 hr
 i6:=h.j6 hr
 full:=fun e j hj=>by
  by_cases a:j=r
  ·rw[a,oN];lia
  ·rw[jF c (by lia)];exact h.full (by lia) j (by lia)
end
def ent (R:List (List Int))(i x:Nat):Int:=(R.getD i []).getD x 0
def at2 (R:List (List Int)):Mat:=fun i x=>((ent R i x:Int):Rat)
theorem Bar.congr (h:Bar m A E r col d c)(e:∀i,i < m->E i=E' i):Bar m A E' r col d c:=
 { h with
  wE:=fun i j hi=>by rw[<- e i hi];exact h.wE i j hi
  i2:=fun k j hk hj=>by rw[<- e k (by have:=h.rm;lia)];exact h.i2 k j hk hj
  i3:=fun i x hi hm hx=>by rw[<- e i hm];exact h.i3 i x hi hm hx
  i4:=fun i x hm=>by
   rw[h.i4 i x hm];congr 1
   ·exact aT fun k hk=>by rw[e k (by have:=h.rm;lia)]
   ·rw[e i hm]
  i6:=fun Φ hΦ hs k hk=>by rw[<- e k (by have:=h.rm;lia)];exact h.i6 Φ hΦ hs k hk }
theorem Ol (n:Nat):∀(t p r:Nat) (A:Mat),p=r+t+1->p < n->det n (fun i=>A (sw p r i))=- det n A
 |0,p,r,A,h,hp=>by
  subst h;rw[<- mL n r A (by lia)];exact cP fun i j _ _=>by
   show A (sw (r+0+1) r i) j=cH r A i j;unfold sw cH
   by_cases h1:i=r
   ·rw[if_pos h1,if_pos h1]
   ·rw[if_neg h1,if_neg h1]
    by_cases h2:i=r+1
    ·rw[if_pos (by lia),if_pos h2]
    ·rw[if_neg (by lia),if_neg h2]
 |t+1,p,r,A,h,hp=>by
  have ih:=Ol n t (r+t+1) r (cH (r+t+1) A) rfl (by lia);have s1:=mL n (r+t+1) A (by lia);have s2:=mL n (r+t+1) (fun i=>cH (r+t+1) A (sw (r+t+1) r i)) (by lia);have e:det n (fun i=>A (sw p r i))=det n (cH (r+t+1) (fun i=>cH (r+t+1) A (sw (r+t+1) r i))):=cP fun i j _ _=>by
   subst h;show A (sw (r+(t+1)+1) r i) j=cH (r+t+1) (fun i=>cH (r+t+1) A (sw (r+t+1) r i)) i j
   by_cases h1:i=r
   ·have a1:sw (r+(t+1)+1) r i=r+t+1+1:=by unfold sw;rw[if_pos h1];lia
    have a2:sw (r+t+1) r i=r+t+1:=by unfold sw;rw[if_pos h1]
    rw[a1];unfold cH;rw[if_neg (by lia),if_neg (by lia)];dsimp only;rw[a2,if_pos rfl]
   ·by_cases h2:i=r+t+1+1
    ·have a1:sw (r+(t+1)+1) r i=r:=by unfold sw;rw[if_neg h1,if_pos (by lia)]
     have a2:sw (r+t+1) r (r+t+1)=r:=by unfold sw;rw[if_neg (by lia),if_pos rfl]
     rw[a1];unfold cH;rw[if_neg (by lia),if_pos h2];dsimp only;rw[a2,if_neg (by lia),if_neg (by lia)]
    ·have a1:sw (r+(t+1)+1) r i=i:=by unfold sw;rw[if_neg h1,if_neg (by lia)]
     rw[a1]
     by_cases h3:i=r+t+1
     ·have a2:sw (r+t+1) r (r+t+1+1)=r+t+1+1:=by unfold sw;rw[if_neg (by lia),if_neg (by lia)]
      unfold cH;rw[if_pos h3];dsimp only;rw[a2,if_neg (by lia),if_pos rfl,h3]
     ·have a2:sw (r+t+1) r i=i:=by unfold sw;rw[if_neg h1,if_neg h3]
      unfold cH;rw[if_neg h3,if_neg h2];dsimp only;rw[a2,if_neg h3,if_neg h2]
  rw[e,s2,ih,s1];grind
def fK (R:List (List Int))(p r:Nat):List (List Int):=(R.set p (R.getD r [])).set r (R.getD p [])
theorem Zn (R:List (List Int))(p r:Nat):(fK R p r).length=R.length:=by unfold fK;simp
theorem Bc (hp:p < R.length)(hr:r < R.length)(i:Nat):(fK R p r).getD i []=R.getD (sw p r i) []:=by
 unfold fK sw;rw[getD_eq_getElem?_getD]
 by_cases h1:i=r
 ·rw[if_pos h1,h1,getElem?_set_self (by simpa using hr)];rfl
 ·rw[if_neg h1,getElem?_set_ne (Ne.symm h1)]
  by_cases h2:i=p
  ·rw[if_pos h2,h2,getElem?_set_self hp];rfl
  ·rw[if_neg h2,getElem?_set_ne (Ne.symm h2),getD_eq_getElem?_getD]
def gV (upper row:List Int)(col:Nat)(dv:Int):List Int:=zipWith (fun here above=>Int.fdiv (upper.getD col 0*here - row.getD col 0*above) dv) row upper
def cK (R:List (List Int))(r col:Nat)(dv:Int):List (List Int):=R.mapIdx fun i row=>if i=r then row else gV (R.getD r []) row col dv
theorem Ij (R:List (List Int))(r col:Nat)(dv:Int):(cK R r col dv).length=R.length:=by unfold cK;simp
theorem pQ (hi:i < R.length)(r col:Nat)(dv:Int):(cK R r col dv).getD i []=if i=r then R.getD i [] else gV (R.getD r []) (R.getD i []) col dv:=by
 unfold cK;rw[getD_eq_getElem?_getD,getElem?_mapIdx,getElem?_eq_getElem hi];have:R.getD i []=R[i]:=by rw[getD_eq_getElem?_getD,getElem?_eq_getElem hi];rfl
 rw[this];rfl
structure SI (m w:Nat) (A0:Mat) (R:List (List Int)) (r col:Nat) (d sg:Int):Prop where
 len:R.length=m
 wid:∀i,i < m->(R.getD i []).length=w
 bar:∃A c,Bar m A (at2 R) r col (d:Rat) c/\det m A=(sg:Rat)*det m A0
 one:sg=1\/sg=-1
theorem SI.start (h:R.length=m)(hw:∀i,i < m->(R.getD i []).length=w):SI m w (at2 R) R 0 0 1 1:=
 ⟨h,hw,⟨at2 R,id,by
  have:=Bar.start (m:=m) (A:=at2 R) fun i j=>⟨_,rfl⟩
  simpa using this,by simp⟩,.inl rfl⟩
theorem SI.skip (h:SI m w A0 R r col d sg)(hz:∀i,r<=i->i < m->ent R i col=0):SI m w A0 R r (col+1) d sg:=by
 obtain⟨A,c,B,e⟩:=h.bar;exact⟨h.len,h.wid,⟨A,c,B.skip fun i h1 h2=>by unfold at2;rw[hz i h1 h2];simp,e⟩,h.one⟩
theorem SI.swap (h:SI m w A0 R r col d sg)(hp:r < p)(hm:p < m):SI m w A0 (fK R p r) r col d (-sg):=by
 obtain⟨A,c,B,e⟩:=h.bar;have hl:=h.len;have gd:=fun i=>Bc (R:=R) (p:=p) (r:=r) (by lia) (by lia) i;refine⟨(Zn R p r).trans hl,fun i hi=>?_,⟨_,c,(B.swap (by lia) hm).congr fun i hi=>?_,?_⟩,?_⟩
 ·rw[gd i];exact h.wid _ (zW hm (by lia) hi)
 ·funext x
  show (((R.getD (sw p r i) []).getD x 0:Int):Rat)=((((fK R p r).getD i []).getD x 0:Int):Rat)
  rw[gd i]
 ·rw[Ol m (p - r - 1) p r A (by lia) hm,e,Rat.intCast_neg];grind
 ·rcases h.one with z | z
  ·right;lia
  ·left;lia
theorem mM {l:List Int}(h:x < l.length):l[x]?=some (l.getD x 0):=by rw[getD_eq_getElem?_getD,getElem?_eq_getElem h];rfl
theorem uJ {l:List Int}(h:l.length<=x):l.getD x 0=0:=by rw[getD_eq_getElem?_getD,getElem?_eq_none h];rfl
theorem Je (h:SI m w A0 R r col d sg)(B:Bar m A (at2 R) r col (d:Rat) c)(hr:r < m)(hc:col < w)(he:ent R r col≠0)(hi:i < m)(hir:i≠r)(x:Nat):
  ∃z:Int,(gV (R.getD r []) (R.getD i []) col d).getD x 0=z/\(z:Rat)=clr (at2 R) r col (d:Rat) i x/\(x < w->ent R r col*ent R i x - ent R i col*ent R r x=d*z):=by
 have dn:d≠0:=fun z=>B.dne (by rw[z];simp);have dq:=B.dne;have heq:at2 R r col≠0:=fun z=>he (Rat.intCast_inj.mp (by unfold at2 at z;simpa using z));have wi:=h.wid i hi;have wr:=h.wid r hr
 by_cases hx:x < w
 ·obtain⟨z,hz⟩:=B.wV hr heq i x hi;have e1:ent R r col*ent R i x - ent R i col*ent R r x=d*z:=by
   rw[mH _ hir] at hz;have:((ent R r col*ent R i x - ent R i col*ent R r x:Int):Rat)=((d*z:Int):Rat):=by
    rw[Rat.intCast_sub,Rat.intCast_mul,Rat.intCast_mul,Rat.intCast_mul,<- hz];show at2 R r col*at2 R i x - at2 R i col*at2 R r x=_;grind
   exact Rat.intCast_inj.mp this
  refine⟨z,?_,hz.symm,fun _=>e1⟩;unfold gV;have g1:(R.getD i [])[x]?=some ((R.getD i []).getD x 0):=mM (by lia);have g2:(R.getD r [])[x]?=some ((R.getD r []).getD x 0):=mM (by lia);rw[getD_eq_getElem?_getD (l:=zipWith _ _ _),getElem?_zipWith,g1,g2];exact fU dn e1
 ·refine⟨0,?_,?_,fun h=>absurd h hx⟩
  ·unfold gV;exact uJ (by rw[length_zipWith,wi,wr];lia)
  ·rw[mH _ hir];have a1:at2 R i x=0:=by unfold at2 ent;rw[uJ (by lia)];simp
   have a2:at2 R r x=0:=by unfold at2 ent;rw[uJ (by lia)];simp
   rw[a1,a2];simp;grind
theorem SI.clear (h:SI m w A0 R r col d sg)(hr:r < m)(hc:col < w)(he:ent R r col≠0):SI m w A0 (cK R r col d) (r+1) (col+1) (ent R r col) sg:=by
 obtain⟨A,c,B,e⟩:=h.bar;have hl:=h.len;have heq:at2 R r col≠0:=fun z=>he (Rat.intCast_inj.mp (by unfold at2 at z;simpa using z));refine⟨(Ij R r col d).trans hl,fun i hi=>?_,⟨A,_,(B.clear hr heq).congr fun i hi=>?_,e⟩,h.one⟩
 ·rw[pQ (by lia)];split
  ·exact h.wid i hi
  ·unfold gV;rw[length_zipWith,h.wid i hi,h.wid r hr,Nat.min_self]
 ·funext x
  show clr (at2 R) r col (d:Rat) i x=((((cK R r col d).getD i []).getD x 0:Int):Rat)
  rw[pQ (by lia)]
  by_cases hir:i=r
  ·rw[if_pos hir,hir,zQ];rfl
  ·rw[if_neg hir];obtain⟨z,h1,h2,_⟩:=Je h B hr hc he hi hir x;rw[h1,h2]
def BdR (n:Nat)(R:List (List Int)):Prop:=∀i x,B n (ent R i x)
theorem SI.whole (h:SI m w A0 R m m d sg):det m A0=(sg:Rat)*(d:Rat):=by
 obtain⟨A,c,B,e⟩:=h.bar;have f:=B.full rfl;have i5:=B.i5;have:det m (fun i j=>A i (c j))=det m A:=cP fun i j _ hj=>by show A i (c j)=A i j;rw[f j hj]
 rw[this,e] at i5;rcases h.one with z | z
 ·rw[z] at i5 ⊢;simp at i5 ⊢;exact i5
 ·rw[z,Rat.intCast_neg] at i5 ⊢;simp at i5 ⊢;grind
theorem SI.lame (h:SI m w A0 R r m d sg)(hr:r < m):det m A0=0:=by
 obtain⟨A,c,B,e⟩:=h.bar;obtain⟨n,rfl⟩:∃n,m=n+1:=⟨m - 1,by lia⟩
 have dq:=B.dne;have e1:det (n+1) A=F n A id (A n):=by
  unfold F;exact cP fun i j hi _=>by
   unfold Az
   by_cases z:i=n
   ·rw[if_pos z,z];rfl
   ·rw[if_neg z];rfl
 have hΦ:=Ik n A id;have z:=B.i6 _ hΦ fun s hs=>Kj n A id (by lia);have eA:A n=fun x=>(fun x=>(1 / (d:Rat))*at2 R n x) x+(1 / (d:Rat))*(fun x=>rs r fun k=>A n (c k)*at2 R k x) x:=by
  funext x
  have:=B.i4 n x (by lia);rw[if_neg (by lia)] at this;show A n x=(1 / (d:Rat))*at2 R n x+(1 / (d:Rat))*(rs r fun k=>A n (c k)*at2 R k x)
  grind
 have zs:(rs r fun k=>A n (c k)*F n A id (at2 R k))=0:=by
  have:(rs r fun k=>A n (c k)*F n A id (at2 R k))=rs r fun _=>0:=aT fun k hk=>by rw[z k hk];grind
  rw[this,eI]
 have zn:F n A id (at2 R n)=0:=by
  rw[Kv];have:(rs (n+1) fun j=>sgn (n+j)*at2 R n (id j)*det n fun i k=>A i (id (Mq.skip j k)))=rs (n+1) fun _=>0:=aT fun j hj=>by
   rw[show at2 R n (id j)=0 from B.i3 n j (by lia) (by lia) hj];grind
  rw[this,eI]
 have:det (n+1) A=0:=by
  rw[e1,eA,hΦ,hΦ.mul,hΦ.sum,zs,zn];grind
 rw[this] at e;rcases h.one with q | q
 ·rw[q] at e;simp at e;exact e.symm
 ·rw[q,Rat.intCast_neg] at e;simp at e;grind
def Ll:Nat->(Nat->Rat)->Rat
 |0,_=>1
 |n+1,b=>Ll n b*b n
theorem qU:∀(n:Nat) (b:Nat->Rat) (Q:Mat),det n (fun i j=>b i*Q i j)=Ll n b*det n Q
 |0,_,_=>by simp[det,Ll]
 |n+1,b,Q=>by
  rw[fZ,fZ,<- fL];refine aT fun j _=>?_;have:=qU n b (fun i k=>Q i (Mq.skip j k));show sgn (n+j)*(b n*Q n j)*det n (fun i k=>b i*Q i (Mq.skip j k))=Ll n b*b n*_;rw[this];grind
end Mq
open Mq (Bc BdR Ll Mat SI cK cP ent fK gV mM pQ qU uE)
namespace Shp
open PySem L2
inductive Imx (D:Addr) (H:Hp):List V->List (List Int)->Prop where
 |nil:Imx D H [] []
 |cons {u:Addr} {r:List Int} {us:List V} {R:List (List Int)} (ne:u≠D) (h:H u=some (.lst (r.map V.int))) (q:Imx D H us R):Imx D H (.ref u :: us) (r :: R)
theorem Imx.same (e:aS H H'):∀{xs:List V} {R:List (List Int)},Imx D H xs R->Imx D H' xs R
 |_,_,.nil=>.nil
 |_,_,.cons n h q=>.cons n (e _ _ h) (q.same e)
theorem Imx.upd:∀{xs:List V} {R:List (List Int)},Imx D H xs R->Imx D (L2.upd H D o) xs R
 |_,_,.nil=>.nil
 |_,_,.cons n h q=>.cons n (by rw[aQ n];exact h) q.upd
theorem Imx.length:∀{xs:List V} {R:List (List Int)},Imx D H xs R->xs.length=R.length
 |_,_,.nil=>rfl
 |_,_,.cons _ _ q=>by rw[length_cons,length_cons,q.length]
theorem Imx.get:∀{xs:List V} {R:List (List Int)} {i:Nat} {x:V},Imx D H xs R->xs[i]?=some x->∃u r,x=.ref u/\R[i]?=some r/\u≠D/\H u=some (.lst (r.map V.int))
 |_,_,0,_,.cons n h q,e=>by simp at e;exact⟨_,_,e.symm,rfl,n,h⟩
 |_,_,i+1,_,.cons n h q,e=>by simp at e;exact q.get e
theorem Imx.at (h:Imx D H xs R)(hi:i < R.length):∃u,xs[i]?=some (.ref u)/\u≠D/\H u=some (.lst ((R.getD i []).map V.int)):=by
 have hx:i < xs.length:=by rw[h.length];exact hi
 obtain⟨u,r,e1,e2,e3,e4⟩:=h.get (getElem?_eq_getElem hx);refine⟨u,by rw[getElem?_eq_getElem hx,e1],e3,?_⟩;rw[getD_eq_getElem?_getD,e2];exact e4
theorem Imx.app:∀{xs ys:List V} {R S:List (List Int)},Imx D H xs R->Imx D H ys S->Imx D H (xs++ys) (R++S)
 |_,_,_,_,.nil,k=>k
 |_,_,_,_,.cons n h q,k=>.cons n h (q.app k)
theorem Imx.set (hn:u≠D)(hu:H u=some (.lst (r.map V.int))):∀{xs:List V} {R:List (List Int)} (i:Nat),Imx D H xs R->Imx D H (xs.set i (.ref u)) (R.set i r)
 |_,_,_,.nil=>by simp;exact .nil
 |_,_,0,.cons n h q=>.cons hn hu q
 |_,_,i+1,.cons n h q=>.cons n h (q.set hn hu i)
theorem Imx.other (hD:H D'=none):∀{xs:List V} {R:List (List Int)},Imx D H xs R->Imx D' H xs R
 |_,_,.nil=>.nil
 |_,_,.cons n h q=>.cons (fun z=>by rw[z,hD] at h;cases h) h (q.other hD)
theorem kT {l:List Int}(h:i < l.length):(l.map V.int)[i]?=some (.int (l.getD i 0)):=by
 rw[getElem?_map,mM h];rfl
inductive Sz (K:Frag) (vs:List V) (H:Hp) (Q:VK) (E:XK):Prop where
 |mk (a:Addr) (xs:List V) (ps:List Mq.Q2) (n:Nat):vs=[.ref a]->SqL K H a xs->Fqs K H xs ps->Mq.Pos ps->(∀p∈ps,Mq.Bd n p)->ps.length<=100->10+n+n*ps.length<=8000->(∀t l H',aS H H'->H l=none->SqT K H' t [.ref l,.int (eJ ps)]->H' l=some (.lst ((iw ps).map V.int))->Q (.ref t) H')->Sz K vs H Q E
inductive Nk (K:Frag) (vs:List V) (H:Hp) (Q:VK) (E:XK):Prop where
 |mk (l D:Addr) (zs:List V) (R:List (List Int)) (r c m w:Nat):vs=[.ref l,.int (r:Int),.int (c:Int)]->SqL K H l zs->Imx D H zs R->R.length=m->(∀i,i < m->(R.getD i []).length=w)->c < w->r<=m->m<=100->(∀p,r<=p->p < m->ent R p c≠0->Q (.int (p:Int)) H)->((∀i,r<=i->i < m->ent R i c=0)->Q .non H)->Nk K vs H Q E
inductive rE (K:Frag) (vs:List V) (H:Hp) (Q:VK) (E:XK):Prop where
 |mk (u v:Addr) (row upper:List Int) (c n:Nat) (dv:Int):vs=[.ref u,.ref v,.int (c:Int),.int dv]->SqL K H u (row.map V.int)->SqL K H v (upper.map V.int)->row.length=upper.length->row.length<=100->c < row.length->dv≠0->(∀i,Mq.B n (row.getD i 0))->(∀i,Mq.B n (upper.getD i 0))->Mq.B n dv->n<=9000->(∀l H',aS H H'->H l=none->H' l=some (.lst ((gV upper row c dv).map V.int))->Q (.ref l) H')->rE K vs H Q E
inductive qW (K:Frag) (vs:List V) (H:Hp) (Q:VK) (E:XK):Prop where
 |mk (l D:Addr) (zs:List V) (R:List (List Int)) (r c m w n:Nat) (dv:Int):vs=[.ref l,.int (r:Int),.int (c:Int),.int dv]->SqL K H l zs->Imx D H zs R->R.length=m->(∀i,i < m->(R.getD i []).length=w)->c < w->w<=100->r < m->m<=100->dv≠0->BdR n R->Mq.B n dv->n<=9000->(∀l' zs' H',aS H H'->H l'=none->H' l'=some (.lst zs')->Imx l' H' zs' (cK R r c dv)->Q (.ref l') H')->qW K vs H Q E
def Sn (l:Addr)(rank:Nat)(pivot sign:Int):HO:=.dK (jV [] [(.inr "rows",.ref l),(.inr "rank",.int (rank:Int)),(.inr "pivot",.int pivot),(.inr "sign",.int sign)])
def wgt (X:List (List Mq.Q2)):Rat:=Mq.det X.length fun i j=>Mq.val ((X.getD i []).getD j Mq.z0)
theorem Ce (h:H d=some (Sn l rank pivot sign)):kI H d (.str "rows") (some (.ref l))/\kI H d (.str "rank") (some (.int (rank:Int)))/\kI H d (.str "pivot") (some (.int pivot))/\kI H d (.str "sign") (some (.int sign)):=by
 refine⟨?_,?_,?_,?_⟩
 ·exact kI.k (k:=(Sum.inr "rows":Key)) h
 ·exact kI.k (k:=(Sum.inr "rank":Key)) h
 ·exact kI.k (k:=(Sum.inr "pivot":Key)) h
 ·exact kI.k (k:=(Sum.inr "sign":Key)) h
def sI (X:List (List Mq.Q2)):Int:=X.foldl (fun b row=>b*eJ row) 1
theorem yK {X:List (List Mq.Q2)}(h:X[i]?=some row):sI (X.take (i+1))=sI (X.take i)*eJ row:=by
 unfold sI;rw[take_add_one,h,foldl_append];rfl
theorem qT (X:List (List Mq.Q2)):∀i,i<=X.length->((sI (X.take i):Int):Rat)=Ll i fun k=>((eJ (X.getD k []):Int):Rat)
 |0,_=>by simp[sI,Ll]
 |i+1,h=>by
  have e:X[i]?=some (X.getD i []):=by rw[getD_eq_getElem?_getD,getElem?_eq_getElem (by lia)];rfl
  rw[yK e,Rat.intCast_mul,qT X i (by lia)];rfl
theorem Bk (hX:fQ X):∀i,i<=X.length->1<=sI (X.take i)
 |0,_=>by show (1:Int)<=1;lia
 |i+1,h=>by
  have e:X[i]?=some (X.getD i []):=by rw[getD_eq_getElem?_getD,getElem?_eq_getElem (by lia)];rfl
  rw[yK e];have h1:=Bk hX i (by lia);have h2:=sZ (hX _ (mem_of_getElem? e));have:=Int.mul_pos (show 0 < sI (X.take i) by lia) (show 0 < eJ (X.getD i []) by lia);lia
theorem Oy (hp:Mq.Pos row)(hj:j < row.length):(((iw row).getD j 0:Int):Rat)=((eJ row:Int):Rat)*Mq.val (row.getD j Mq.z0):=by
 have ej:row[j]?=some (row.getD j Mq.z0):=by rw[getD_eq_getElem?_getD,getElem?_eq_getElem hj];rfl
 have mem:row.getD j Mq.z0∈row:=mem_of_getElem? ej;obtain⟨k,hk⟩:=Ca hp _ mem;have e2:(iw row).getD j 0=Dy (eJ row) (row.getD j Mq.z0):=by
  unfold iw;rw[getD_eq_getElem?_getD,getElem?_map,ej];rfl
 rw[e2,Mq.Pe (hp _ mem) hk];grind
theorem wJ (row:List Mq.Q2):(iw row).length=row.length:=by unfold iw;simp
end Shp
namespace Mq
theorem lZ (m a:Nat)(v:Rat)(h:a < m):(rs m fun i=>if i=a then v else 0)=v:=by
 induction m with
 |zero=>lia
 |succ m ih=>
  simp only[rs]
  by_cases e:m=a
  ·subst e;rw[if_pos rfl];have:(rs m fun i=>if i=m then v else 0)=rs m fun _=>0:=aT fun i hi=>by rw[if_neg (by lia)]
   rw[this,eI];grind
  ·rw[if_neg e,ih (by lia)];grind
theorem qf9 (m p r:Nat)(hp:p < m)(hr:r < m)(F:Nat->Rat):(rs m fun i=>F (sw p r i))=rs m F:=by
 by_cases e:p=r
 ·subst e;exact aT fun i _=>by
   congr 1;unfold sw
   by_cases h:i=p
   ·rw[if_pos h,h]
   ·rw[if_neg h,if_neg h]
 have:(rs m fun i=>F (sw p r i))=rs m fun i=>F i+((if i=r then F p - F r else 0)+(if i=p then F r - F p else 0)):=aT fun i _=>by
  unfold sw
  by_cases h1:i=r
  ·rw[if_pos h1,if_pos h1,if_neg (by lia),h1];grind
  ·rw[if_neg h1,if_neg h1]
   by_cases h2:i=p
   ·rw[if_pos h2,if_pos h2,h2];grind
   ·rw[if_neg h2,if_neg h2];grind
 rw[this,fC,fC,lZ m r _ hr,lZ m p _ hp];grind
structure LI (m:Nat) (Aq:Mat) (R:List (List Int)):Prop where
 lin:∀i x,i < m->x < m->at2 R i x=rs m fun k=>at2 R i (m+k)*Aq k x
 ind:∀lam:Nat->Rat,(∀j,j < m->(rs m fun i=>lam i*at2 R i (m+j))=0)->∀i,i < m->lam i=0
theorem rN (hp:p < R.length)(hr:r < R.length)(i x:Nat):at2 (fK R p r) i x=at2 R (sw p r i) x:=by
 show ((((fK R p r).getD i []).getD x 0:Int):Rat)=_;rw[Bc hp hr];rfl
theorem LI.swap (h:LI m Aq R)(hl:R.length=m)(hp:p < m)(hr:r < m):LI m Aq (fK R p r) where
 lin:=fun i x hi hx=>by
  rw[rN (by lia) (by lia),h.lin _ x (zW hp hr hi) hx];exact aT fun k _=>by rw[rN (by lia) (by lia)]
 ind:=fun lam hz i hi=>by
  have:=h.ind (fun i=>lam (sw p r i)) (fun j hj=>by
   rw[<- hz j hj,<- qf9 m p r hp hr];exact aT fun i _=>by
    show lam (sw p r (sw p r i))*_=_;rw[Qo,rN (by lia) (by lia)]) (sw p r i) (zW hp hr hi)
  have e:lam (sw p r (sw p r i))=0:=this
  rwa [Qo] at e
theorem tK (h:SI m w A0 R r col d sg)(hr:r < m)(hc:col < w)(he:ent R r col≠0)(hi:i < m)(x:Nat):
  at2 (cK R r col d) i x=if i=r then at2 R i x else (at2 R r col*at2 R i x - at2 R i col*at2 R r x) / (d:Rat):=by
 obtain⟨A,c,B,e⟩:=h.bar;have hl:=h.len;show ((((cK R r col d).getD i []).getD x 0:Int):Rat)=_;rw[pQ (by lia)]
 by_cases hir:i=r
 ·rw[if_pos hir,if_pos hir];rfl
 ·rw[if_neg hir,if_neg hir];obtain⟨z,h1,h2,_⟩:=Je h B hr hc he hi hir x;rw[h1,h2,mH _ hir]
theorem SI.dne (h:SI m w A0 R r col d sg):(d:Rat)≠0:=by
 obtain⟨A,c,B,e⟩:=h.bar;exact B.dne
theorem LI.clear (h:LI m Aq R)(s:SI m w A0 R r col d sg)(hr:r < m)(hc:col < w)(he:ent R r col≠0):LI m Aq (cK R r col d):=by
 have dn:=s.dne;have hn:at2 R r col≠0:=fun z=>he (Rat.intCast_inj.mp (by unfold at2 at z;simpa using z));have cl:=fun (i:Nat) (hi:i < m) (x:Nat)=>tK s hr hc he hi x;refine⟨fun i x hi hx=>?_,fun lam hz i hi=>?_⟩
 ·rw[cl i hi x]
  by_cases e:i=r
  ·rw[if_pos e,h.lin i x hi hx];exact aT fun k _=>by rw[cl i hi,if_pos e]
  ·rw[if_neg e,h.lin i x hi hx,h.lin r x hr hx];have:(rs m fun k=>at2 (cK R r col d) i (m+k)*Aq k x)=rs m fun k=>(at2 R r col / (d:Rat))*(at2 R i (m+k)*Aq k x)+(-(at2 R i col / (d:Rat)))*(at2 R r (m+k)*Aq k x):=aT fun k _=>by rw[cl i hi,if_neg e];grind
   rw[this,fC,fL,fL];grind
 ·-- the factors of the rows as they were
  have key:=h.ind (fun i=>if i=r then lam r - (rs m fun k=>if k=r then 0 else lam k*(at2 R k col / (d:Rat))) else lam i*(at2 R r col / (d:Rat))) (fun j hj=>by
   have e0:=hz j hj;have e1:(rs m fun i=>lam i*at2 (cK R r col d) i (m+j))=rs m fun i=>(if i=r then lam r*at2 R r (m+j) else 0)+((if i=r then 0 else lam i*(at2 R r col / (d:Rat))*at2 R i (m+j))+(-(at2 R r (m+j)))*(if i=r then 0 else lam i*(at2 R i col / (d:Rat)))):=aT fun i hi=>by
    rw[cl i hi]
    by_cases e:i=r
    ·rw[if_pos e,if_pos e,if_pos e,if_pos e,e];grind
    ·rw[if_neg e,if_neg e,if_neg e,if_neg e];grind
   rw[e1,fC,fC,fL,lZ m r _ hr] at e0;have e2:(rs m fun i=>(if i=r then lam r - (rs m fun k=>if k=r then 0 else lam k*(at2 R k col / (d:Rat))) else lam i*(at2 R r col / (d:Rat)))*at2 R i (m+j))=rs m fun i=>(if i=r then (lam r - (rs m fun k=>if k=r then 0 else lam k*(at2 R k col / (d:Rat))))*at2 R r (m+j) else 0)+(if i=r then 0 else lam i*(at2 R r col / (d:Rat))*at2 R i (m+j)):=aT fun i _=>by
    by_cases e:i=r
    ·rw[if_pos e,if_pos e,if_pos e,e];grind
    ·rw[if_neg e,if_neg e,if_neg e];grind
   rw[e2,fC,lZ m r _ hr];grind)
  have other:∀k,k < m->k≠r->lam k=0:=fun k hk e=>by
   have:=key k hk;rw[if_neg e] at this;have n2:at2 R r col / (d:Rat)≠0:=fun z=>hn (by grind);grind
  by_cases e:i=r
  ·have:=key r hr;rw[if_pos rfl] at this;have z:(rs m fun k=>if k=r then 0 else lam k*(at2 R k col / (d:Rat)))=rs m fun _=>0:=aT fun k hk=>by
    by_cases e:k=r
    ·rw[if_pos e]
    ·rw[if_neg e,other k hk e];grind
   rw[z,eI] at this;rw[e];grind
  ·exact other i hi e
theorem LI.lame (h:LI m Aq R)(s:SI m w A0 R r m d sg)(hr:r < m):(∃k,k < m/\ent R (m - 1) (m+k)≠0)/\∀x,x < m->(rs m fun k=>at2 R (m - 1) (m+k)*Aq k x)=0:=by
 obtain⟨A,c,B,e⟩:=s.bar;refine⟨Classical.byContradiction fun n=>?_,fun x hx=>?_⟩
 ·have all:∀k,k < m->ent R (m - 1) (m+k)=0:=fun k hk=>Classical.byContradiction fun z=>n ⟨k,hk,z⟩;have:=h.ind (fun i=>if i=m - 1 then 1 else 0) (fun j hj=>by
   have:(rs m fun i=>(if i=m - 1 then (1:Rat) else 0)*at2 R i (m+j))=rs m fun _=>0:=aT fun i _=>by
    by_cases e:i=m - 1
    ·rw[if_pos e,e];have:at2 R (m - 1) (m+j)=0:=by unfold at2;rw[all j hj];simp
     rw[this];grind
    ·rw[if_neg e];grind
   rw[this,eI]) (m - 1) (by lia)
  rw[if_pos rfl] at this;grind
 ·rw[<- h.lin (m - 1) x (by lia) hx];exact B.i3 (m - 1) x (by lia) (by lia) hx
end Mq
namespace PySem
open Sem (wp)
section
variable {prog:Program} {w:World} {A:Around} {E:Value->Shared->Prop} {h:Heap} {g:Array GenState} {d:Drawn} {t:Nat} {os:OsState}
variable {nm q:Str} {C N f:Addr} {bs bm bmB:List Value} {hdct:Bool} {sn:List Str} {sub:List Value} {ab:Bool} {col:Option Bool} {dd:Option Addr} {k0 k1 k2 k3 k5:Option Value} {B Bn newId nid initId inN:String} {bmN:List Value}
abbrev fR (h:Heap)(C:Addr)(rest:List Value):Heap:=(h.push { cls:=.type "tuple",data:=.seq rest.toArray }).push { cls:=.ref C,data:=.fields #[.ref h.objs.size,.none,.none,.none,.bool false,.none] }
theorem uB (Fn:ExcBaseFacts Bn newId inN bmN)(hBn:bmB.contains (.type Bn)=true)(F:ExcBaseFacts B nid initId bmB)(T:OwnTail h bmB bm)(hC:h.get? C=some (excClassObj nm q C N bs bm hdct sn sub ab col dd k0 k1 k2 k3 k5 newId))(hl:W.Looks (model prog w) h (typeLookup (.ref C) "__init__") (some (.ref f)))(hb:∀self,W.Looks (model prog w) h (bindSpecial (.ref f) self) (.ref f,[self]))(hq:wpAny (model prog w) A (call (.ref f) (.ref (h.objs.size+1) :: rest)) (fun r s'=>r=.none/\Q (.done (.ret (.ref (h.objs.size+1)))) s') E ⟨fR h C rest,g,d,t,os⟩)(hrest:rest.length<=sizeLine):
  wpAny (model prog w) A (Builtin.«type.__call__» ⟨.ref C :: rest,[]⟩) Q E ⟨h,g,d,t,os⟩:=by
 repeat (first | with_reducible refine wpAny_loadPart_at hC ?_ | with_reducible refine wpAny_madeBy_exc hC ?_ | wp_step)
 refine codeAny_call_builtin_code (Code.quiet_builtin _ Fn.quiet) (wpAny_check_new_subU Fn hBn T hC ?_);refine codeAny_exc_new_subU Fn hBn F T hC ?_ hrest;show wpAny _ _ _ _ _ _;have k:∀b o,h.get? b=some o->(fR h C rest).get? b=some o:=fun b o e=>Heap.get?_push_of_some _ (Heap.get?_push_of_some _ e);have hC₁:=k _ _ hC;have hget:(fR h C rest).get? (h.objs.size+1)=some { cls:=.ref C,data:=.fields #[.ref h.objs.size,.none,.none,.none,.bool false,.none] }:=by
  have:=Heap.get?_push_size (h.push { cls:=.type "tuple",data:=.seq rest.toArray }) (o:={ cls:=.ref C,data:=.fields #[.ref h.objs.size,.none,.none,.none,.bool false,.none] }) rfl
  rwa [Heap.size_push] at this
 have hcC:(Value.ref C :: bm).contains (.ref C)=true:=by simp
 unfold isInstance
 repeat (first | with_reducible refine wpAny_loadPart_at hget ?_ | (with_reducible refine wpAny_isSubtype_exc hC₁ ?_;rw[hcC]) | wp_step)
 show wpAny _ _ (typeLookup (.ref C) _) _ _ _;refine(hl.keeps k).here ?_;refine wpAny_holding (wpAny_bind (((hb _).keeps k).here ?_));refine wpAny_bind (wpAny_mono hq (fun r s' z=>?_) fun _ _ z=>z);obtain⟨rfl,z⟩:=z;refine wpAny_pure ?_;exact wpAny_pure z
theorem Lm (Fn:ExcBaseFacts Bn newId inN bmN)(hBn:bmB.contains (.type Bn)=true)(F:ExcBaseFacts B nid initId bmB)(T:OwnTail h bmB bm)(hC:h.get? C=some (excClassObj nm q C N bs bm hdct sn sub ab col dd k0 k1 k2 k3 k5 newId))(hl:W.Looks (model prog w) h (typeLookup (.ref C) "__init__") (some (.ref f)))(hb:∀self,W.Looks (model prog w) h (bindSpecial (.ref f) self) (.ref f,[self]))(hq:wpAny (model prog w) (A.under (.builtin "type.__call__" ⟨.ref C :: rest,[]⟩)) (call (.ref f) (.ref (h.objs.size+1) :: rest)) (fun r s'=>r=.none/\Q (.ref (h.objs.size+1)) s') E ⟨fR h C rest,g,d,t,os⟩)(hrest:rest.length<=sizeLine):
  wpAny (model prog w) A (call (.ref C) rest) Q E ⟨h,g,d,t,os⟩:=by
 have f1:=tc_lookup;have f2:=tc_bind (.ref C);have hT:(⟨h,g,d,t,os⟩:Shared).TypeIs (.ref C) "type":=⟨_,hC,rfl⟩
 refine wpAny_call (codeAny_of_tree ?_);show wpAny _ _ (callAny (.ref C) _) _ _ _
 repeat (any_goals (first | assumption | with_reducible refine wpAny_loadPart_at hC ?_ | wp_step))
 refine⟨rfl,?_⟩;refine codeAny_call_builtin_at (Code.quiet_builtin _ (by decide +kernel)) entry_typeCall (wpAny_check_type_call_sub hC (uB Fn hBn F T hC hl hb ?_ hrest));exact hq
end
section
variable {M:Model} {A:Around} {E:Value->Shared->Prop} {env:Env}
variable {nm q:Str} {C N:Addr} {bs bm:List Value} {hdct:Bool} {sn:List Str} {sub:List Value} {ab:Bool} {col:Option Bool} {dd:Option Addr} {k0 k1 k2 k3 k5:Option Value} {newId:String}
theorem iE (hbase:bm.contains (.type "BaseException")=true)(hh:A.handled=none)(h:wpAny M A x (fun v s₁=>∃e t dx,v=.ref e/\s₁.heap.get? C=some (excClassObj nm q C N bs bm hdct sn sub ab col dd k0 k1 k2 k3 k5 newId)/\
   s₁.heap.get? e=some { cls:=.ref C,dict:=dx,data:=.fields #[.ref t,.none,.none,.none,.bool false,.none] }/\E (.ref e) s₁) E s):
  wpAny M A (raiseStmt env (some x) none) Q E s:=by
 have hcB:(Value.ref C :: bm).contains (.type "BaseException")=true:=by rw[contains_cons,hbase,Bool.or_true]
 unfold raiseStmt;refine wpAny_bind (wpAny_mono h (fun v s₁ h₁=>?_) fun _ _ x=>x);obtain⟨e,t,dx,rfl,hC,he,hE⟩:=h₁;obtain⟨hp,g,d,tk,os⟩:=s₁
 repeat (first | with_reducible refine wpAny_loadPart_at he ?_ | with_reducible refine wpAny_loadPart_at hC ?_ | (with_reducible refine wpAny_isSubtype_exc hC ?_;rw[hcB]) | wp_step)
 exact wpAny_raiseNew_none hh hE
end
section
variable {prog:Program} {w:World} {A:Around} {E:Value->Shared->Prop} {s:Shared} {env:Env}
variable {nm q:Str} {C N f:Addr} {bs bm bmB:List Value} {hdct:Bool} {sn:List Str} {sub:List Value} {ab:Bool} {col:Option Bool} {dd:Option Addr} {k0 k1 k2 k3 k5:Option Value} {B Bn newId nid initId inN:String} {bmN:List Value}
theorem Ek (Fn:ExcBaseFacts Bn newId inN bmN)(hBn:bmB.contains (.type Bn)=true)(F:ExcBaseFacts B nid initId bmB)(hbase:bm.contains (.type "BaseException")=true)(hh:A.handled=none)(hplain:(backTo cpos (starEach args env)).any (·.1)=false)(h:wpAny (model prog w) A (eval (.Name x np) env) (fun f' s₁=>f'=.ref C/\wpAny (model prog w) A (evalArgs (.ref C) true (backTo cpos (starEach args env)) [])
   (fun a s₂=>a.kw=[]/\a.pos.length<=sizeLine/\s₂.heap.get? C=some (excClassObj nm q C N bs bm hdct sn sub ab col dd k0 k1 k2 k3 k5 newId)/\OwnTail s₂.heap bmB bm/\
    W.Looks (model prog w) s₂.heap (typeLookup (.ref C) "__init__") (some (.ref f))/\(∀self,W.Looks (model prog w) s₂.heap (bindSpecial (.ref f) self) (.ref f,[self]))/\
    wpAny (model prog w) (A.under (.builtin "type.__call__" ⟨.ref C :: a.pos,[]⟩)) (call (.ref f) (.ref (s₂.heap.objs.size+1) :: a.pos)) (fun r s'=>r=.none/\∃t dx,s'.heap.get? C=some (excClassObj nm q C N bs bm hdct sn sub ab col dd k0 k1 k2 k3 k5 newId)/\
     s'.heap.get? (s₂.heap.objs.size+1)=some { cls:=.ref C,dict:=dx,data:=.fields #[.ref t,.none,.none,.none,.bool false,.none] }/\E (.ref (s₂.heap.objs.size+1)) s') E { s₂ with heap:=fR s₂.heap C a.pos }) E s₁) E s):
  wpAny (model prog w) A (exec (.Raise (some (.Call (.Name x np) args [] cpos)) none pos) env) Q E s:=by
 rw[arm_exec_Raise]
 first
  |refine wpAny_bind (wpAny_standAt (iE (C:=C) (nm:=nm) (q:=q) (N:=N) (bs:=bs) (bm:=bm) (hdct:=hdct) (sn:=sn) (sub:=sub) (ab:=ab) (col:=col) (dd:=dd) (k0:=k0) (k1:=k1) (k2:=k2) (k3:=k3) (k5:=k5) (newId:=newId) hbase hh (wpAny_bind (wpAny_mono (wpAny_Call_ofName (wpAny_mono h (fun f s₁ h₁=>?_) fun _ _ x=>x)) (fun v s₃ h₃=>wpAny_bind (wpAny_standAt (wpAny_pure h₃))) fun _ _ x=>x))))
  | (simp only[evalOpt,Option.map];refine wpAny_bind (wpAny_standAt (iE (C:=C) (nm:=nm) (q:=q) (N:=N) (bs:=bs) (bm:=bm) (hdct:=hdct) (sn:=sn) (sub:=sub) (ab:=ab) (col:=col) (dd:=dd) (k0:=k0) (k1:=k1) (k2:=k2) (k3:=k3) (k5:=k5) (newId:=newId) hbase hh (wpAny_bind (wpAny_mono (wpAny_Call_ofName (wpAny_mono h (fun f s₁ h₁=>?_) fun _ _ x=>x)) (fun v s₃ h₃=>wpAny_bind (wpAny_standAt (wpAny_pure h₃))) fun _ _ x=>x)))))
  | (refine wpAny_bind (wpAny_standAt (iE (C:=C) (nm:=nm) (q:=q) (N:=N) (bs:=bs) (bm:=bm) (hdct:=hdct) (sn:=sn) (sub:=sub) (ab:=ab) (col:=col) (dd:=dd) (k0:=k0) (k1:=k1) (k2:=k2) (k3:=k3) (k5:=k5) (newId:=newId) hbase hh ?_));refine wpAny_bind (wpAny_mono (wpAny_Call_ofName (wpAny_mono h (fun f s₁ h₁=>?_) fun _ _ x=>x)) (fun v s₃ h₃=>wpAny_bind (wpAny_standAt (wpAny_pure h₃))) fun _ _ x=>x))
 obtain⟨rfl,h₁⟩:=h₁;unfold callWith;refine wpAny_bind (wpAny_holding (wpAny_mono h₁ (fun a s₂ h₂=>wpAny_bind (wpAny_standAt ?_)) fun _ _ x=>x));obtain⟨apos,akw⟩:=a;obtain⟨hkw,hlen,hC,T,hl,hb,h₂⟩:=h₂;obtain rfl:akw=[]:=hkw;obtain⟨hp,g,d,tk,os⟩:=s₂;simp only[hplain];refine wpAny_bind (wpAny_keeperOf_exc hC ?_);refine wpAny_bind (Lm Fn hBn F T hC hl hb (wpAny_mono h₂ (fun r s' z=>?_) fun _ _ z=>z) hlen);obtain⟨rfl,t,dx,z1,z2,z3⟩:=z;exact⟨rfl,wpAny_bind (wpAny_holding (wpAny_point (wpAny_pure ⟨_,t,dx,rfl,z1,z2,z3⟩)))⟩
end
end PySem
namespace L2
open PySem PySem.Spec PyProof.Rows
def gS (a:Addr)(C:Value)(d:Option Addr):HO:=.ext fun h=>∃t,h.get? a=some { cls:=C,dict:=d,data:=.fields #[.ref t,.none,.none,.none,.bool false,.none] }
theorem pP (e:h.get? a=some { cls:=C,dict:=d,data:=.fields #[.ref t,.none,.none,.none,.bool false,.none] }):cN P w H h a (gS a C d):=
 ⟨⟨t,e⟩,⟨_,e⟩,fun h1 h2 ⟨t',e'⟩ k=>⟨t',k _ e'⟩⟩
def oP (H:Hp)(x:Addr):Hp:=fun b=>if b=x then none else H b
theorem jI (h:b≠x):oP H x b=H b:=by unfold oP;rw[if_neg h]
theorem Dh (H:Hp)(x:Addr):oP H x x=none:=by unfold oP;rw[if_pos rfl]
section
variable {X:Cx} {pins:List (Addr × Obj)} {σ:List (Option V)} {H:Hp} {s:Shared}
theorem Inv.forget (I:Inv X pins σ H s)(hx:H x=some (.ext φ)):Inv X pins σ (oP H x) s:=by
 have non:∀b,H b=none->oP H x b=none:=fun b e=>by unfold oP;split;rfl;exact e
 have keep:∀b u,H b=some u->u≠.ext φ->oP H x b=some u:=fun b u e n=>by
  have:b≠x:=fun z=>by rw[z,hx] at e;cases e;exact n rfl
  rw[jI this];exact e
 refine⟨I.ok,I.os,I.bare,⟨I.base.keep,I.base.slot,fun b o e1 e2 e3=>non b (I.base.free b o e1 e2 e3),I.base.there,fun b xs e=>keep b _ (I.base.tups b xs e) (fun z=>by cases z),fun b o u e=>keep b _ (I.base.frzs b o u e) (fun z=>by cases z),fun b ps e=>?_⟩,I.loc,I.cell,non _ I.free,fun y c e=>non _ (I.freeC y c e),fun p hp=>?_,fun b u e=>?_,I.len⟩
 ·obtain⟨more,q⟩:=I.base.tbls b ps e;exact⟨more,keep b _ q (fun z=>by cases z)⟩
 ·obtain⟨a1,a2,a3⟩:=I.pin p hp;exact⟨a1,non _ a2,a3⟩
 ·have ne:b≠x:=fun z=>by rw[z,Dh] at e;cases e
  rw[jI ne] at e;exact(I.hok b u e).stay (fun c v _ q=>q) (fun c q=>keep c _ q (fun z=>by cases z)) fun c xs q=>keep c _ q (fun z=>by cases z)
end
structure kN (K:Frag) (C C0 f:Addr):Prop where
 cls:∃(nm q:Str) (N:Addr) (bs:List Value) (sn:List Str) (sub:List Value) (ab:Bool) (col:Option Bool) (dd:Option Addr) (k0 k1 k2 k3 k5:Option Value),K.lookup C=some (excClassObj nm q C N bs (.ref C0 :: qY) true sn sub ab col dd k0 k1 k2 k3 k5 "ValueError.__new__")
 base:∃(nm q:Str) (N:Addr) (bs:List Value) (hdct:Bool) (sn:List Str) (sub:List Value) (ab:Bool) (col:Option Bool) (dd:Option Addr) (k0 k1 k2 k3 k5:Option Value),K.lookup C0=some (excClassObj nm q C0 N bs qY hdct sn sub ab col dd k0 k1 k2 k3 k5 "ValueError.__new__")
 exc:Nn K C0
 ini:W.findIn K (.ref C) "__init__"=some (some (.ref f))
 fn:W.typeIn K (.ref f)=some (.type "function")
theorem kN.tail {K:Frag}(e:kN K C C0 f)(X:K.In h):OwnTail h qY (.ref C0 :: qY):=by
 obtain⟨nm,q,N,bs,hdct,sn,sub,ab,col,dd,k0,k1,k2,k3,k5,l⟩:=e.base;have z:=e.exc;unfold Nn W.excIn at z;rw[l] at z;simp only[Bool.and_eq_true,beq_iff_eq,Bool.not_eq_true'] at z;obtain⟨⟨⟨⟨_,_⟩,ht⟩,hok⟩,hni⟩:=z;exact .own (X _ _ l) (.of_isNs (W.isNs_of_in X hok)) (W.nsMap_none_of_in X hok hni) .base
section
variable {X:Cx} {pins:List (Addr × Obj)} {σ:List (Option V)} {H:Hp} {s:Shared} {k:Nat} {f C C0:Addr} {fd:FuncData} {ps:List Str} {sp:Sp}
def Vc (C:Addr)(sp:Sp)(E:XK)(ta:TA):TS:=fun _ σ H=>ta σ H fun vs H1=>vs.length<=sizeLine/\∀x,H1 x=none->sp (.ref x :: vs) (upd H1 x (gS x (.ref C) none)) (fun v H2=>v=.non/\∃dx,H2 x=some (gS x (.ref C) dx)/\E (.ref C) dx (oP H2 x)) E0
theorem yP (fm:Frm X)(xo:Vi X E)(hc:X.calm=true)(hg:Gl X x)(hm:X.mg x=some (.ref C))(q:kN X.K C C0 f)(F:aK X.prog X.w X.K X.mg X.base CX0 k f fd ps sp)(hr:gH (k+1) X.A)(hb:aL X.K fd ps [])(ha:PA X (e₀ :: es) ta)(hdb:(x == ("__debug__":Str))=false:=by decide)(he:starEach (e₀ :: es) X.env=(false,eval e₀ X.env) :: starEach es X.env:=by rfl)(hpl:(backTo cpos (starEach es X.env)).any (·.1)=false:=by rfl):
  PS X (.Raise (some (.Call (.Name x np) (e₀ :: es) [] cpos)) none pos) (Vc C sp E ta):=by
 intro pins s σ H D I h;obtain⟨nm,qn,N,bs,sn,sub,ab,col,dd,k0,k1,k2,k3,k5,lC⟩:=q.cls;have FB:=PySem.F.excBase_ValueError;have T:=q.tail I.mod.kin;refine Ek (C:=C) (f:=f) (nm:=nm) (q:=qn) (N:=N) (bs:=bs) (bm:=.ref C0 :: qY) (hdct:=true) (sn:=sn) (sub:=sub) (ab:=ab) (col:=col) (dd:=dd) (k0:=k0) (k1:=k1) (k2:=k2) (k3:=k3) (k5:=k5)
  FB (by decide) FB (T.hasType FB.hasBase) (I.ok.hd hc) (by rw[he];show (false || (backTo cpos (starEach es X.env)).any (·.1))=false;rw[hpl];rfl) (iG I hg hm ⟨rfl,?_⟩ hdb)
 have ha':=ha cpos pins s σ H _ I h;rw[he] at ha' ⊢;refine Calls.evalArgs_plain (wpAny_mono ha' (fun us s2 h2=>?_) fun _ _ y=>y);obtain⟨vs,H1,I1,r,hz,q1⟩:=h2;have kIn:=I1.kIn;refine⟨rfl,by rw[<- r.length];exact hz,kIn _ _ lC,q.tail kIn,W.looks_findIn kIn q.ini,fun self=>W.bind_fn kIn self q.fn,?_⟩;dsimp only;have kh:∀b o,s2.heap.get? b=some o->(fR s2.heap C us).get? b=some o:=fun b o e=>Heap.get?_push_of_some _ (Heap.get?_push_of_some _ e);have hget:(fR s2.heap C us).get? (s2.heap.objs.size+1)=some { cls:=.ref C,data:=.fields #[.ref s2.heap.objs.size,.none,.none,.none,.bool false,.none] }:=by
  have:=Heap.get?_push_size (s2.heap.push { cls:=.type "tuple",data:=.seq us.toArray }) (o:={ cls:=.ref C,data:=.fields #[.ref s2.heap.objs.size,.none,.none,.none,.bool false,.none] }) rfl
  rwa [Heap.size_push] at this
 have fr:H1 (s2.heap.objs.size+1)=none:=I1.hok.fresh (Nat.le_succ _);have I2:Inv X pins σ (upd H1 (s2.heap.objs.size+1) (gS (s2.heap.objs.size+1) (.ref C) none)) { s2 with heap:=fR s2.heap C us }:=
  I1.laid (t':=s2.toks) kh (Nat.le_succ _) (pP hget)
 have hq:=q1 _ fr;have rv:bV (V.ref (s2.heap.objs.size+1) :: vs) (Value.ref (s2.heap.objs.size+1) :: us):=.cons rfl r;have hl:(Value.ref (s2.heap.objs.size+1) :: us++[]).length=ps.length:=by
  have e:=rv.length;rw[F.len _ _ _ _ hq] at e;rw[append_nil];exact e.symm
 refine wpAny_call (codeAny_mono (F.run _ X.stack _ _ ⟨Value.ref (s2.heap.objs.size+1) :: us,[]⟩ (Value.ref (s2.heap.objs.size+1) :: us) _ _ E0 (hr.make C us []) (I2.env0.make C us []) (by have:=hb _ (Value.ref (s2.heap.objs.size+1) :: us) I2.kIn hl;rwa [append_nil] at this) rv hq) fun res s' hq'=>?_)
 cases res with
 |error e=>exact(show False from hq').elim
 |ok fl=>
  cases fl with
  |ret u=>
   obtain⟨v,H',os,bare,un,hok,rvu,ev,dx,ex,q3⟩:=hq';subst ev;have J:Inv X pins σ H' s':=I2.call' (ch:=[]) os un hok bare fun b z=>absurd z (by simp);obtain⟨⟨t,ht⟩,_⟩:=(show cN X.prog X.w H' s'.heap _ (gS _ (.ref C) dx) from J.hok _ _ ex)
   refine⟨rvu,t,dx,J.kIn _ _ lC,ht,?_⟩;refine xo pins σ _ s' _ (.ref C) dx ⟨J.forget ex,s2.heap,fun p hp z=>?_,fun b o e=>I1.base.there b o e (by rw[fm.ex];simp),fun b o e=>un.there b o (kh b o e) (by simp),⟨Id (Nat.le_succ _),Dh _ _,_,_,.none,ht,rfl,rfl,rfl,rfl,.inl rfl⟩⟩ q3;rw[(I1.pin p hp).1] at z;cases z
  |next=>exact False.elim hq'
  |brk=>exact False.elim hq'
  |cont=>exact False.elim hq'
end
theorem Qa (h:H a=some o):upd H a o=H:=by
 funext b
 by_cases e:b=a
 ·rw[e,aB,h]
 ·rw[aQ e]
section
variable {X:Cx} {C C0 f:Addr}
theorem zY:kL X (.builtin "ValueError.__init__") (fun xs H Q=>∃a C C0 f d v,xs=[.ref a,v]/\H a=some (gS a (.ref C) d)/\kN X.K C C0 f/\Q .non H):=by
 intro pins s σ H xs us Q I r h;obtain⟨a,C,C0,f,d,v,rfl,ea,q,hq⟩:=h;obtain⟨u1,us',rfl,r1,r2⟩:∃u1 us',us=u1 :: us'/\cC (.ref a) u1/\bV [v] us':=by cases r with | cons p q=>exact⟨_,_,rfl,p,q⟩
 obtain rfl:u1=Value.ref a:=r1;obtain⟨⟨t,he⟩,_⟩:=(show cN X.prog X.w H s.heap a (gS a (.ref C) d) from I.hok a _ ea)
 obtain⟨nm,qn,N,bs,sn,sub,ab,col,dd,k0,k1,k2,k3,k5,lC⟩:=q.cls;have FB:=PySem.F.excBase_ValueError;have T:=q.tail I.kIn;have hl:us'.length=1:=r2.length.symm;have hC:=I.kIn _ _ lC;have fin:∀s',s'={ s with heap:=(s.heap.push { cls:=.type "tuple",data:=.seq us'.toArray }).update a (Obj.mapFields (·.setIfInBounds 0 (.ref s.heap.objs.size))) }->EP X pins σ Q .none s':=by
  rintro s' rfl;have I1:Inv X pins σ H { s with heap:=s.heap.push { cls:=.type "tuple",data:=.seq us'.toArray } }:=I.kept (t':=s.toks) fun b o e=>Heap.get?_push_of_some _ e;have he1:=Heap.get?_push_of_some (h:=s.heap) { cls:=.type "tuple",data:=.seq us'.toArray } he;have e2:=Heap.get?_update_self (Obj.mapFields (·.setIfInBounds 0 (.ref s.heap.objs.size))) he1 rfl;have I2:=I1.write (x:=a) (e:=a) (t':=s.toks) (o:=gS a (.ref C) d) (by rw[ea];exact True.intro) (.inl rfl) (fun b u nb e=>(Heap.get?_update_other _ _ (Ne.symm nb)).trans e) ⟨_,e2⟩ (pP (t:=s.heap.objs.size) e2);rw[Qa ea] at I2;exact⟨.non,H,I2,rfl,hq⟩
 obtain⟨hp,g,dr,tk,os⟩:=s;refine wpAny_call (codeAny_call_builtin FB.init.plain FB.initEntry (wpAny_check_init_subU FB T hC he rfl ?_));unfold Builtin.«BaseException.__init__»;dsimp only;rw[if_neg (by simp)];unfold newTuple Builtin.BaseException.bexcPut;have he₁:=Heap.get?_push_of_some (h:=hp) { cls:=.type "tuple",data:=.seq us'.toArray } he;refine wpAny_bind (wpAny_newObj_type (wpAny_bind (wpAny_bind (wpAny_field he₁ rfl rfl (wpAny_bind (wpAny_setField he₁ rfl (show 0 < 6 by decide) ?_))))) (by show us'.toArray.size<=sizeLine;rw[size_toArray,hl];decide));exact wpAny_letGo (wpAny_pure (fin _ rfl))
structure Nh (K:Frag) (C0:Addr):Prop where
 sp:W.specialIn K (.ref C0) "__getattribute__"=some (some (.builtin "type.__getattribute__"))
 rd:W.readsIn K C0 (.type "type")=true
 fi:W.findCls K (.ref C0) (.type "type") "__init__"=some (.val (.builtin "ValueError.__init__"))
def Rf (K:Frag)(ta:TA):TE:=fun σ H Q=>ta σ H fun vs H1=>∃a C C0 f d v,vs=[.ref a,v]/\H1 a=some (gS a (.ref C) d)/\kN K C C0 f/\Q .non H1
theorem Fp (hg:Gl X x)(hm:X.mg x=some (.ref C0))(c:Nh X.K C0)(ha:PA X (e :: es) t)(hdb:(x == ("__debug__":Str))=false:=by decide)(hst:starEach (e :: es) X.env=(false,eval e X.env) :: starEach es X.env:=by rfl)(hpl:(backTo pos (starEach es X.env)).any (·.1)=false:=by rfl)(ht:eval (.Call (.Attribute (.Name x np) "__init__" apos) (e :: es) [] pos) X.env=(do
   let ov <- eval (.Name x np) X.env
   standAt apos.atName
   let (f,first) <- holding [ov] (getMethod ov "__init__" pl)
   callWith pos f first (backTo pos (starEach (e :: es) X.env)) (backToKw pos (keywordEach [] X.env))):=by rfl):
  PE X (.Call (.Attribute (.Name x np) "__init__" apos) (e :: es) [] pos) (Rf X.K t):=by
 intro pins s σ H Q I h;refine W.methodCall_KW (pl:=pl) (iG I hg hm ?_ hdb) ht;refine W.method_cls I.kIn c.sp (W.cls_value I.kIn c.rd c.fi rfl ?_);have I':Inv X pins σ H { s with toks:=s.toks+1 }:=I.tok _;exact PyProof.Rows.callWith_builtin1 (thn (ha pos pins _ σ H _ I' h) fun us s1 ⟨vs,H1,I1,r1,q1⟩=>zY pins s1 σ H1 vs us Q I1 r1 q1) hst hpl
end
section
variable {prog:Program} {w:World} {A:Around} {E:Value->Shared->Prop} {s:Shared} {K:Frag} {x C C0 f:Addr} {name:Str} {v:Value} {vs:Array Value}
theorem kN.cin (q:kN K C C0 f):∃cd,W.clsIn K C=some cd/\cd.mro=.ref C :: .ref C0 :: qY/\cd.hasDict=true:=by
 obtain⟨nm,qn,N,bs,sn,sub,ab,col,dd,k0,k1,k2,k3,k5,lC⟩:=q.cls;unfold W.clsIn;rw[lC];exact⟨_,rfl,rfl,rfl⟩
theorem Ja (X:K.In s.heap)(q:kN K C C0 f)(hx:s.heap.get? x=some { cls:=.ref C,data:=.fields vs })(hs:W.findIn K (.ref C) "__setattr__"=some (some (.builtin "object.__setattr__")))(hn:W.findIn K (.ref C) name=some none)(h:∀h',h'.get? x=some { cls:=.ref C,dict:=some s.heap.objs.size,data:=.fields vs }->h'.Ns1 s.heap.objs.size (fun y=>if y=name then some v else none)->(∀b o,b≠x->s.heap.get? b=some o->h'.get? b=some o)->∀tk,Q () { s with heap:=h',toks:=tk }):
  wpAny (model prog w) A (setAttr (.ref x) name v) Q E s:=by
 have J:W.InstAt s.heap x { cls:=.ref C,data:=.fields vs } C none:=⟨hx,rfl,rfl,trivial⟩
 have SF:=PySem.F.store_object;have SV:=PySem.F.store_ValueError;obtain⟨cd,hc,hm,hd⟩:=q.cin;refine W.set_plain X J hs ?_;have sub:W.Looks (model prog w) s.heap (isInstance (.ref x) (.type "object")) true:=J.type.andThen (W.looks_mroIn X (by unfold W.mroIn;rw[hc,Option.bind_some,hm];rfl));refine codeAny_call_builtin SF.slot.plain SF.entry (@W.check_slot (model prog w) _ _ { s with toks:=s.toks+1 } "object.__setattr__" "object" "__setattr__" (.ref x) [.str name s.toks,v] [] _ SF.kind SF.split sub (SF.args (.ref x) (.str name s.toks) v) ?_);have hmro:W.Looks (model prog w) s.heap (mroOf (.ref C)) cd.mro:=(W.looks_clsIn X hc).andThen .now;rw[W.osa_eq,refuse_eq];refine wpAny_bind (wpAny_bind (W.Looks.here (s:={ s with toks:=s.toks+1 }) J.type (wpAny_bind (W.Looks.here (s:={ s with toks:=s.toks+1 }) hmro ?_))));rw[hm,refuseLoop_ref,refuseLoop_ref,SV.passes];refine wpAny_pure (wpAny_bind (W.Looks.here (s:={ s with toks:=s.toks+1 }) J.type (wpAny_bind (W.Looks.here (s:={ s with toks:=s.toks+1 }) (W.looks_findIn X hn) (wpAny_bind (wpAny_pure ?_))))));dsimp only;refine wpAny_bind (wpAny_pure (wpAny_bind (wpAny_bind (wpAny_loadPart hx (wpAny_bind (W.Looks.here (s:={ s with toks:=s.toks+1 }) (W.looks_clsIn X hc) ?_))))));rw[hd,if_neg (by decide)];dsimp only;rw[if_neg (by simp[typeHasDict])];have hx₁:(s.heap.push { cls:=.type "dict",data:=.dict #[] }).get? x=some { cls:=.ref C,data:=.fields vs }:=Heap.get?_push_of_some _ hx;have hxs:x≠s.heap.objs.size:=Nat.ne_of_lt (Heap.lt_size hx);refine wpAny_bind (wpAny_alloc' ?_);refine wpAny_bind (wpAny_update' hx₁ ?_);refine wpAny_pure ?_;have hgd:((s.heap.push { cls:=.type "dict",data:=.dict #[] }).update x fun o=>{ cls:=o.cls,dict:=some s.heap.objs.size,data:=o.data,slots:=o.slots }).get? s.heap.objs.size
   = some { cls:=.type "dict",data:=.dict #[] }:=
  (Heap.get?_update_ne _ _ _ _ hxs.symm).trans (Heap.get?_push_at rfl rfl)
 have hnd:((s.heap.push { cls:=.type "dict",data:=.dict #[] }).update x fun o=>{ cls:=o.cls,dict:=some s.heap.objs.size,data:=o.data,slots:=o.slots }).Ns s.heap.objs.size (fun _=>none):=
  ⟨_,#[],_,hgd,rfl,fun e he=>absurd he (by simp),fun _=>rfl⟩
 show wpAny _ _ (Builtin.ObjectAttr.storeInDict s.heap.objs.size (.str name s.toks) name v) _ _ _;unfold Builtin.ObjectAttr.storeInDict Builtin.ObjectAttr.newKeyGuard;refine wpAny_bind (wpAny_pure (wpAny_bind (wpAny_nsSet1 (Heap.Ns1.of_empty hnd) fun h' hn' hs'=>?_)));obtain⟨oD,esD,epD,hoD,hdD,hcD⟩:=hn'.count (Within.cons name v Within.nil);refine wpAny_bind (wpAny_lookBehind hoD (by rw[hdD];exact pastItsLine_dict (Nat.le_trans hcD (by rw[length_cons,length_nil,sizeLine_eq];lia))) ?_);refine wpAny_pure ?_;refine h h' ?_ ?_ (fun b o nb e=>(hs'.2 b (Nat.ne_of_lt (Heap.lt_size e))).trans ((Heap.get?_update_ne _ _ _ _ nb).trans (Heap.get?_push_of_some _ e))) _
 ·exact(hs'.2 x hxs).trans (Heap.get?_update_self _ hx₁ rfl)
 ·exact hn'
end
section
variable {X:Cx} {o value:Expr} {nm:Str} {pos pos':Pos} {ta tv:TE}
structure Ae (K:Frag) (C:Addr) (nm:Str):Prop where
 sa:W.findIn K (.ref C) "__setattr__"=some (some (.builtin "object.__setattr__"))
 no:W.findIn K (.ref C) nm=some none
def qg8 (K:Frag)(ta tv:TE)(nm:Str):TS:=fun D σ H=>tv σ H fun y H1=>ta σ H1 fun x H2=>∃a C C0 f,x=.ref a/\H2 a=some (gS a (.ref C) none)/\kN K C C0 f/\Ae K C nm/\
 ∀dx,H2 dx=none->D.nx σ (upd (upd H2 dx (.xd [(nm,y)])) a (gS a (.ref C) (some dx)))
theorem Tq (ha:PE X o ta)(hv:PE X value tv)(hs:swapsWith value (some (.Attribute o nm pos')) pos.line X.env=pure false):PS X (.Assign [.Attribute o nm pos'] value pos) (qg8 X.K ta tv nm):=by
 intro pins s σ H D I h;refine plainObj_wpAny_Assign_Attribute (thn (hv pins s σ H _ I h) fun u s1 ⟨y,H1,I1,ry,q⟩=>thn (ha pins s1 σ H1 _ I1 q) fun ov s2 ⟨x,H2,I2,rx,a,C,C0,f,ex,ea,qi,qf,q2⟩=>?_) hs;subst ex;obtain rfl:ov=Value.ref a:=rx;obtain⟨⟨t,he⟩,_⟩:=(show cN X.prog X.w H2 s2.heap a (gS a (.ref C) none) from I2.hok a _ ea)
 refine Ja I2.kIn qi he qf.sa qf.no fun h' e1 e2 e3 tk=>?_;have fr:H2 s2.heap.objs.size=none:=I2.hok.fresh (Nat.le_refl _);refine⟨σ,_,?_,q2 _ fr⟩;have na:a≠s2.heap.objs.size:=Nat.ne_of_lt (Heap.lt_size he);have u1:=Heap.get?_update_self (fun _:Obj=>({ cls:=.ref C,data:=.fields #[.ref t,.none,.none,.none,.bool false,.none] }:Obj)) e1 rfl;have u2:∀b,b≠a->(h'.update a fun _:Obj=>({ cls:=.ref C,data:=.fields #[.ref t,.none,.none,.none,.bool false,.none] }:Obj)).get? b=h'.get? b:=fun b nb=>Heap.get?_update_other _ _ (Ne.symm nb);generalize h'.update a (fun _:Obj=>({ cls:=.ref C,data:=.fields #[.ref t,.none,.none,.none,.bool false,.none] }:Obj))=h1 at u1 u2;have I3:Inv X pins σ (upd H2 s2.heap.objs.size (.xd [(nm,y)])) { s2 with heap:=h1,toks:=s2.toks }:=by
  refine I2.laid (a:=s2.heap.objs.size) (o:=.xd [(nm,y)]) (h':=h1) (t':=s2.toks) (fun b u e=>?_) (Nat.le_refl _) ?_
  ·by_cases nb:b=a
   ·subst nb;rw[he] at e;cases e;exact u1
   ·rw[u2 b nb];exact e3 b u nb e
  ·obtain⟨od,es,ep,z1,z2⟩:=e2;refine⟨_,⟨od,es,ep,(u2 _ (Ne.symm na)).trans z1,z2⟩,fun g=>?_⟩
   by_cases gg:g=nm
   ·subst gg;rw[if_pos rfl,lookup_cons,beq_self_eq_true];exact ry
   ·have:(g == nm)=false:=beq_eq_false_iff_ne.mpr gg;rw[if_neg gg,lookup_cons,this];exact True.intro
 have ea3:upd H2 s2.heap.objs.size (.xd [(nm,y)]) a=some (gS a (.ref C) none):=by rw[aQ na];exact ea
 exact I3.write (x:=a) (e:=a) (h':=h') (t':=tk) (by rw[ea3];exact True.intro) (.inl rfl) (fun b u nb z=>by rw[<- u2 b nb];exact z) ⟨_,e1⟩ (pP e1)
end
section
variable {X:Cx} {o:Expr} {nm:Str} {pos:Pos} {ta:TE}
inductive Oq (K:Frag) (nm:Str) (Q:VK) (x:V) (H1:Hp):Prop where
 |mk (a C dx fs v):x=.ref a->H1 a=some (jN a (.ref C) (some dx))->H1 dx=some (.xd fs)->wU K C->W.hasDictIn K C=true->W.findIn K (.ref C) nm=some none->fs.lookup nm=some v->Q v H1->Oq K nm Q x H1
def qk2 (K:Frag)(ta:TE)(nm:Str):TE:=fun σ H Q=>ta σ H fun x H1=>Oq K nm Q x H1
theorem Al (he:PE X o ta)(hb:attributeBase o nm X.env (eval o X.env)=eval o X.env):PE X (.Attribute o nm pos) (qk2 X.K ta nm):=by
 intro pins s σ H Q I h;refine Jg hb (thn (he pins s σ H _ I h) fun u s1 ⟨x,H1,I1,rx,a,C,dx,fs,v,ex,ea,ed,k,hh,hn,l,q⟩=>?_);subst ex;obtain rfl:u=Value.ref a:=rx;obtain⟨⟨ob,vs,h1,h2,h3,h4⟩,_⟩:=(show cN X.prog X.w H1 s1.heap a (jN a (.ref C) (some dx)) from I1.hok a _ ea)
 obtain⟨mA,N1,r⟩:=(show cN X.prog X.w H1 s1.heap dx (.xd fs) from I1.hok dx _ ed)
 obtain⟨w',hw,rw'⟩:=jY.some_of (v:=v) (o:=mA nm) (by rw[<- l];exact r nm);obtain⟨od,ho,hl⟩:=qQ N1;have J:W.InstAt s1.heap a ob C (some od):=⟨h1,h2,by unfold W.notCls;rw[h4],by rw[h3];exact ho⟩
 unfold getAttr;refine wpAny_bind (wpAny_mkText (Ow (s:={ s1 with toks:=s1.toks+1 }) k I1.kIn J (yA rw') (.inl (W.findObj_own hh hn rfl (by rw[hl,hw]))) ?_));exact⟨v,H1,I1.tok _,rw',q⟩
end
end L2
namespace Shp
open PySem L2
inductive Fmd (K:Frag) (H0:Hp) (D:Addr) (H:Hp):List V->List (List Mq.Q2)->Prop where
 |nil:Fmd K H0 D H [] []
 |cons {u:Addr} {xs:List V} {ps:List Mq.Q2} {us:List V} {X:List (List Mq.Q2)} (n0:H0 u=none) (ne:u≠D) (h:H u=some (.lst xs)) (f:Fqs K H xs ps) (q:Fmd K H0 D H us X):Fmd K H0 D H (.ref u :: us) (ps :: X)
theorem Fmd.same (e:aS H H'):∀{xs:List V} {X:List (List Mq.Q2)},Fmd K H0 D H xs X->Fmd K H0 D H' xs X
 |_,_,.nil=>.nil
 |_,_,.cons n0 n h f q=>.cons n0 n (e _ _ h) (f.same e) (q.same e)
theorem Fmd.length:∀{xs:List V} {X:List (List Mq.Q2)},Fmd K H0 D H xs X->xs.length=X.length
 |_,_,.nil=>rfl
 |_,_,.cons _ _ _ _ q=>by rw[length_cons,length_cons,q.length]
def rH (X:List (List Mq.Q2)):Mat:=fun i j=>Mq.val ((X.getD i []).getD j Mq.z0)
def oB (m i:Nat)(row:List Mq.Q2):List Int:=iw row++(List.range m).map fun c=>if c=i then eJ row else 0
def kH (X:List (List Mq.Q2)):List (List Int):=X.mapIdx fun i row=>oB X.length i row
theorem Ps (X:List (List Mq.Q2)):(kH X).length=X.length:=by unfold kH;simp
theorem wG (h:i < X.length):(kH X).getD i []=oB X.length i (X.getD i []):=by
 unfold kH;rw[getD_eq_getElem?_getD,getElem?_mapIdx,getD_eq_getElem?_getD,getElem?_eq_getElem h];rfl
theorem wW {X:List (List Mq.Q2)}(h:i < X.length):X[i]?=some (X.getD i []):=by rw[getD_eq_getElem?_getD,getElem?_eq_getElem h];rfl
theorem Dg (m i:Nat)(row:List Mq.Q2):(oB m i row).length=row.length+m:=by unfold oB;simp[wJ]
theorem yI (hX:fQ X)(hw:∀row∈X,row.length=X.length)(hi:i < X.length)(hx:x < X.length):Mq.at2 (kH X) i x=((eJ (X.getD i []):Int):Rat)*rH X i x:=by
 have mem:=mem_of_getElem? (wW hi);show ((((kH X).getD i []).getD x 0:Int):Rat)=_;rw[wG hi];unfold oB;have l:=hw _ mem;rw[getD_eq_getElem?_getD,getElem?_append_left (by rw[wJ];lia),<- getD_eq_getElem?_getD];exact Oy (hX _ mem) (by lia)
theorem wH (hw:∀row∈X,row.length=X.length)(hi:i < X.length)(hk:k < X.length):ent (kH X) i (X.length+k)=if k=i then eJ (X.getD i []) else 0:=by
 have mem:=mem_of_getElem? (wW hi);unfold ent;rw[wG hi];unfold oB;have l:=hw _ mem;rw[getD_eq_getElem?_getD,getElem?_append_right (by rw[wJ];lia),wJ,l,Nat.add_sub_cancel_left,getElem?_map,getElem?_range hk];rfl
theorem Wa (hX:fQ X)(hw:∀row∈X,row.length=X.length):Mq.LI X.length (rH X) (kH X) where
 lin:=fun i x hi hx=>by
  rw[yI hX hw hi hx];have:(Mq.rs X.length fun k=>Mq.at2 (kH X) i (X.length+k)*rH X k x)=Mq.rs X.length fun k=>if k=i then ((eJ (X.getD i []):Int):Rat)*rH X i x else 0:=aT fun k hk=>by
   show ((ent (kH X) i (X.length+k):Int):Rat)*_=_;rw[wH hw hi hk]
   by_cases e:k=i
   ·rw[if_pos e,if_pos e,e]
   ·rw[if_neg e,if_neg e];simp
  rw[this,Mq.lZ _ _ _ hi]
 ind:=fun lam hz i hi=>by
  have e:=hz i hi;have:(Mq.rs X.length fun j=>lam j*Mq.at2 (kH X) j (X.length+i))=Mq.rs X.length fun j=>if j=i then lam i*((eJ (X.getD i []):Int):Rat) else 0:=aT fun k hk=>by
   show _*((ent (kH X) k (X.length+i):Int):Rat)=_;rw[wH hw hk hi]
   by_cases e:k=i
   ·rw[if_pos e,if_pos e.symm,e]
   ·rw[if_neg e,if_neg (Ne.symm e)];simp
  rw[this,Mq.lZ _ _ _ hi] at e;have g:=sZ (hX _ (mem_of_getElem? (wW hi)));have n:=dS (show eJ (X.getD i [])≠0 by lia);grind
theorem Uu (h:∀i j,i < X.length->j < X.length->Mq.at2 R i j=((eJ (X.getD i []):Int):Rat)*rH X i j):Mq.det X.length (Mq.at2 R)=((sI X:Int):Rat)*wgt X:=by
 unfold wgt;have hb:=qT X X.length (Nat.le_refl _);rw[take_length] at hb;rw[hb,<- qU];exact cP fun i j hi hj=>h i j hi hj
theorem Of (hX:fQ X)(hR:Mq.det X.length (Mq.at2 R)=((sI X:Int):Rat)*wgt X)(h:SI X.length w (Mq.at2 R) R' r X.length d sg):(r < X.length/\wgt X=0)\/(r=X.length/\wgt X≠0):=by
 have b1:=Bk hX X.length (Nat.le_refl _);rw[take_length] at b1;have bn:=dS (show sI X≠0 by lia);obtain⟨A,c,B,e⟩:=h.bar;have rm:=B.rm;have dn:=B.dne;clear B
 by_cases hr:r < X.length
 ·left
  have e:=h.lame hr;rw[hR] at e;exact⟨hr,by grind⟩
 ·right
  have er:r=X.length:=by lia
  subst er;refine⟨rfl,fun z=>?_⟩;have e:=h.whole;rw[hR,z] at e;rcases h.one with q | q
  ·rw[q] at e;simp at e;grind
  ·rw[q,Rat.intCast_neg] at e;simp at e;grind
structure Stp (m w:Nat) (A0:Mat) (Pr:List (List Int)->Prop):Prop where
 sw:∀R r col d sg p,SI m w A0 R r col d sg->r < p->p < m->Pr R->Pr (fK R p r)
 cl:∀R r col d sg,SI m w A0 R r col d sg->r < m->col < w->ent R r col≠0->Pr R->Pr (cK R r col d)
theorem qa6:Stp m w A0 (Mq.LI m Aq):=
 ⟨fun R r col d sg p s h1 h2 h=>h.swap s.len h2 (by lia),fun R r col d sg s h1 h2 h3 h=>h.clear s h1 h2 h3⟩
end Shp
namespace Mq
theorem Pc {row:List Q2}(h:j < row.length):row[j]?=some (row.getD j z0):=by rw[getD_eq_getElem?_getD,getElem?_eq_getElem h];rfl
end Mq
namespace Shp
open PySem L2
theorem Fmd.get:∀{xs:List V} {X:List (List Mq.Q2)} {i:Nat} {x:V},Fmd K H0 D H xs X->xs[i]?=some x->∃u ys ps,x=.ref u/\X[i]?=some ps/\H0 u=none/\u≠D/\H u=some (.lst ys)/\Fqs K H ys ps
 |_,_,0,_,.cons n0 n h f q,e=>by simp at e;exact⟨_,_,_,e.symm,rfl,n0,n,h,f⟩
 |_,_,i+1,_,.cons n0 n h f q,e=>by simp at e;exact q.get e
end Shp
namespace Mq
def KI (m:Nat)(A0:Mat)(R:List (List Int)):Prop:=∀Φ,Lin Φ->(∀k,k < m->Φ (at2 R k)=0)->∀i,i < m->Φ (A0 i)=0
theorem KI.swap (h:KI m A0 R)(hl:R.length=m)(hp:p < m)(hr:r < m):KI m A0 (fK R p r):=fun Φ lin hz=>by
 refine h Φ lin fun k hk=>?_;have e:at2 R k=at2 (fK R p r) (sw p r k):=by
  funext x
  rw[rN (by lia) (by lia),Qo]
 rw[e];exact hz _ (zW hp hr hk)
theorem KI.clear (h:KI m A1 R)(s:SI m w A0 R r col d sg)(hr:r < m)(hc:col < w)(he:ent R r col≠0):KI m A1 (cK R r col d):=fun Φ lin hz=>by
 have dn:=s.dne;have hn:at2 R r col≠0:=fun z=>he (Rat.intCast_inj.mp (by unfold at2 at z;simpa using z));have cl:=fun (i:Nat) (hi:i < m) (x:Nat)=>tK s hr hc he hi x;have zr:Φ (at2 R r)=0:=by
  have e:at2 R r=at2 (cK R r col d) r:=by funext x;rw[cl r hr x,if_pos rfl]
  rw[e];exact hz r hr
 refine h Φ lin fun k hk=>?_
 by_cases e:k=r
 ·rw[e];exact zr
 ·have e2:at2 R k=fun x=>(fun x=>((d:Rat) / at2 R r col)*at2 (cK R r col d) k x) x+(at2 R k col / at2 R r col)*at2 R r x:=by
   funext x
   show _=((d:Rat) / at2 R r col)*at2 (cK R r col d) k x+_;rw[cl k hk x,if_neg e];grind
  rw[e2,lin,lin.mul,hz k hk,zr];grind
theorem KI.whole (h:KI m A1 R)(s:SI m w A0 R m m d sg)(hi:i < m):(rs m fun k=>A1 i k*(at2 R k m / (d:Rat)))=A1 i m:=by
 obtain⟨A,c,B,e⟩:=s.bar;have dn:=B.dne;have:=h (fun f=>(rs m fun k=>f k*(at2 R k m / (d:Rat))) - f m) (fun x y l=>by
  have:(rs m fun k=>(x k+l*y k)*(at2 R k m / (d:Rat)))=(rs m fun k=>x k*(at2 R k m / (d:Rat))+l*(y k*(at2 R k m / (d:Rat)))):=aT fun k _=>by grind
  show (rs m fun k=>(x k+l*y k)*(at2 R k m / (d:Rat))) - (x m+l*y m)=((rs m fun k=>x k*(at2 R k m / (d:Rat))) - x m)+l*((rs m fun k=>y k*(at2 R k m / (d:Rat))) - y m)
  rw[this,fC,fL];grind) (fun k hk=>by
  have:(rs m fun j=>at2 R k j*(at2 R j m / (d:Rat)))=rs m fun j=>if j=k then (d:Rat)*(at2 R k m / (d:Rat)) else 0:=aT fun j hj=>by
   have i2:=B.i2 k j hk hj;rw[B.full rfl j hj] at i2;rw[i2]
   by_cases z:j=k
   ·rw[if_pos z,if_pos z,z]
   ·rw[if_neg z,if_neg z];grind
  show (rs m fun j=>at2 R k j*(at2 R j m / (d:Rat))) - at2 R k m=0;rw[this,lZ m k _ hk];grind) i hi
 have e2:(rs m fun k=>A1 i k*(at2 R k m / (d:Rat))) - A1 i m=0:=this;grind
end Mq
namespace Shp
open PySem L2
def mQ (X:List (List Mq.Q2))(qs:List Mq.Q2):List (List Mq.Q2):=zipWith (fun row q=>row++[q]) X qs
def iQ (X:List (List Mq.Q2))(qs:List Mq.Q2):List (List Int):=(mQ X qs).map iw
section
variable {X:List (List Mq.Q2)} {qs:List Mq.Q2}
theorem pK (hl:qs.length=X.length):(mQ X qs).length=X.length:=by unfold mQ;simp[hl]
theorem Eg (hl:qs.length=X.length):(iQ X qs).length=X.length:=by unfold iQ;rw[length_map,pK hl]
theorem pX (hl:qs.length=X.length)(hi:i < X.length):(mQ X qs).getD i []=X.getD i []++[qs.getD i Mq.z0]:=by
 unfold mQ;rw[getD_eq_getElem?_getD,getElem?_zipWith,wW hi,Mq.Pc (show i < qs.length by lia)];rfl
theorem uW (hl:qs.length=X.length)(hi:i < X.length):(iQ X qs).getD i []=iw (X.getD i []++[qs.getD i Mq.z0]):=by
 unfold iQ;rw[getD_eq_getElem?_getD,getElem?_map,wW (X:=mQ X qs) (by rw[pK hl];exact hi),pX hl hi];rfl
theorem tV (hX:fQ X)(hq:Mq.Pos qs)(hl:qs.length=X.length)(hi:i < X.length):Mq.Pos (X.getD i []++[qs.getD i Mq.z0]):=fun p hp=>by
 rcases mem_append.mp hp with z | z
 ·exact hX _ (mem_of_getElem? (wW hi)) p z
 ·have e:p=qs.getD i Mq.z0:=by simpa using z
  rw[e];exact Mq.Py hq i
theorem Hf (hX:fQ X)(hq:Mq.Pos qs)(hl:qs.length=X.length):fQ (mQ X qs):=fun row hr=>by
 obtain⟨i,hi,rfl⟩:=getElem_of_mem hr;have hi':i < X.length:=by rw[pK hl] at hi;exact hi
 have e:=pX hl hi';rw[getD_eq_getElem?_getD,getElem?_eq_getElem hi] at e;have e':(mQ X qs)[i]=X.getD i []++[qs.getD i Mq.z0]:=e;rw[e'];exact tV hX hq hl hi'
theorem uU (hX:fQ X)(hq:Mq.Pos qs)(hl:qs.length=X.length)(hw:∀row∈X,row.length=X.length)(hi:i < X.length)(hx:x < X.length+1):
  Mq.at2 (iQ X qs) i x=((eJ ((mQ X qs).getD i []):Int):Rat)*if x < X.length then rH X i x else Mq.val (qs.getD i Mq.z0):=by
 have l:=hw _ (mem_of_getElem? (wW hi));show ((((iQ X qs).getD i []).getD x 0:Int):Rat)=_;rw[uW hl hi,pX hl hi,Oy (tV hX hq hl hi) (by rw[List.length_append,l];simpa using hx)];congr 1
 by_cases h:x < X.length
 ·rw[if_pos h,getD_eq_getElem?_getD,getElem?_append_left (by rw[l];exact h),<- getD_eq_getElem?_getD];rfl
 ·have ex:x=X.length:=by lia
  rw[if_neg h,getD_eq_getElem?_getD,getElem?_append_right (by rw[l];lia),l,ex,Nat.sub_self];rfl
theorem Wo (hX:fQ X)(hq:Mq.Pos qs)(hl:qs.length=X.length)(hw:∀row∈X,row.length=X.length):Mq.det X.length (Mq.at2 (iQ X qs))=((sI (mQ X qs):Int):Rat)*wgt X:=by
 unfold wgt;have hb:=qT (mQ X qs) (mQ X qs).length (Nat.le_refl _);rw[take_length,pK hl] at hb;rw[hb,<- qU];refine cP fun i j hi hj=>?_;rw[uU hX hq hl hw hi (by lia),if_pos hj];rfl
theorem Ks (fn:f≠0)(hR:Mq.det X.length (Mq.at2 R)=f*wgt X)(h:SI X.length w (Mq.at2 R) R' r X.length d sg):(r < X.length/\wgt X=0)\/(r=X.length/\wgt X≠0):=by
 obtain⟨A,c,B,e⟩:=h.bar;have rm:=B.rm;have dn:=B.dne;clear B
 by_cases hr:r < X.length
 ·left
  have e:=h.lame hr;rw[hR] at e;exact⟨hr,by grind⟩
 ·right
  have er:r=X.length:=by lia
  subst er;refine⟨rfl,fun z=>?_⟩;have e:=h.whole;rw[hR,z] at e;rcases h.one with q | q
  ·rw[q] at e;simp at e;grind
  ·rw[q,Rat.intCast_neg] at e;simp at e;grind
theorem Na (hX:fQ X)(hq:Mq.Pos qs)(hl:qs.length=X.length)(hw:∀row∈X,row.length=X.length)(h:SI X.length w (Mq.at2 (iQ X qs)) R' r X.length d sg):(r < X.length/\wgt X=0)\/(r=X.length/\wgt X≠0):=by
 have b1:=Bk (Hf hX hq hl) (mQ X qs).length (Nat.le_refl _);rw[take_length] at b1;exact Ks (dS (show sI (mQ X qs)≠0 by lia)) (Wo hX hq hl hw) h
end
structure Slv (X:List (List Mq.Q2)) (qs ps:List Mq.Q2):Prop where
 len:ps.length=X.length
 low:jM ps
 bd:∀p∈ps,Mq.Bd 9000 p
 sum:∀i,i < X.length->(Mq.rs X.length fun j=>rH X i j*Mq.val (ps.getD j Mq.z0))=Mq.val (qs.getD i Mq.z0)
theorem qe1 (hX:fQ X)(hq:Mq.Pos qs)(hl:qs.length=X.length)(hw:∀row∈X,row.length=X.length)(h:Mq.KI X.length (Mq.at2 (iQ X qs)) R)(s:SI X.length w (Mq.at2 (iQ X qs)) R X.length X.length d sg)(hi:i < X.length):(Mq.rs X.length fun j=>rH X i j*(Mq.at2 R j X.length / (d:Rat)))=Mq.val (qs.getD i Mq.z0):=by
 have e:=h.whole s hi;rw[uU hX hq hl hw hi (by lia),if_neg (by lia)] at e;have e2:(Mq.rs X.length fun k=>Mq.at2 (iQ X qs) i k*(Mq.at2 R k X.length / (d:Rat)))=((eJ ((mQ X qs).getD i []):Int):Rat)*Mq.rs X.length fun k=>rH X i k*(Mq.at2 R k X.length / (d:Rat)):=by
  rw[<- fL];refine aT fun k hk=>?_;rw[uU hX hq hl hw hi (by lia),if_pos hk];grind
 rw[e2] at e;have g:=sZ (tV hX hq hl hi);have n:=dS (show eJ ((mQ X qs).getD i [])≠0 by rw[pX hl hi];lia);grind
end Shp
namespace Mq
def Wb (n:Nat)(x:Rat):Prop:=∃z:Int,x=(z:Rat)/\B n z
theorem Wb.mono (h:Wb n x)(l:n<=m):Wb m x:=by obtain⟨z,e,b⟩:=h;exact⟨z,e,b.mono l⟩
theorem Wb.mul (h:Wb n x)(k:Wb m y):Wb (n+m) (x*y):=by
 obtain⟨a,rfl,b⟩:=h;obtain⟨c,rfl,d⟩:=k;exact⟨a*c,by rw[Rat.intCast_mul],b.mul d⟩
theorem Wb.sub (h:Wb n x)(k:Wb n y):Wb (n+1) (x - y):=by
 obtain⟨a,rfl,b⟩:=h;obtain⟨c,rfl,d⟩:=k;exact⟨a - c,by rw[Rat.intCast_sub],b.sub d⟩
theorem Wb.neg (h:Wb n x):Wb n (-x):=by
 obtain⟨a,rfl,b⟩:=h;exact⟨-a,by rw[Rat.intCast_neg],b.neg⟩
theorem Wb.zero (n:Nat):Wb n 0:=⟨0,by simp,Nat.two_pow_pos _⟩
theorem Wb.one:Wb 1 1:=⟨1,by simp,show (1:Nat) < 2 ^ 1 by decide⟩
theorem Wb.sgn (h:Wb n x)(k:Nat):Wb n (Mq.sgn k*x):=by
 unfold Mq.sgn;split
 ·rw[show (1:Rat)*x=x by grind];exact h
 ·rw[show (-1:Rat)*x=-x by grind];exact h.neg
theorem Xa:∀K,(∀k,k < K->Wb n (f k))->∃z:Int,rs K f=(z:Rat)/\z.natAbs+K<=K*2 ^ n
 |0,_=>⟨0,by simp only[rs];simp,by simp⟩
 |K+1,h=>by
  obtain⟨z,e,b⟩:=Xa K fun k hk=>h k (by lia);obtain⟨y,e2,b2⟩:=h K (by lia);refine⟨z+y,by simp only[rs];rw[e,e2,Rat.intCast_add],?_⟩;have:y.natAbs < 2 ^ n:=b2;rw[Nat.succ_mul];lia
def SB (n m:Nat)(R:List (List Int))(r col:Nat)(d:Int):Prop:=∃A c,Bar m A (at2 R) r col (d:Rat) c/\∀i x,i < m->Wb n (A i x)
theorem SB.start (hb:BdR n R):SB n m R 0 0 1:=
 ⟨at2 R,id,by
  have:=Bar.start (m:=m) (A:=at2 R) fun i j=>⟨_,rfl⟩
  simpa using this,fun i x _=>⟨ent R i x,rfl,hb i x⟩⟩
theorem SB.skip (h:SB n m R r col d)(hz:∀i,r<=i->i < m->ent R i col=0):SB n m R r (col+1) d:=by
 obtain⟨A,c,B,q⟩:=h;exact⟨A,c,B.skip fun i h1 h2=>by unfold at2;rw[hz i h1 h2];simp,q⟩
theorem SB.swap (h:SB n m R r col d)(s:SI m w A0 R r col d sg)(hp:r < p)(hm:p < m):SB n m (fK R p r) r col d:=by
 obtain⟨A,c,B,q⟩:=h;have hl:=s.len;refine⟨_,c,(B.swap (by lia) hm).congr fun i hi=>?_,fun i x hi=>q _ x (zW hm (by lia) hi)⟩
 funext x
 rw[rN (by lia) (by lia)]
theorem SB.clear (h:SB n m R r col d)(s:SI m w A0 R r col d sg)(hr:r < m)(hc:col < w)(he:ent R r col≠0):SB n m (cK R r col d) (r+1) (col+1) (ent R r col):=by
 obtain⟨A,c,B,q⟩:=h;have heq:at2 R r col≠0:=fun z=>he (Rat.intCast_inj.mp (by unfold at2 at z;simpa using z));refine⟨A,_,(B.clear hr heq).congr fun i hi=>?_,q⟩
 funext x
 rw[tK s hr hc he hi x];unfold clr
 by_cases e:i=r
 ·rw[if_pos e,if_pos e,e]
 ·rw[if_neg e,if_neg e]
end Mq
namespace Shp
open PySem L2
abbrev bq (n m:Nat):Nat:=(n+4)*(m+1)+7
end Shp
namespace L2
open PySem PyProof.Rows
theorem aK.calm {K:Frag}(F:aK P w K mg base (CX1 P w) k f fd ps sp):
  aK P w K mg base CX0 k f fd ps (fun vs H Q _=>sp vs H Q (fun _ _ _=>False)):=
 ⟨fun vs H Q E q=>F.len vs H Q _ q,fun A outer s H args us vs Q E hr he hb hv hs=>codeAny_mono (F.run A outer s H args us vs Q _ hr he hb hv hs) fun r s' h=>by
  cases r with
  |ok fl=>cases fl<;>exact h
  |error e=>
   obtain⟨a,C,d,H',_,_,_,_,_,_,z⟩:=h;exact z.elim⟩
open PySem.Spec
section
variable {X:Cx} {k:Nat} {f C:Addr} {fd:FuncData} {ps:List Str} {sp:Sp} {dvs:List V} {ds:List Value} {x:Str} {p pos:Pos} {e:Expr} {es:List Expr} {t:TA}
def qf8 (C:Addr)(sp:Sp)(dvs:List V)(t:TA):TEX:=fun σ H Q E=>t σ H fun vs H1=>∀x dx,H1 x=none->H1 dx=none->dx≠x->
 sp (.ref x :: (vs++dvs)) (upd (upd H1 dx (.own x)) x (.ins C dx [])) (fun v H2=>v=.non/\Q (.ref x) H2) E
theorem Ky (M:Mk X.K C f)(F:aK X.prog X.w X.K X.mg X.base (CX1 X.prog X.w) k f fd ps sp)(fm:Frm X)(hr:gH (k+1) X.A)(hb:aL X.K fd ps ds)(hd:bV dvs ds)(I:Inv X pins σ H s)(r:bV vs us)(h:∀x dx,H x=none->H dx=none->dx≠x->sp (.ref x :: (vs++dvs)) (upd (upd H dx (.own x)) x (.ins C dx [])) (fun v H2=>v=.non/\Q (.ref x) H2) E):
  wpAny (model X.prog X.w) X.A (call (.ref C) us) (EP X pins σ Q) (XP X pins fun σ' C d H'=>σ'=σ/\E C d H') s:=by
 have hq:=h (s.heap.objs.size+1) s.heap.objs.size (I.hok.fresh (Nat.le_succ _)) (I.hok.fresh (Nat.le_refl _)) (Nat.ne_of_lt (Nat.lt_succ_self _));have I2:=Inv.made (C:=C) I;have r2:bV (V.ref (s.heap.objs.size+1) :: (vs++dvs)) (Value.ref (s.heap.objs.size+1) :: (us++ds)):=.cons rfl (r.append hd);have hl:(Value.ref (s.heap.objs.size+1) :: us++ds).length=ps.length:=by
  have e:=r2.length;rw[F.len _ _ _ _ hq] at e;exact e.symm
 refine wpAny_call (Dq (f:=f) I.kIn M.makes M.init (beq_iff_eq.mp M.fn) (codeAny_mono (F.run _ X.stack _ _ ⟨Value.ref (s.heap.objs.size+1) :: us,[]⟩ (Value.ref (s.heap.objs.size+1) :: (us++ds)) _ _ E (hr.make C us [])
  (I2.env0.make C us []) (hb _ (Value.ref (s.heap.objs.size+1) :: us) I2.kIn hl) r2 hq) fun r s' hq'=>?_))
 cases r with
 |error e=>
  obtain⟨a,C',d,H',rfl,L,q⟩:=kX fm I2 hq';exact⟨a,C',d,σ,H',rfl,L,rfl,q⟩
 |ok fl=>
  cases fl with
  |ret u=>
   obtain⟨v,H',I3,rv,ev,q3⟩:=I2.after hq';subst ev;exact⟨rv,⟨V.ref (s.heap.objs.size+1),H',I3,rfl,q3⟩⟩
  |next=>exact False.elim hq'
  |brk=>exact False.elim hq'
  |cont=>exact False.elim hq'
theorem Wr (M:Mk X.K C f)(F:aK X.prog X.w X.K X.mg X.base (CX1 X.prog X.w) k f fd ps sp)(fm:Frm X)(hr:gH (k+1) X.A)(hg:Gl X x)(hm:X.mg x=some (.ref C))(hb:aL X.K fd ps ds)(hd:bV dvs ds)(ha:PA X.nox (e :: es) t)(hdb:(x == ("__debug__":Str))=false:=by decide)(he:starEach (e :: es) X.env=(false,eval e X.env) :: starEach es X.env:=by rfl)(hpl:(backTo pos (starEach es X.env)).any (·.1)=false:=by rfl) :
  PX X (.Call (.Name x p) (e :: es) [] pos) (qf8 C sp dvs t):=by
 intro pins s σ H Q E I h;refine wpAny_Call_Name_kw (iG I hg hm ?_ hdb);refine W.callWith_K (h₀:=X.base) I.ok.mod.kin M.kp (wpAny_mono (ha pos pins s σ H _ (I.wish _) h) (fun us s1 h1=>?_) fun _ _ z=>False.elim z) he hpl;obtain⟨vs,H1,I1,r,q⟩:=h1;exact⟨I1.kIn,Ky M F fm hr hb hd I1.unwish r q⟩
end
theorem aK.weak {K:Frag}(F:aK P w K mg base CX k f fd ps sp)(h:∀vs H Q E,sp' vs H Q E->sp vs H Q E):aK P w K mg base CX k f fd ps sp':=
 ⟨fun vs H Q E q=>F.len vs H Q E (h _ _ _ _ q),fun A outer s H args us vs Q E hr he hb hv hs=>F.run A outer s H args us vs Q E hr he hb hv (h _ _ _ _ hs)⟩
abbrev cT (m i j:Int):Prop:=0<=i/\i < m/\0<=j/\j < m
inductive Zv (K:Frag) (H:Hp):V->Option Mq.Q2->Prop where
 |fr {u:Addr} {p:Mq.Q2} (h:Fq K H u p) (l:Mq.Low p):Zv K H (.ref u) (some p)
 |ty {v:V} {t:Value} (h:TyQ K H v t) (n:W.kitOne K t (.type "tuple")=some false):Zv K H v none
 |len {u:Addr} {x y z:V} (h:SqT K H u [x,y,z]):Zv K H (.ref u) none
 |n0 {u:Addr} {x y:V} {t:Value} (h:SqT K H u [x,y]) (ty:kD K H x t) (n:iI t):Zv K H (.ref u) none
 |n1 {u:Addr} {i:Int} {y:V} {t:Value} (h:SqT K H u [.int i,y]) (ty:kD K H y t) (n:iI t):Zv K H (.ref u) none
 |fb {u:Addr} {p:Mq.Q2} (h:Fq K H u p) (c:p.2 < 1\/(1<=p.2/\gc p.1 p.2≠1)):Zv K H (.ref u) none
abbrev Bz (o:Option Mq.Q2):Prop:=∀p,o=some p->Mq.Bd 1000 p
inductive Hl (K:Frag) (vs:List V) (H:Hp) (Q:VK) (E:XK):Prop where
 |mk (v:V) (o:Option Mq.Q2):vs=[v]->Zv K H v o->Q (.bl o.isSome) H->Hl K vs H Q E
inductive iB (CK:Kd->Addr) (K:Frag) (H:Hp):List V->List RD->Prop where
 |nil:iB CK K H [] []
 |cons {x z:Addr} {k:Kd} {i j:Int} {p:Mq.Q2} {xs:List V} {ds:List RD} (h:Rw CK H x k (.int i) (.int j) (.ref z)) (f:Fq K H z p) (q:iB CK K H xs ds):iB CK K H (.ref x :: xs) ((k,i,j,p) :: ds)
section
variable {CK:Kd->Addr} {K:Frag} {H H':Hp}
theorem iB.same (e:aS H H'):∀{xs:List V} {ds:List RD},iB CK K H xs ds->iB CK K H' xs ds
 |_,_,.nil=>.nil
 |_,_,.cons h f q=>.cons (h.same e) (e.fq f) (iB.same e q)
theorem iB.length:∀{xs:List V} {ds:List RD},iB CK K H xs ds->xs.length=ds.length
 |_,_,.nil=>rfl
 |_,_,.cons _ _ q=>by simp[iB.length q]
theorem iB.app:∀{xs ys:List V} {ds es:List RD},iB CK K H xs ds->iB CK K H ys es->iB CK K H (xs++ys) (ds++es)
 |_,_,_,_,.nil,r=>r
 |_,_,_,_,.cons h f q,r=>.cons h f (iB.app q r)
theorem iB.at:∀{xs:List V} {ds:List RD} {q:Nat} {d:RD},iB CK K H xs ds->ds[q]?=some d->∃x z,xs[q]?=some (.ref x)/\Rw CK H x d.1 (.int d.2.1) (.int d.2.2.1) (.ref z)/\Fq K H z d.2.2.2
 |_,_,_,_,.nil,h=>by simp at h
 |_,_,0,_,.cons h f _,e=>by simp at e;subst e;exact⟨_,_,rfl,h,f⟩
 |_,_,i+1,_,.cons _ _ q,e=>by simpa using iB.at q (by simpa using e)
theorem iB.upd (hl:H l=some (.lst ys)):∀{xs:List V} {ds:List RD},iB CK K H xs ds->iB CK K (L2.upd H l o) xs ds
 |_,_,.nil=>.nil
 |_,_,.cons (h:=h) f q=>by
  obtain⟨dx,e⟩:=h;exact .cons ⟨dx,by rw[aQ (fD e hl (fun z=>by cases z))];exact e⟩ (f.upd hl) (iB.upd hl q)
end
inductive kS (CN:Addr) (K:Frag) (CK:Kd->Addr) (vs:List V) (H:Hp) (Q:VK) (E:XK):Prop where
 |mk (n l:Addr) (m:Int) (ds:List RD):vs=[.ref n]->cZ CN K H n l m ds->ds.length<=100->(∀a xs H',aS H H'->H a=none->H' a=some (.lst xs)->iB CK K H' xs ds->Q (.ref a) H')->kS CN K CK vs H Q E
end L2
namespace Mq
inductive Wt:List Q2->Nat->Prop where
 |nil:Wt [] 0
 |cons {p:Q2} {ps:List Q2} {n w:Nat} (h:Bd n p) (q:Wt ps w):Wt (p :: ps) (n+1+w)
theorem Wt.at:∀{ps:List Q2} {w i:Nat} {p:Q2},Wt ps w->ps[i]?=some p->∃w' n,Wt (ps.take i) w'/\Bd n p/\w' + n+1<=w
 |_,_,_,_,.nil,h=>by simp at h
 |_,_,0,_,.cons (n:=n) h q,e=>by
  simp at e;subst e;exact⟨0,n,.nil,h,by lia⟩
 |_,_,i+1,_,.cons (n:=n) h q,e=>by
  obtain⟨w',n',a,b,c⟩:=Wt.at q (by simpa using e);exact⟨n+1+w',n',.cons h a,b,by lia⟩
theorem Wt.fold:∀{ps:List Q2} {w k:Nat} {p:Q2},Wt ps w->Pos ps->1<=p.2->Bd k p->Bd (k+w) (ps.foldl jO p)
 |_,_,_,_,.nil,_,_,h=>h
 |_,_,k,p,.cons (p:=q) (n:=n) (w:=w) h r,hp,p1,b=>by
  have q1:=hp q (by simp);have:=Wt.fold r (fun x hx=>hp x (mem_cons_of_mem _ hx)) (kC p1 q1).pos (Aa b h p1 q1);exact this.mono (by lia)
theorem Wt.tot (h:Wt ps w)(hp:Pos ps):Bd (1+w) (tot ps):=h.fold hp (by decide) ⟨show (0:Nat) < 2 ^ 1 by decide,show (1:Nat) < 2 ^ 1 by decide⟩
end Mq
namespace L2
open PySem PySem.Spec PyProof.Rows
abbrev RE:=RD × Mq.Q2
def flF (hp:List Mq.Q2)(d:RD):Mq.Q2:=Mq.minus (hp.getD d.2.1.toNat (0,1)) (hp.getD d.2.2.1.toNat (0,1))
def oI (k:Kd)(l:List RD):List RD:=l.filter fun d=>decide (d.1=k)
theorem Lf (k:Kd)(l:List RD)(e:RD):oI k (l++[e])=if e.1=k then oI k l++[e] else oI k l:=by
 unfold oI;rw[filter_append]
 by_cases h:e.1=k
 ·rw[if_pos h];simp[h]
 ·rw[if_neg h];simp[h]
inductive Hj (K:Frag) (vs:List V) (H:Hp) (Q:VK) (E:XK):Prop where
 |mk (a:Addr) (xs:List V) (ps:List Mq.Q2) (w:Nat):vs=[.ref a]->SqL K H a xs->Fqs K H xs ps->Mq.Pos ps->Mq.Wt ps w->w+1<=9000->(∀r H',aS H H'->Fq K H' r (tot ps)->Q (.ref r) H')->Hj K vs H Q E
inductive Bf (K:Frag) (vs:List V) (H:Hp) (Q:VK) (E:XK):Prop where
 |mk (a b:Addr) (p q:Mq.Q2) (n m:Nat):vs=[.ref a,.ref b]->Fq K H a p->Fq K H b q->1<=p.2->1<=q.2->0 < q.1->Mq.Bd n p->Mq.Bd m q->n+m+1<=9000->Dn H Q (rA p q)->Bf K vs H Q E
section
variable {m n:Nat} {hp:List Mq.Q2} {d:RD} {e:RE}
theorem Dc {ps:List Mq.Q2}(h:j < ps.length):ps[j]?=some (ps.getD j (0,1)):=by rw[getD_eq_getElem?_getD,getElem?_eq_getElem h];rfl
end
def rzl (ps:List Mq.Q2)(j:Nat)(a:Mq.Q2):List Mq.Q2:=ps.set j (Mq.jO (ps.getD j (0,1)) a)
def kB (M:List (List Mq.Q2))(i j:Nat):Mq.Q2:=(M.getD i []).getD j (0,1)
def rz (M:List (List Mq.Q2))(i j:Nat)(a:Mq.Q2):List (List Mq.Q2):=M.set i (rzl (M.getD i []) j a)
structure MxB (M:List (List Mq.Q2)) (h w n:Nat):Prop where
 h:M.length=h
 w:∀ps∈M,ps.length=w
 l:∀ps∈M,∀p∈ps,Mq.Low p/\Mq.Bd n p
theorem MxB.mono {h w n n':Nat}(b:MxB M h w n)(le:n<=n'):MxB M h w n':=⟨b.h,b.w,fun ps hp p hp'=>⟨(b.l ps hp p hp').1,(b.l ps hp p hp').2.mono le⟩⟩
theorem MxB.row {h w n i:Nat}(b:MxB M h w n)(hi:i < h):M[i]?=some (M.getD i [])/\M.getD i []∈M/\(M.getD i []).length=w:=by
 have hi':i < M.length:=by rw[b.h];exact hi
 have e:M.getD i []=M[i]:=by rw[getD_eq_getElem?_getD,getElem?_eq_getElem hi'];rfl
 rw[e];exact⟨getElem?_eq_getElem hi',getElem_mem hi',b.w _ (getElem_mem hi')⟩
theorem MxB.at {h w n i j:Nat}(b:MxB M h w n)(hi:i < h)(hj:j < w):(M.getD i [])[j]?=some (kB M i j)/\Mq.Low (kB M i j)/\Mq.Bd n (kB M i j):=by
 obtain⟨e,m,l⟩:=b.row hi;have hj':j < (M.getD i []).length:=by rw[l];exact hj
 have:=Dc hj';exact⟨this,b.l _ m _ (mem_of_getElem? this)⟩
theorem MxB.rz {h w n k i j:Nat}(b:MxB M h w n)(hi:i < h)(hj:j < w)(la:Mq.Low a)(ba:Mq.Bd k a):MxB (L2.rz M i j a) h w (n+k+1):=by
 obtain⟨e,m,l⟩:=b.row hi;obtain⟨e2,l2,b2⟩:=b.at hi hj;refine⟨by unfold L2.rz;rw[length_set];exact b.h,fun ps hp=>?_,fun ps hp p hp'=>?_⟩
 ·rcases mem_or_eq_of_mem_set hp with z | z
  ·exact b.w ps z
  ·rw[z];unfold rzl;rw[length_set];exact l
 ·rcases mem_or_eq_of_mem_set hp with z | z
  ·have:=b.l ps z p hp';exact⟨this.1,this.2.mono (by lia)⟩
  ·rw[z] at hp';unfold rzl at hp';rcases mem_or_eq_of_mem_set hp' with y | y
   ·have:=b.l _ m p y;exact⟨this.1,this.2.mono (by lia)⟩
   ·rw[y];exact⟨Mq.kC l2.pos la.pos,Aa b2 ba l2.pos la.pos⟩
theorem Ai (b:MxB M h w n)(hi:i < h)(hj:j < w)(la:Mq.Low a)(x y:Nat):Mq.val (kB (L2.rz M i j a) x y)=Mq.val (kB M x y)+if i=x/\j=y then Mq.val a else 0:=by
 obtain⟨e,m,l⟩:=b.row hi;obtain⟨e2,l2,b2⟩:=b.at hi hj;have hl:i < M.length:=by rw[b.h];exact hi
 unfold kB L2.rz
 by_cases c:i=x
 ·subst c;have e3:(M.set i (rzl (M.getD i []) j a)).getD i []=rzl (M.getD i []) j a:=by rw[getD_eq_getElem?_getD,getElem?_set,if_pos rfl,if_pos hl];rfl
  rw[e3];unfold rzl
  by_cases d:j=y
  ·subst d;have e4:((M.getD i []).set j (Mq.jO ((M.getD i []).getD j (0,1)) a)).getD j (0,1)=Mq.jO ((M.getD i []).getD j (0,1)) a:=by rw[getD_eq_getElem?_getD,getElem?_set,if_pos rfl,if_pos (by rw[l];exact hj)];rfl
   rw[e4,if_pos ⟨rfl,rfl⟩];exact Mq.mI l2.pos la.pos
  ·have e4:((M.getD i []).set j (Mq.jO ((M.getD i []).getD j (0,1)) a)).getD y (0,1)=(M.getD i []).getD y (0,1):=by rw[getD_eq_getElem?_getD,getElem?_set,if_neg d,<- getD_eq_getElem?_getD]
   rw[e4,if_neg (fun z=>d z.2),Rat.add_zero]
 ·have e3:(M.set i (rzl (M.getD i []) j a)).getD x []=M.getD x []:=by rw[getD_eq_getElem?_getD,getElem?_set,if_neg c,<- getD_eq_getElem?_getD]
  rw[e3,if_neg (fun z=>c z.1),Rat.add_zero]
structure LnB (R:List Mq.Q2) (w n:Nat):Prop where
 w:R.length=w
 l:∀p∈R,Mq.Low p/\Mq.Bd n p
theorem LnB.mono {w n n':Nat}(b:LnB R w n)(le:n<=n'):LnB R w n':=⟨b.w,fun p hp=>⟨(b.l p hp).1,(b.l p hp).2.mono le⟩⟩
theorem LnB.at {w n j:Nat}(b:LnB R w n)(hj:j < w):R[j]?=some (R.getD j (0,1))/\Mq.Low (R.getD j (0,1))/\Mq.Bd n (R.getD j (0,1)):=by
 have hj':j < R.length:=by rw[b.w];exact hj
 have:=Dc hj';exact⟨this,b.l _ (mem_of_getElem? this)⟩
theorem LnB.set {w n j:Nat}(b:LnB R w n)(lq:Mq.Low q)(bq:Mq.Bd n q):LnB (R.set j q) w n:=⟨by rw[length_set];exact b.w,fun p hp=>by
 rcases mem_or_eq_of_mem_set hp with z | z
 ·exact b.l p z
 ·rw[z];exact⟨lq,bq⟩⟩
theorem LnB.rz {w n k j:Nat}(b:LnB R w n)(hj:j < w)(la:Mq.Low a)(ba:Mq.Bd k a):LnB (rzl R j a) w (n+k+1):=by
 obtain⟨_,l2,b2⟩:=b.at hj;exact(b.mono (by lia)).set (Mq.kC l2.pos la.pos) (Aa b2 ba l2.pos la.pos)
theorem yQ {R:List Mq.Q2}(hj:j < R.length):(R.set j q).getD y (0,1)=if j=y then q else R.getD y (0,1):=by
 rw[getD_eq_getElem?_getD,getElem?_set]
 by_cases e:j=y
 ·rw[if_pos e,if_pos e,if_pos (by lia)];rfl
 ·rw[if_neg e,if_neg e,<- getD_eq_getElem?_getD]
theorem Iq (b:LnB R w n)(hj:j < w)(la:Mq.Low a)(y:Nat):Mq.val ((rzl R j a).getD y (0,1))=Mq.val (R.getD y (0,1))+if j=y then Mq.val a else 0:=by
 obtain⟨_,l2,b2⟩:=b.at hj;unfold rzl;rw[yQ (by rw[b.w];exact hj)]
 by_cases d:j=y
 ·subst d;rw[if_pos rfl,if_pos rfl];exact Mq.mI l2.pos la.pos
 ·rw[if_neg d,if_neg d,Rat.add_zero]
def SX (as:List Addr)(H H':Hp):Prop:=∀b o,H b=some o->b∉as->H' b=some o
theorem aS.sx (s:aS H H'):SX as H H':=fun b o e _=>s b o e
theorem SX.trans (a:SX as H H1)(b:SX as H1 H2):SX as H H2:=fun c o h n=>b c o (a c o h n) n
theorem SX.write (a:SX as H H1)(hl:l∈as):SX as H (upd H1 l o):=fun c u h n=>by rw[aQ (fun z=>n (by rw[z];exact hl))];exact a c u h n
theorem SX.mono (a:SX as H H')(h:∀x∈as,x∈bs):SX bs H H':=fun c o e n=>a c o e fun z=>n (h c z)
theorem SX.same (s:aS H0 H)(a:SX as H H')(h:∀x∈as,H0 x=none):aS H0 H':=fun c o e=>a c o (s c o e) fun z=>by rw[h c z] at e;cases e
def Fa (as:List Addr)(H:Hp):Prop:=∀a∈as,∃xs,H a=some (.lst xs)
theorem SX.seqT {K:Frag}(hl:Fa as H)(e:SX as H H')(h:SqT K H a xs):SqT K H' a xs:=by
 have nx:∀{o:HO},H a=some o->(∀ys,o≠.lst ys)->a∉as:=fun ho n z=>by
  obtain⟨ys,hy⟩:=hl a z;rw[hy] at ho;exact n ys (Option.some.inj ho).symm
 rcases h with (h | ⟨u,h⟩) | h
 ·exact .inl (.inl (e _ _ h (nx h fun ys z=>by cases z)))
 ·exact .inl (.inr ⟨u,e _ _ h (nx h fun ys z=>by cases z)⟩)
 ·exact .inr h
theorem SX.rw (hl:Fa as H)(e:SX as H H')(h:Rw CK H x k s g z):Rw CK H' x k s g z:=by
 obtain⟨dx,q⟩:=h;refine⟨dx,e _ _ q fun y=>?_⟩;obtain⟨ys,hy⟩:=hl x y;rw[hy] at q;cases q
theorem SX.fqs {K:Frag}(hl:Fa as H)(e:SX as H H'):∀{xs:List V} {ps:List Mq.Q2},Fqs K H xs ps->Fqs K H' xs ps
 |_,_,.nil=>.nil
 |_,_,.cons f q=>.cons (e.seqT hl f) (SX.fqs hl e q)
structure Mx (K:Frag) (H:Hp) (D:Addr) (as:List Addr) (M:List (List Mq.Q2)):Prop where
 d:H D=some (.lst (as.map V.ref))
 n:as.Nodup
 nd:D∉as
 la:as.length=M.length
 r:∀(i:Nat) (a:Addr) (ps:List Mq.Q2),as[i]?=some a->M[i]?=some ps->∃xs,H a=some (.lst xs)/\Fqs K H xs ps
theorem Mx.lsts {K:Frag}(m:Mx K H D as M):Fa as H:=fun a ha=>by
 obtain⟨i,hi⟩:=getElem?_of_mem ha;have il:=(List.getElem?_eq_some_iff.mp hi).1;have il':i < M.length:=by rw[<- m.la];exact il
 obtain⟨xs,h,_⟩:=m.r i a M[i] hi (getElem?_eq_getElem il');exact⟨xs,h⟩
theorem Mx.same {K:Frag}(s:aS H H')(m:Mx K H D as M):Mx K H' D as M:=⟨s _ _ m.d,m.n,m.nd,m.la,fun i a ps h1 h2=>by
 obtain⟨xs,h,f⟩:=m.r i a ps h1 h2;exact⟨xs,s _ _ h,f.same s⟩⟩
theorem Mx.other {K:Frag}(m:Mx K H D as M)(hl:H l=some (.lst ys))(n1:l≠D)(n2:l∉as):Mx K (upd H l o) D as M:=⟨by rw[aQ (Ne.symm n1)];exact m.d,m.n,m.nd,m.la,fun i a ps h1 h2=>by
 obtain⟨xs,h,f⟩:=m.r i a ps h1 h2;exact⟨xs,by rw[aQ (fun z=>n2 (by rw[<- z];exact mem_of_getElem? h1))];exact h,f.upd hl⟩⟩
theorem Mx.set {K:Frag}(m:Mx K H D as M)(ha:as[i]?=some a)(hp:M[i]?=some ps)(hx:H a=some (.lst xs))(hF:Fqs K H xs ps)(s:aS H H1)(fv:Fq K H1 v q):Mx K (upd H1 a (.lst (xs.set j (.ref v)))) D as (M.set i (ps.set j q))/\SX as H (upd H1 a (.lst (xs.set j (.ref v)))):=by
 have ma:=mem_of_getElem? ha;have hx1:=s _ _ hx;have il:=(List.getElem?_eq_some_iff.mp ha).1;refine⟨⟨?_,m.n,m.nd,by rw[length_set];exact m.la,fun k b qs h1 h2=>?_⟩,s.sx.write ma⟩
 ·rw[aQ (fun z=>m.nd (by rw[z];exact ma))];exact s _ _ m.d
 ·rw[getElem?_set] at h2
  by_cases c:i=k
  ·subst c;rw[ha] at h1;have h1:a=b:=Option.some.inj h1;subst h1;rw[if_pos rfl] at h2;split at h2
   ·have h2:ps.set j q=qs:=Option.some.inj h2;rw[<- h2];exact⟨_,aB,(Fqs.set fv j (hF.same s)).upd hx1⟩
   ·cases h2
  ·rw[if_neg c] at h2;obtain⟨ys,hy,fy⟩:=m.r k b qs h1 h2;have nb:b≠a:=fun z=>by
    subst z;have kl:=(List.getElem?_eq_some_iff.mp h1).1;have e1:as[i]'il=b:=(List.getElem?_eq_some_iff.mp ha).2;have e2:as[k]'kl=b:=(List.getElem?_eq_some_iff.mp h1).2;exact c ((getElem_inj m.n).mp (e1.trans e2.symm))
   exact⟨ys,by rw[aQ nb];exact s _ _ hy,(fy.same s).upd hx1⟩
def cL (k:Kd):Nat:=if k=.ho then 1 else 0
def en (M:List (List Mq.Q2))(d:RD)(c:Nat)(a:Mq.Q2):List (List Mq.Q2):=rz (rz M d.2.1.toNat c a) d.2.2.1.toNat c (Mq.minus (0,1) a)
def dl (s g x:Nat):Rat:=(if s=x then 1 else 0) - (if g=x then 1 else 0)
def cM (d:RD)(h x y:Nat):Rat:=match d.1 with
 | .pc=>dl d.2.1.toNat d.2.2.1.toNat x*dl d.2.1.toNat d.2.2.1.toNat y*(1 / Mq.val d.2.2.2)
 | .pu=>0
 | .ho=>dl d.2.1.toNat d.2.2.1.toNat x*(if h=y then 1 else 0)+(if h=x then 1 else 0)*dl d.2.1.toNat d.2.2.1.toNat y
def cR (d:RD)(h x:Nat):Rat:=match d.1 with
 | .pc=>0
 | .pu=>- dl d.2.1.toNat d.2.2.1.toNat x*Mq.val d.2.2.2
 | .ho=>if h=x then Mq.val d.2.2.2 else 0
def eqM:Nat->List RD->Nat->Nat->Rat
 |_,[],_,_=>0
 |h,d :: ds,x,y=>cM d h x y+eqM (h+cL d.1) ds x y
def eqR:Nat->List RD->Nat->Rat
 |_,[],_=>0
 |h,d :: ds,x=>cR d h x+eqR (h+cL d.1) ds x
def cA (ds:List RD):Nat:=(oI .ho ds).length
theorem gA (ds:List RD)(d:RD):cA (ds++[d])=cA ds+cL d.1:=by
 unfold cA cL;rw[Lf];split
 ·rw[List.length_append];rfl
 ·rfl
theorem hZ (d:RD)(ds:List RD):cA (d :: ds)=cL d.1+cA ds:=by
 unfold cA cL oI
 by_cases h:d.1=.ho
 ·rw[filter_cons_of_pos (by exact decide_eq_true h),if_pos h,length_cons];lia
 ·rw[filter_cons_of_neg (by simp[h]),if_neg h];lia
theorem Ei (d:RD)(x y:Nat):∀(ds:List RD) (h:Nat),eqM h (ds++[d]) x y=eqM h ds x y+cM d (h+cA ds) x y
 | [],h=>by show cM d h x y+0=0+cM d (h+0) x y;rw[Nat.add_zero];grind
 |e :: ds,h=>by
  show cM e h x y+eqM (h+cL e.1) (ds++[d]) x y=cM e h x y+eqM (h+cL e.1) ds x y+_;rw[Ei d x y ds,hZ,Nat.add_assoc];grind
theorem Cs (d:RD)(x:Nat):∀(ds:List RD) (h:Nat),eqR h (ds++[d]) x=eqR h ds x+cR d (h+cA ds) x
 | [],h=>by show cR d h x+0=0+cR d (h+0) x;rw[Nat.add_zero];grind
 |e :: ds,h=>by
  show cR e h x+eqR (h+cL e.1) (ds++[d]) x=cR e h x+eqR (h+cL e.1) ds x+_;rw[Cs d x ds,hZ,Nat.add_assoc];grind
theorem gY:Mq.Low (1,1):=⟨by decide,by decide⟩
theorem mE (la:Mq.Low a)(ba:Mq.Bd k a):Mq.Low (Mq.minus (0,1) a)/\Mq.Bd (k+2) (Mq.minus (0,1) a)/\Mq.val (Mq.minus (0,1) a)=- Mq.val a:=by
 have h01:1<=((0,1):Mq.Q2).2:=by decide
 have b01:Mq.Bd 1 (0,1):=⟨show (0:Nat) < 2 ^ 1 by decide,show (1:Nat) < 2 ^ 1 by decide⟩
 refine⟨Mq.eU h01 la.pos,(Mq.Da b01 ba h01 la.pos).mono (by lia),?_⟩;rw[Mq.eX h01 la.pos,Mq.pF];grind
theorem Cj (b:MxB M h w n)(pt:cT (h:Int) d.2.1 d.2.2.1)(hc:c < w)(la:Mq.Low a)(ba:Mq.Bd k a):MxB (en M d c a) h w (n+2*k+4)/\∀x y,Mq.val (kB (en M d c a) x y)=Mq.val (kB M x y)+dl d.2.1.toNat d.2.2.1.toNat x*(if c=y then 1 else 0)*Mq.val a:=by
 obtain⟨i0,i1,j0,j1⟩:=pt;obtain⟨ln,bn,vn⟩:=mE la ba;have b1:=b.rz (i:=d.2.1.toNat) (by lia) hc la ba;have b2:=b1.rz (i:=d.2.2.1.toNat) (by lia) hc ln bn;refine⟨b2.mono (by lia),fun x y=>?_⟩;unfold en;rw[Ai b1 (by lia) hc ln,Ai b (by lia) hc la,vn];unfold dl
 by_cases c1:d.2.1.toNat=x<;>by_cases c2:d.2.2.1.toNat=x<;>by_cases c3:c=y<;>simp only[c1,c2,c3,true_and,and_true,false_and,and_false,and_self,if_true,if_false]<;>grind
def hM (M:List (List Mq.Q2))(d:RD)(c:Nat):List (List Mq.Q2):=rz (rz (en M d c (1,1)) c d.2.1.toNat (1,1)) c d.2.2.1.toNat (Mq.minus (0,1) (1,1))
def pM (M:List (List Mq.Q2))(d:RD):List (List Mq.Q2):=en (en M d d.2.1.toNat (rA (1,1) d.2.2.2)) d d.2.2.1.toNat (Mq.minus (0,1) (rA (1,1) d.2.2.2))
def pR (rs:List Mq.Q2)(d:RD):List Mq.Q2:=rzl (rzl rs d.2.1.toNat (Mq.minus (0,1) d.2.2.2)) d.2.2.1.toNat d.2.2.2
theorem iD:Mq.Bd 1 (1,1):=⟨show (1:Nat) < 2 ^ 1 by decide,show (1:Nat) < 2 ^ 1 by decide⟩
theorem h11:1<=((1,1):Mq.Q2).2:=by decide
theorem Dm (l:Mq.Low p)(h0:0 < p.1)(b:Mq.Bd k p):Mq.Low (rA (1,1) p)/\Mq.Bd (k+1) (rA (1,1) p)/\Mq.val (rA (1,1) p)=1 / Mq.val p:=by
 refine⟨Mq.Pn h11 (by lia),(Mq.Vf iD b h11 (by lia)).mono (by lia),?_⟩;rw[Mq.Qy h11 l.pos (by lia),Hy]
theorem qi8 {w n k m h:Nat}(b:MxB M w w n)(pt:cT (m:Int) d.2.1 d.2.2.1)(hm:m<=w)(hk:d.1=.pc)(l:Mq.Low d.2.2.2)(h0:0 < d.2.2.2.1)(bk:Mq.Bd k d.2.2.2):MxB (pM M d) w w (n+4*k+20)/\∀x y,Mq.val (kB (pM M d) x y)=Mq.val (kB M x y)+cM d h x y:=by
 obtain⟨i0,i1,j0,j1⟩:=pt;obtain⟨ls,bs,vs⟩:=Dm l h0 bk;obtain⟨ln,bn,vn⟩:=mE ls bs;have pt':cT (w:Int) d.2.1 d.2.2.1:=⟨i0,by lia,j0,by lia⟩
 obtain⟨b1,v1⟩:=Cj b pt' (c:=d.2.1.toNat) (by lia) ls bs;obtain⟨b2,v2⟩:=Cj b1 pt' (c:=d.2.2.1.toNat) (by lia) ln bn;refine⟨b2.mono (by lia),fun x y=>?_⟩;unfold pM;rw[v2,v1,vn,vs];unfold cM;rw[hk];show _=_+dl d.2.1.toNat d.2.2.1.toNat x*dl d.2.1.toNat d.2.2.1.toNat y*(1 / Mq.val d.2.2.2)
 generalize 1 / Mq.val d.2.2.2=v;generalize dl d.2.1.toNat d.2.2.1.toNat x=u;unfold dl
 by_cases c1:d.2.1.toNat=y<;>by_cases c2:d.2.2.1.toNat=y<;>simp only[c1,c2,if_true,if_false]<;>grind
theorem qi0 {w n m c:Nat}(b:MxB M w w n)(pt:cT (m:Int) d.2.1 d.2.2.1)(hm:m<=w)(hc:c < w)(hk:d.1=.ho):MxB (hM M d c) w w (n+20)/\∀x y,Mq.val (kB (hM M d c) x y)=Mq.val (kB M x y)+cM d c x y:=by
 obtain⟨i0,i1,j0,j1⟩:=pt;have pt':cT (w:Int) d.2.1 d.2.2.1:=⟨i0,by lia,j0,by lia⟩
 obtain⟨ln,bn,vn⟩:=mE gY iD;obtain⟨b1,v1⟩:=Cj b pt' hc gY iD;have b2:=b1.rz (i:=c) (j:=d.2.1.toNat) hc (by lia) gY iD;have b3:=b2.rz (i:=c) (j:=d.2.2.1.toNat) hc (by lia) ln bn;refine⟨b3.mono (by lia),fun x y=>?_⟩;unfold hM;rw[Ai b2 hc (by lia) ln,Ai b1 hc (by lia) gY,v1,vn,Hy];unfold cM;rw[hk];show _=_+(dl d.2.1.toNat d.2.2.1.toNat x*(if c=y then 1 else 0)+(if c=x then 1 else 0)*dl d.2.1.toNat d.2.2.1.toNat y)
 generalize dl d.2.1.toNat d.2.2.1.toNat x=u;unfold dl
 by_cases c1:d.2.1.toNat=y<;>by_cases c2:d.2.2.1.toNat=y<;>by_cases c3:c=x<;>by_cases c4:c=y<;>simp only[c1,c2,c3,c4,true_and,and_true,false_and,and_false,and_self,if_true,if_false]<;>grind
theorem Xo {w n k m h:Nat}(b:LnB rs w n)(pt:cT (m:Int) d.2.1 d.2.2.1)(hm:m<=w)(hk:d.1=.pu)(l:Mq.Low d.2.2.2)(bk:Mq.Bd k d.2.2.2):LnB (pR rs d) w (n+4*k+20)/\∀x,Mq.val ((pR rs d).getD x (0,1))=Mq.val (rs.getD x (0,1))+cR d h x:=by
 obtain⟨i0,i1,j0,j1⟩:=pt;obtain⟨ln,bn,vn⟩:=mE l bk;have b1:=b.rz (j:=d.2.1.toNat) (by lia) ln bn;have b2:=b1.rz (j:=d.2.2.1.toNat) (by lia) l bk;refine⟨b2.mono (by lia),fun x=>?_⟩;unfold pR;rw[Iq b1 (by lia) l,Iq b (by lia) ln,vn];unfold cR;rw[hk];show _=_ + - dl d.2.1.toNat d.2.2.1.toNat x*Mq.val d.2.2.2;unfold dl
 by_cases c1:d.2.1.toNat=x<;>by_cases c2:d.2.2.1.toNat=x<;>simp only[c1,c2,if_true,if_false]<;>grind
theorem yL {m:Nat}:∀(ds:List RD) (h x:Nat),(∀d∈ds,cT (m:Int) d.2.1 d.2.2.1)->m<=h->h+cA ds<=x->eqR h ds x=0
 | [],_,_,_,_,_=>rfl
 |d :: ds,h,x,pt,hm,hx=>by
  rw[hZ] at hx;have ih:=yL ds (h+cL d.1) x (fun e he=>pt e (mem_cons_of_mem _ he)) (by lia) (by lia);obtain⟨i0,i1,j0,j1⟩:=pt d (by simp);show cR d h x+eqR (h+cL d.1) ds x=0;rw[ih];have z:dl d.2.1.toNat d.2.2.1.toNat x=0:=by unfold dl;rw[if_neg (by lia),if_neg (by lia)];grind
  unfold cR
  cases hk:d.1 with
  |pc=>show (0:Rat)+0=0;grind
  |pu=>show - dl d.2.1.toNat d.2.2.1.toNat x*Mq.val d.2.2.2+0=0;rw[z];grind
  |ho=>
   have:cL d.1=1:=by unfold cL;rw[if_pos hk]
   show (if h=x then Mq.val d.2.2.2 else 0)+0=0;rw[if_neg (by lia)];grind
theorem qk7 {rs:List Mq.Q2}{w n k m c:Nat}{d:RD}(b:LnB rs w n)(hc:c < w)(hk:d.1=.ho)(l:Mq.Low d.2.2.2)(bk:Mq.Bd k d.2.2.2)(h0:Mq.val (rs.getD c (0,1))=0):LnB (rs.set c d.2.2.2) w (n+k)/\∀x,Mq.val ((rs.set c d.2.2.2).getD x (0,1))=Mq.val (rs.getD x (0,1))+cR d c x:=by
 refine⟨(b.mono (by lia)).set l (bk.mono (by lia)),fun x=>?_⟩;rw[yQ (by rw[b.w];exact hc)];unfold cR;rw[hk];show _=_+if c=x then Mq.val d.2.2.2 else 0
 by_cases e:c=x
 ·subst e;rw[if_pos rfl,if_pos rfl,h0];grind
 ·rw[if_neg e,if_neg e];grind
inductive pJ (K:Frag) (vs:List V) (H:Hp) (Q:VK) (E:XK):Prop where
 |mk (l z:Addr) (j:Nat) (xs:List V) (ps:List Mq.Q2) (a:Mq.Q2) (n m:Nat):vs=[.ref l,.int (j:Int),.ref z]->H l=some (.lst xs)->Fqs K H xs ps->j < ps.length->1<=(ps.getD j (0,1)).2->Mq.Bd n (ps.getD j (0,1))->Fq K H z a->1<=a.2->Mq.Bd m a->n+m+1<=9000->(∀v H1,aS H H1->Fq K H1 v (Mq.jO (ps.getD j (0,1)) a)->Q .non (upd H1 l (.lst (xs.set j (.ref v)))))->pJ K vs H Q E
inductive sX (K:Frag) (CK:Kd->Addr) (vs:List V) (H:Hp) (Q:VK) (E:XK):Prop where
 |mk (D x z:Addr) (zz:V) (as:List Addr) (M:List (List Mq.Q2)) (d:RD) (w n k c:Nat) (a:Mq.Q2):vs=[.ref D,.ref x,.int (c:Int),.ref z]->Mx K H D as M->MxB M w w n->Rw CK H x d.1 (.int d.2.1) (.int d.2.2.1) zz->cT (w:Int) d.2.1 d.2.2.1->c < w->Fq K H z a->Mq.Low a->Mq.Bd k a->n+2*k+4<=9000->(∀H',SX as H H'->Mx K H' D as (en M d c a)->Q .non H')->sX K CK vs H Q E
inductive vD (K:Frag) (CK:Kd->Addr) (vs:List V) (H:Hp) (Q:VK) (E:XK):Prop where
 |mk (D x zz:Addr) (as:List Addr) (M:List (List Mq.Q2)) (d:RD) (w n k:Nat):vs=[.ref D,.ref x]->Mx K H D as M->MxB M w w n->Rw CK H x d.1 (.int d.2.1) (.int d.2.2.1) (.ref zz)->Fq K H zz d.2.2.2->cT (w:Int) d.2.1 d.2.2.1->Mq.Low d.2.2.2->0 < d.2.2.2.1->Mq.Bd k d.2.2.2->n+4*k+20<=9000->(∀H',SX as H H'->Mx K H' D as (pM M d)->Q .non H')->vD K CK vs H Q E
inductive pI (K:Frag) (CK:Kd->Addr) (vs:List V) (H:Hp) (Q:VK) (E:XK):Prop where
 |mk (R x zz:Addr) (ys:List V) (rs:List Mq.Q2) (d:RD) (w n k:Nat):vs=[.ref R,.ref x]->H R=some (.lst ys)->Fqs K H ys rs->LnB rs w n->Rw CK H x d.1 (.int d.2.1) (.int d.2.2.1) (.ref zz)->Fq K H zz d.2.2.2->cT (w:Int) d.2.1 d.2.2.1->Mq.Low d.2.2.2->Mq.Bd k d.2.2.2->n+4*k+20<=9000->(∀ys' H',SX [R] H H'->H' R=some (.lst ys')->Fqs K H' ys' (pR rs d)->Q .non H')->pI K CK vs H Q E
inductive uS (K:Frag) (CK:Kd->Addr) (vs:List V) (H:Hp) (Q:VK) (E:XK):Prop where
 |mk (D R x zz:Addr) (as:List Addr) (M:List (List Mq.Q2)) (ys:List V) (rs:List Mq.Q2) (d:RD) (w n c:Nat):vs=[.ref D,.ref R,.ref x,.int (c:Int)]->Mx K H D as M->MxB M w w n->H R=some (.lst ys)->Fqs K H ys rs->rs.length=w->R≠D->R∉as->Rw CK H x d.1 (.int d.2.1) (.int d.2.2.1) (.ref zz)->Fq K H zz d.2.2.2->cT (w:Int) d.2.1 d.2.2.1->c < w->n+20<=9000->(∀ys' H',SX (R :: as) H H'->Mx K H' D as (hM M d c)->H' R=some (.lst ys')->Fqs K H' ys' (rs.set c d.2.2.2)->Q .non H')->uS K CK vs H Q E
structure Fms (K:Frag) (H0 H:Hp) (us:List V) (X:List (List Mq.Q2)):Prop where
 l:us.length=X.length
 r:∀(i:Nat) (x:V) (ps:List Mq.Q2),us[i]?=some x->X[i]?=some ps->∃(a:Addr) (xs:List V),x=.ref a/\H0 a=none/\H a=some (.lst xs)/\Fqs K H xs ps
structure zM (m:Nat) (ds:List RD) (N:Nat) (X:List (List Mq.Q2)) (Y:List Mq.Q2):Prop where
 x:MxB X (m - 1+cA ds) (m - 1+cA ds) N
 y:LnB Y (m - 1+cA ds) N
 vx:∀i j,Mq.val (kB X i j)=eqM m ds (i+1) (j+1)
 vy:∀i,Mq.val (Y.getD i (0,1))=eqR m ds (i+1)
def lH (kb:Nat->Nat):Nat->Nat
 |0=>0
 |i+1=>lH kb i+(4*kb i+20)
theorem xV (kb:Nat->Nat):∀{j:Nat},i<=j->lH kb i<=lH kb j
 |0,h=>by rw[Nat.le_zero.mp h];exact Nat.le_refl _
 |j+1,h=>by
  rcases Nat.eq_or_lt_of_le h with z | z
  ·rw[z];exact Nat.le_refl _
  ·have:=xV kb (i:=i) (j:=j) (by lia);show _<=lH kb j+(4*kb j+20)
   lia
inductive vI (CN:Addr) (K:Frag) (vs:List V) (H:Hp) (Q:VK) (E:XK):Prop where
 |mk (n l:Addr) (m:Nat) (kb:Nat->Nat) (ds:List RD):vs=[.ref n]->cZ CN K H n l (m:Int) ds->(∀i d,ds[i]?=some d->Mg (m:Int) d/\Mq.Bd (kb i) d.2.2.2)->1<=m->m<=20->ds.length<=40->lH kb ds.length+30<=8900->(∀t p r us ys X Y H',aS H H'->H' t=some (.tup [.ref p,.ref r])->H p=none->H r=none->H' p=some (.lst us)->H' r=some (.lst ys)->Fms K H H' us X->Fqs K H' ys Y->(∀x∈us,x≠.ref p/\x≠.ref r)->zM m ds (lH kb ds.length+1) X Y->Q (.ref t) H')->vI CN K vs H Q E
def Us (ta:TA):TE:=fun σ H Q=>ta σ H fun vs H1=>∃n:Nat,vs=[.int (n:Int)]/\n<=1000/\∀l,H1 l=none->Q (.ref l) (upd H1 l (.lst ((List.range n).map fun (i:Nat)=>V.int (i:Int))))
theorem vU:∀{n:Nat} {acc:List Value},acc.length=n->(∀(j:Nat) (v:Value),acc[j]?=some v->∃t,v=Value.int (j:Int) t)->bV ((List.range n).map fun (i:Nat)=>V.int (i:Int)) acc
 |0,[],_,_=>.nil
 |n+1,acc,hl,h=>by
  have e:acc=acc.take n++[acc[n]'(by lia)]:=by
   have h1:acc.take (n+1)=acc:=take_of_length_le (by lia);have h2:acc.take (n+1)=acc.take n++[acc[n]'(by lia)]:=by rw[take_add_one,getElem?_eq_getElem (by lia)];rfl
   rw[h1] at h2;exact h2
  rw[range_succ,map_append,e];refine bV.append (vU (by rw[length_take];lia) fun j v hj=>?_) (.cons ?_ .nil)
  ·have hjn:j < n:=by
    have:=(List.getElem?_eq_some_iff.mp hj).1;rw[length_take] at this;lia
   rw[getElem?_take,if_pos hjn] at hj;exact h j v hj
  ·obtain⟨t,ht⟩:=h n _ (getElem?_eq_getElem (by lia));rw[ht];exact⟨t,rfl⟩
section
variable {X:Cx} {a:Expr} {p p2 pos pos2:Pos} {ta:TA}
theorem iX (hc:X.calm=true)(hgl:Gl X "list")(hml:X.mg "list"=none)(hg:Gl X "range")(hm:X.mg "range"=none)(ha:PA X [a] ta)(hs:starEach [a] X.env=[(false,eval a X.env)]:=by rfl)(he:starEach [.Call (.Name "range" p2) [a] [] pos2] X.env=(false,eval (.Call (.Name "range" p2) [a] [] pos2) X.env) :: starEach [] X.env:=by rfl)(hpl:(backTo pos (starEach [] X.env)).any (·.1)=false:=by rfl) :
  PE X (.Call (.Name "list" p) [.Call (.Name "range" p2) [a] [] pos2] [] pos) (Us ta):=by
 intro pins s σ H Q I h;refine wpAny_Call_Name_kw (jW I hgl hml PyProof.Rows.boot_list ?_);refine PyProof.Rows.callWith_type1 ?_ he hpl;rw[he];show wpAny _ _ (spliced ((false,eval (.Call (.Name "range" p2) [a] [] pos2) X.env) :: backTo pos (starEach [] X.env))) _ _ s;refine Calls.spliced_cons ?_;refine wpAny_Call_Name_kw (jW I hg hm boot_range (PyProof.Rows.callWith_type1 (thn (ha pos2 pins s σ H _ I h) fun us s1 ⟨vs,H1,I1,r1,q1⟩=>?_) hs rfl));obtain⟨n,e,hn,q⟩:=q1;subst e
 cases r1 with
 |cons r rr=>
  cases rr
  obtain⟨t,rfl⟩:=r;refine call_range_1 ?_;refine Calls.spliced_nil ?_;have I2:∀(ob:Obj) (tk:Nat),Inv X pins σ H1 { s1 with heap:=s1.heap.push ob,toks:=tk }:=fun ob tk=>I1.kept (t':=tk) (fun b ob e=>Heap.get?_push_of_some _ e);have hn24:(n:Nat)<=2 ^ 24:=by lia
  refine call_list_range (n:=n) (I1.ok.hd hc) (IsRange.new ..) (small_one (by lia) (by lia) (by lia) (by lia)) (by rw[rangeSize_one];split<;>lia) hn24 (fun h' tk acc' c' kp e items=>?_);have rl:bV ((List.range n).map fun (i:Nat)=>V.int (i:Int)) acc'.toList:=vU (by rw[Array.length_toList];exact items.1) (fun j v hj=>by
   obtain⟨t,ht⟩:=items.2 j v (by rw[<- Array.getElem?_toList];exact hj);exact⟨t,by rw[ht];congr 1;lia⟩)
  have hz:((List.range n).map fun (i:Nat)=>V.int (i:Int)).length<=sizeLine:=by rw[length_map,length_range,sizeLine_eq];lia
  exact⟨.ref _,_,(I2 _ _).laid (t':=tk) kp (Nat.le_refl _) (show cN X.prog X.w _ h' _ (.lst ((List.range n).map fun (i:Nat)=>V.int (i:Int))) from ⟨hz,acc'.toList,c',rl,e⟩),rfl,q _ ((I2 _ _).hok.fresh (Nat.le_refl _))⟩
end
def jn (ms:List Int)(s g:Nat):List Int:=ms.map fun x=>if x=ms.getD g 0 then ms.getD s 0 else x
def Mr (m:Nat):List Int:=(List.range m).map fun (i:Nat)=>(i:Int)
def iC (ms:List Int)(d:RD):List Int:=if d.1=.pu then ms else jn ms d.2.1.toNat d.2.2.1.toNat
def mks (m:Nat)(ds:List RD):List Int:=ds.foldl iC (Mr m)
def mk (m:Nat)(ds:List RD)(p:Nat):Int:=(mks m ds).getD p 0
theorem kJ (m:Nat)(ds:List RD)(d:RD):mks m (ds++[d])=iC (mks m ds) d:=by unfold mks;rw[foldl_append];rfl
theorem Lx (ms:List Int)(d:RD):(iC ms d).length=ms.length:=by
 unfold iC;split
 ·rfl
 ·unfold jn;rw[length_map]
theorem yD:∀(ds:List RD) (ms:List Int),(ds.foldl iC ms).length=ms.length
 | [],_=>rfl
 |d :: ds,ms=>by show (ds.foldl iC (iC ms d)).length=_;rw[yD ds,Lx]
theorem gL (m:Nat)(ds:List RD):(mks m ds).length=m:=by unfold mks Mr;rw[yD,length_map,length_range]
theorem Re {ms:List Int}{f:Int->Int}(h:p < ms.length):(ms.map f).getD p 0=f (ms.getD p 0):=by
 rw[getD_eq_getElem?_getD,getElem?_map,getD_eq_getElem?_getD,getElem?_eq_getElem h];rfl
theorem Sd (h:p < m):mk m [] p=(p:Int):=by
 show (Mr m).getD p 0=_;unfold Mr;rw[getD_eq_getElem?_getD,getElem?_map,getElem?_range h];rfl
theorem tX (hk:d.1=.pu)(p:Nat):mk m (ds++[d]) p=mk m ds p:=by
 unfold mk;rw[kJ];unfold iC;rw[if_pos hk]
theorem tN (hk:d.1≠.pu)(hp:p < m):mk m (ds++[d]) p=if mk m ds p=mk m ds d.2.2.1.toNat then mk m ds d.2.1.toNat else mk m ds p:=by
 unfold mk;rw[kJ];unfold iC;rw[if_neg hk];unfold jn;rw[Re (by rw[gL];exact hp)]
inductive Cn (ds:List RD):Nat->Nat->Prop where
 |refl (p:Nat):Cn ds p p
 |row {d:RD} (h:d∈ds) (hk:d.1≠.pu):Cn ds d.2.1.toNat d.2.2.1.toNat
 |symm {p q:Nat} (h:Cn ds p q):Cn ds q p
 |trans {p q r:Nat} (h:Cn ds p q) (g:Cn ds q r):Cn ds p r
theorem Cn.mono (h:∀d∈ds,d∈es)(c:Cn ds p q):Cn es p q:=by
 induction c with
 |refl p=>exact .refl p
 |row hd hk=>exact .row (h _ hd) hk
 |symm _ ih=>exact .symm ih
 |trans _ _ a b=>exact .trans a b
theorem Dw {m:Nat}:∀(n:Nat) (ds:List RD),ds.length=n->(∀d∈ds,cT (m:Int) d.2.1 d.2.2.1)->∀p q,p < m->q < m->mk m ds p=mk m ds q->Cn ds p q
 |0,ds,hl,_,p,q,hp,hq,e=>by
  have:ds=[]:=length_eq_zero_iff.mp hl;subst this;rw[Sd hp,Sd hq] at e;have:p=q:=by lia
  subst this;exact .refl p
 |n+1,ds,hl,pt,p,q,hp,hq,e=>by
  obtain⟨es,d,rfl⟩:∃es d,ds=es++[d]:=⟨ds.dropLast,ds.getLast (by intro z;rw[z] at hl;cases hl),(dropLast_concat_getLast _).symm⟩
  have le:es.length=n:=by rw[List.length_append] at hl;simpa using hl
  have ih:=Dw n es le (fun x hx=>pt x (mem_append_left _ hx));have up:∀{a b:Nat},Cn es a b->Cn (es++[d]) a b:=fun c=>c.mono fun x hx=>mem_append_left _ hx
  by_cases hk:d.1=.pu
  ·rw[tX hk,tX hk] at e;exact up (ih p q hp hq e)
  ·obtain⟨i0,i1,j0,j1⟩:=pt d (by simp);have hs:d.2.1.toNat < m:=by lia
   have hg:d.2.2.1.toNat < m:=by lia
   have rw':Cn (es++[d]) d.2.1.toNat d.2.2.1.toNat:=.row (by simp) hk;rw[tN hk hp,tN hk hq] at e
   by_cases a:mk m es p=mk m es d.2.2.1.toNat
   ·have cp:=up (ih _ _ hp hg a);rw[if_pos a] at e
    by_cases b:mk m es q=mk m es d.2.2.1.toNat
    ·exact cp.trans (up (ih _ _ hq hg b)).symm
    ·rw[if_neg b] at e;exact cp.trans (rw'.symm.trans (up (ih _ _ hs hq e)))
   ·rw[if_neg a] at e
    by_cases b:mk m es q=mk m es d.2.2.1.toNat
    ·rw[if_pos b] at e;exact(up (ih _ _ hp hs e)).trans (rw'.trans (up (ih _ _ hq hg b)).symm)
    ·rw[if_neg b] at e;exact up (ih _ _ hp hq e)
theorem pN {m:Nat}:∀(n:Nat) (ds:List RD),ds.length=n->(∀d∈ds,cT (m:Int) d.2.1 d.2.2.1)->∀d∈ds,d.1≠.pu->mk m ds d.2.1.toNat=mk m ds d.2.2.1.toNat
 |0,ds,hl,_,d,hd,_=>by
  have:ds=[]:=length_eq_zero_iff.mp hl;rw[this] at hd;cases hd
 |n+1,ds,hl,pt,x,hx,hkx=>by
  obtain⟨es,d,rfl⟩:∃es d,ds=es++[d]:=⟨ds.dropLast,ds.getLast (by intro z;rw[z] at hl;cases hl),(dropLast_concat_getLast _).symm⟩
  have le:es.length=n:=by rw[List.length_append] at hl;simpa using hl
  obtain⟨i0,i1,j0,j1⟩:=pt x hx;have hs:x.2.1.toNat < m:=by lia
  have hg:x.2.2.1.toNat < m:=by lia
  by_cases hk:d.1=.pu
  ·rw[tX hk,tX hk];rcases mem_append.mp hx with z | z
   ·exact pN n es le (fun y hy=>pt y (mem_append_left _ hy)) x z hkx
   ·have:x=d:=by simpa using z
    rw[this] at hkx;exact absurd hk hkx
  ·rw[tN hk hs,tN hk hg];rcases mem_append.mp hx with z | z
   ·have ih:=pN n es le (fun y hy=>pt y (mem_append_left _ hy)) x z hkx;rw[ih]
   ·have:x=d:=by simpa using z
    subst this;rw[if_pos rfl]
    by_cases c:mk m es x.2.1.toNat=mk m es x.2.2.1.toNat
    ·rw[if_pos c]
    ·rw[if_neg c]
theorem Cn.ind {R:Nat->Nat->Prop}(r:∀p,R p p)(s:∀p q,R p q->R q p)(t:∀p q x,R p q->R q x->R p x)(h:∀d∈ds,d.1≠.pu->R d.2.1.toNat d.2.2.1.toNat)(c:Cn ds p q):R p q:=by
 induction c with
 |refl p=>exact r p
 |row hd hk=>exact h _ hd hk
 |symm _ ih=>exact s _ _ ih
 |trans _ _ a b=>exact t _ _ _ a b
theorem Ir {m:Nat}(pt:∀d∈ds,cT (m:Int) d.2.1 d.2.2.1)(hp:p < m)(hq:q < m):mk m ds p=mk m ds q↔Cn ds p q:=
 ⟨Dw _ ds rfl pt p q hp hq,fun c=>Cn.ind (R:=fun a b=>mk m ds a=mk m ds b) (fun _=>rfl) (fun _ _ e=>e.symm) (fun _ _ _ a b=>a.trans b) (fun d hd hk=>pN _ ds rfl pt d hd hk) c⟩
theorem Kc:∀{m:Nat} {S:List Nat},S.Nodup->(∀p∈S,p < m)->S.length<=m
 |0,[],_,_=>Nat.le_refl _
 |0,p :: S,_,h=>absurd (h p (mem_cons_self ..)) (Nat.not_lt_zero _)
 |m+1,S,nd,h=>by
  have e:=Kc (m:=m) (S:=S.erase m) (nd.erase m) (fun p hp=>by
   have h1:=h p (mem_of_mem_erase hp);have h2:p≠m:=fun z=>by rw[z] at hp;exact(Nodup.not_mem_erase nd) hp
   lia)
  have:=length_erase_le (a:=m) (l:=S);have h3:S.length<=(S.erase m).length+1:=by
   rw[length_erase];split<;>lia
  lia
theorem Mf {m:Nat}{S:List Nat}(pt:∀d∈ds,cT (m:Int) d.2.1 d.2.2.1)(hf:f < m)(h1:f∈S)(h2:∀p∈S,p < m/\mk m ds p=mk m ds f)(h3:∀d∈ds,d.1≠.pu->(d.2.1.toNat∈S↔d.2.2.1.toNat∈S))(hp:p < m):p∈S↔mk m ds p=mk m ds f:=by
 refine⟨fun h=>(h2 p h).2,fun h=>?_⟩;exact(Cn.ind (R:=fun a b=>a∈S↔b∈S) (fun _=>Iff.rfl) (fun _ _ e=>e.symm) (fun _ _ _ a b=>a.trans b) h3 ((Ir pt hf hp).mp h.symm)).mp h1
abbrev Stp:=Nat × Int
abbrev Br:=Nat × Nat × Nat
def stF (es:List Br)(p:Nat):List (Stp × Nat):=es.filterMap fun e=>if e.2.1=p then some ((e.1,1),e.2.2) else if e.2.2=p then some ((e.1,-1),e.2.1) else none
abbrev WS:=List (Nat × List Stp)
def cF (w:WS):List Nat:=w.map (·.1)
def rF:WS->Nat->Option (List Stp)
 | [],_=>none
 |e :: w,p=>if e.1=p then some e.2 else rF w p
theorem gQ {st:List Stp}:∀{w:WS},rF w p=some st->(p,st)∈w
 | [],h=>by cases h
 |e :: w,h=>by
  unfold rF at h
  by_cases c:e.1=p
  ·rw[if_pos c] at h
   cases h
   obtain⟨a,b⟩:=e;have c:a=p:=c;subst c;exact mem_cons_self ..
  ·rw[if_neg c] at h;exact mem_cons_of_mem _ (gQ h)
theorem pY:∀{w:WS},p∈cF w->∃st,rF w p=some st
 | [],h=>by cases h
 |e :: w,h=>by
  unfold rF
  by_cases c:e.1=p
  ·rw[if_pos c];exact⟨_,rfl⟩
  ·rw[if_neg c];rcases mem_cons.mp h with z | z
   ·exact absurd z.symm c
   ·exact pY z
theorem rB:∀{w:WS},p∉cF w->rF w p=none
 | [],_=>rfl
 |e :: w,h=>by
  unfold rF;rw[if_neg (fun z=>h (by rw[<- z];exact mem_cons_self ..))];exact rB fun z=>h (mem_cons_of_mem _ z)
theorem Ng:(rF w p).isSome=true↔p∈cF w:=by
 by_cases c:p∈cF w
 ·obtain⟨st,e⟩:=pY c;rw[e];exact⟨fun _=>c,fun _=>rfl⟩
 ·rw[rB c];exact⟨fun z=>(by cases z),fun z=>absurd z c⟩
def inF (p:Nat)(s:WS × List Nat)(t:Stp × Nat):WS × List Nat:=if t.2∈cF s.1 then s else (s.1++[(t.2,(rF s.1 p).getD []++[t.1])],s.2++[t.2])
def lQ (es:List Br)(s:WS × List Nat):WS × List Nat:=if s.2=[] then s else (stF es (s.2.getLastD 0)).foldl (inF (s.2.getLastD 0)) (s.1,s.2.dropLast)
def cG (es:List Br)(b:Nat):Nat->WS × List Nat
 |0=>([(b,[])],[b])
 |n+1=>lQ es (cG es b n)
def kW (es:List Br)(b e:Nat):Option (List Stp):=rF (cG es b 60).1 e
def pD (es:List Br)(s:Stp)(p q:Nat):Prop:=∃u v,(s.1,u,v)∈es/\((s.2=1/\p=u/\q=v)\/(s.2=-1/\p=v/\q=u))
inductive Pt (es:List Br) (b:Nat):List Stp->Nat->List Nat->Prop where
 |nil:Pt es b [] b [b]
 |snoc {st:List Stp} {p q:Nat} {pts:List Nat} {s:Stp} (h:Pt es b st p pts) (g:pD es s p q) (n:q∉pts):Pt es b (st++[s]) q (pts++[q])
theorem mZ (h:t∈stF es p):pD es t.1 p t.2:=by
 unfold stF at h;obtain⟨e,he,ht⟩:=mem_filterMap.mp h
 by_cases c1:e.2.1=p
 ·rw[if_pos c1] at ht
  cases ht
  exact⟨e.2.1,e.2.2,he,.inl ⟨rfl,c1.symm,rfl⟩⟩
 ·rw[if_neg c1] at ht
  by_cases c2:e.2.2=p
  ·rw[if_pos c2] at ht
   cases ht
   exact⟨e.2.1,e.2.2,he,.inr ⟨rfl,c2.symm,rfl⟩⟩
  ·rw[if_neg c2] at ht;cases ht
theorem Np (h:pD es s p q):q=p\/∃t∈stF es p,t.2=q:=by
 obtain⟨u,v,he,h⟩:=h
 by_cases c:q=p
 ·exact .inl c
 refine .inr ?_;rcases h with ⟨_,rfl,rfl⟩ | ⟨_,rfl,rfl⟩
 ·refine⟨((s.1,1),q),mem_filterMap.mpr ⟨_,he,?_⟩,rfl⟩;rw[if_pos rfl]
 ·refine⟨((s.1,-1),q),mem_filterMap.mpr ⟨_,he,?_⟩,rfl⟩;rw[if_neg c,if_pos rfl]
structure WI (es:List Br) (b:Nat) (s:WS × List Nat):Prop where
 nd:(cF s.1).Nodup
 kb:b∈cF s.1
 pt:∀x st,(x,st)∈s.1->∃pts,Pt es b st x pts/\∀y∈pts,y∈cF s.1
 q:∀x∈s.2,x∈cF s.1
 cl:∀x∈cF s.1,x∉s.2->∀t y,pD es t x y->y∈cF s.1
theorem So (es:List Br)(b:Nat):WI es b ([(b,[])],[b]):=by
 refine⟨by simp[cF],by simp[cF],fun x st h=>?_,fun x h=>?_,fun x h n=>?_⟩
 ·have:(x,st)=(b,[]):=by simpa using h
  cases this
  exact⟨[b],.nil,fun y hy=>by simpa[cF] using hy⟩
 ·simpa[cF] using h
 ·have:x=b:=by simpa[cF] using h
  exact absurd (by simp[this]) n
theorem Ag (w:WS)(x:Nat)(st:List Stp):cF (w++[(x,st)])=cF w++[x]:=by unfold cF;rw[map_append];rfl
structure WJ (es:List Br) (b p:Nat) (T:List (Stp × Nat)) (s:WS × List Nat):Prop where
 nd:(cF s.1).Nodup
 kb:b∈cF s.1
 kp:p∈cF s.1
 pt:∀x st,(x,st)∈s.1->∃pts,Pt es b st x pts/\∀y∈pts,y∈cF s.1
 q:∀x∈s.2,x∈cF s.1
 cl:∀x∈cF s.1,x∉s.2->x≠p->∀t y,pD es t x y->y∈cF s.1
 t:∀t∈T,t.2∈cF s.1
theorem Jo (h:WJ es b p T s)(g:pD es t.1 p t.2):WJ es b p (T++[t]) (inF p s t):=by
 unfold inF
 by_cases c:t.2∈cF s.1
 ·rw[if_pos c];refine { h with t:=fun u hu=>?_ };rcases mem_append.mp hu with z | z
  ·exact h.t u z
  ·have:u=t:=by simpa using z
   rw[this];exact c
 ·rw[if_neg c];obtain⟨sp,ep⟩:=pY h.kp;rw[ep];have up:∀{x:Nat},x∈cF s.1->x∈cF (s.1++[(t.2,sp++[t.1])]):=fun hx=>by rw[Ag];exact mem_append_left _ hx
  have me:t.2∈cF (s.1++[(t.2,sp++[t.1])]):=by rw[Ag];simp
  refine⟨?_,up h.kb,up h.kp,fun x st hx=>?_,fun x hx=>?_,fun x hx nx np=>?_,fun u hu=>?_⟩
  ·show (cF (s.1++[(t.2,sp++[t.1])])).Nodup;rw[Ag,nodup_append];refine⟨h.nd,by simp,fun x hx y hy z=>?_⟩;have:y=t.2:=by simpa using hy
   exact c (by rw[<- this,<- z];exact hx)
  ·rcases mem_append.mp hx with z | z
   ·obtain⟨pts,h1,h2⟩:=h.pt x st z;exact⟨pts,h1,fun y hy=>up (h2 y hy)⟩
   ·have:(x,st)=(t.2,sp++[t.1]):=by simpa using z
    cases this
    obtain⟨pts,h1,h2⟩:=h.pt p sp (gQ ep);refine⟨pts++[t.2],.snoc h1 g (fun z=>c (h2 _ z)),fun y hy=>?_⟩;rcases mem_append.mp hy with z | z
    ·exact up (h2 y z)
    ·have:y=t.2:=by simpa using z
     rw[this];exact me
  ·rcases mem_append.mp hx with z | z
   ·exact up (h.q x z)
   ·have:x=t.2:=by simpa using z
    rw[this];exact me
  ·have hx':x∈cF s.1:=by
    have hx2:x∈cF (s.1++[(t.2,sp++[t.1])]):=hx;rw[Ag] at hx2;rcases mem_append.mp hx2 with z | z
    ·exact z
    ·exact absurd (mem_append_right _ z) nx
   intro t' y hg;exact up (h.cl x hx' (fun z=>nx (mem_append_left _ z)) np t' y hg)
  ·rcases mem_append.mp hu with z | z
   ·exact up (h.t u z)
   ·have:u=t:=by simpa using z
    rw[this];exact me
theorem Bq:∀(U T:List (Stp × Nat)) {s:WS × List Nat},WJ es b p T s->(∀t∈U,pD es t.1 p t.2)->WJ es b p (T++U) (U.foldl (inF p) s)
 | [],T,s,h,_=>by rw[append_nil];exact h
 |u :: U,T,s,h,g=>by
  have:=Bq U (T++[u]) (Jo h (g u (by simp))) fun t ht=>g t (mem_cons_of_mem _ ht);rw[List.append_assoc] at this;exact this
theorem Ht (h:q≠[]):q.getLastD 0∈q/\q=q.dropLast++[q.getLastD 0]:=by
 have e:q.getLastD 0=q.getLast h:=by rw[getLastD_eq_getLast?,getLast?_eq_some_getLast h];rfl
 rw[e];exact⟨getLast_mem h,(dropLast_concat_getLast h).symm⟩
theorem wD (h:WI es b s)(hq:s.2≠[]):WJ es b (s.2.getLastD 0) [] (s.1,s.2.dropLast):=by
 obtain⟨m,e⟩:=Ht hq;refine⟨h.nd,h.kb,h.q _ m,h.pt,fun x hx=>h.q x (dropLast_subset _ hx),fun x hx nx np=>h.cl x hx fun z=>?_,fun t ht=>by cases ht⟩;rw[e] at z;rcases mem_append.mp z with z | z
 ·exact nx z
 ·exact np (by simpa using z)
theorem Xr (h:WJ es b p (stF es p) s):WI es b s:=by
 refine⟨h.nd,h.kb,h.pt,h.q,fun x hx nx t y hg=>?_⟩
 by_cases c:x=p
 ·subst c;rcases Np hg with z | ⟨u,hu,e⟩
  ·rw[z];exact hx
  ·rw[<- e];exact h.t u hu
 ·exact h.cl x hx nx c t y hg
theorem Tg (h:WI es b s):WI es b (lQ es s):=by
 unfold lQ
 by_cases c:s.2=[]
 ·rw[if_pos c];exact h
 ·rw[if_neg c];have:=Bq (stF es (s.2.getLastD 0)) [] (wD h c) fun t ht=>mZ ht;rw[nil_append] at this;exact Xr this
theorem jT (es:List Br)(b:Nat):∀n,WI es b (cG es b n)
 |0=>So es b
 |n+1=>Tg (jT es b n)
def muF (s:WS × List Nat):Nat:=2*(20 - s.1.length)+s.2.length
structure Ptm (m:Nat) (es:List Br):Prop where
 p:∀e∈es,e.2.1 < m/\e.2.2 < m
theorem qj2 (h:Ptm m es)(hb:b < m){st:List Stp}(p:Pt es b st x pts):x < m:=by
 cases p with
 |nil=>exact hb
 |snoc _ g _=>
  obtain⟨u,v,he,g⟩:=g;have:=h.p _ he;rcases g with ⟨_,_,rfl⟩ | ⟨_,_,rfl⟩
  ·exact this.2
  ·exact this.1
theorem Ap (h:Ptm m es)(hb:b < m)(pt:∀x st,(x,st)∈w->∃pts,Pt es b st x pts/\∀y∈pts,y∈cF w):∀x∈cF w,x < m:=fun x hx=>by
 obtain⟨st,e⟩:=pY hx;obtain⟨pts,p,_⟩:=pt x st (gQ e);exact qj2 h hb p
theorem Se (h:Ptm m es)(hb:b < m)(nd:(cF w).Nodup)(pt:∀x st,(x,st)∈w->∃pts,Pt es b st x pts/\∀y∈pts,y∈cF w):w.length<=m:=by
 have:=Kc nd (Ap h hb pt);unfold cF at this
 rwa [length_map] at this
theorem qg4 (hm:Ptm m es)(hb:b < m)(h20:m<=20)(h:WJ es b p T s)(g:pD es t.1 p t.2):muF (inF p s t)<=muF s:=by
 have h':=Jo h g;have le:=Se hm hb h'.nd h'.pt;unfold inF at le ⊢
 by_cases c:t.2∈cF s.1
 ·rw[if_pos c];exact Nat.le_refl _
 ·rw[if_neg c] at le ⊢;unfold muF;simp only[List.length_append,length_cons,length_nil] at le ⊢;lia
theorem As (hm:Ptm m es)(hb:b < m)(h20:m<=20):∀(U T:List (Stp × Nat)) {s:WS × List Nat},WJ es b p T s->(∀t∈U,pD es t.1 p t.2)->muF (U.foldl (inF p) s)<=muF s
 | [],_,_,_,_=>Nat.le_refl _
 |u :: U,T,s,h,g=>Nat.le_trans (As hm hb h20 U (T++[u]) (Jo h (g u (by simp))) fun t ht=>g t (mem_cons_of_mem _ ht)) (qg4 hm hb h20 h (g u (by simp)))
theorem Db (h:s.2≠[]):muF (s.1,s.2.dropLast)+1=muF s:=by
 have:0 < s.2.length:=length_pos_iff.mpr h;show 2*(20 - s.1.length)+s.2.dropLast.length+1=2*(20 - s.1.length)+s.2.length;rw[length_dropLast];lia
theorem Ji (hm:Ptm m es)(hb:b < m)(h20:m<=20)(h:WI es b s)(hq:s.2≠[]):muF (lQ es s)+1<=muF s:=by
 unfold lQ;rw[if_neg hq];have:=As hm hb h20 (stF es (s.2.getLastD 0)) [] (wD h hq) fun t ht=>mZ ht;have e:=Db hq;lia
theorem xR (h:(cG es b i).2=[]):∀n,cG es b (i+n)=cG es b i
 |0=>rfl
 |n+1=>by
  show lQ es (cG es b (i+n))=_;rw[xR h n];unfold lQ;rw[if_pos h]
theorem Wj (h:(cG es b i).2=[])(hi:i<=60):(cG es b 60).1=(cG es b i).1:=by
 have:=xR h (60 - i);rw[show i+(60 - i)=60 by lia] at this;rw[this]
theorem rC (hm:Ptm m es)(hb:b < m)(h20:m<=20):∀n,(cG es b n).2=[]\/n+muF (cG es b n)<=39
 |0=>.inr (by show 0+(2*(20 - 1)+1)<=39;lia)
 |n+1=>by
  by_cases c:(cG es b n).2=[]
  ·refine .inl ?_;show (lQ es (cG es b n)).2=[]
   unfold lQ;rw[if_pos c];exact c
  ·rcases rC hm hb h20 n with z | z
   ·exact absurd z c
   ·have:=Ji hm hb h20 (jT es b n) c;refine .inr ?_;show n+1+muF (lQ es (cG es b n))<=39;lia
theorem Pm (hm:Ptm m es)(hb:b < m)(h20:m<=20):(cG es b 60).2=[]:=by
 rcases rC hm hb h20 60 with z | z
 ·exact z
 ·lia
def dF (es:List Br):List RD:=es.map fun e=>(.pc,(e.2.1:Int),(e.2.2:Int),(0,1))
theorem vY (h:Ptm m es):∀d∈dF es,cT (m:Int) d.2.1 d.2.2.1:=fun d hd=>by
 obtain⟨e,he,rfl⟩:=mem_map.mp hd;have:=h.p e he;exact⟨by show (0:Int)<=(e.2.1:Int);lia,by show ((e.2.1:Nat):Int) < m;lia,by show (0:Int)<=(e.2.2:Int);lia,by show ((e.2.2:Nat):Int) < m;lia⟩
theorem Iv (h:Ptm m es)(g:pD es s p q):mk m (dF es) q=mk m (dF es) p:=by
 obtain⟨u,v,he,g⟩:=g;have e:=pN _ (dF es) rfl (vY h) (.pc,(u:Int),(v:Int),(0,1)) (mem_map.mpr ⟨_,he,rfl⟩) (by intro z;cases z);rw[Int.toNat_natCast,Int.toNat_natCast] at e;rcases g with ⟨_,rfl,rfl⟩ | ⟨_,rfl,rfl⟩
 ·exact e.symm
 ·exact e
theorem qj8 (h:Ptm m es){st:List Stp}(p:Pt es b st x pts):mk m (dF es) x=mk m (dF es) b:=by
 induction p with
 |nil=>rfl
 |snoc _ g _ ih=>rw[Iv h g,ih]
theorem Io (h:Ptm m es)(h20:m<=20)(hb:b < m)(he:e < m):(kW es b e).isSome=true↔mk m (dF es) e=mk m (dF es) b:=by
 have wi:=jT es b 60;have q0:=Pm h hb h20;unfold kW;rw[Ng];refine Mf (vY h) hb wi.kb (fun p hp=>⟨Ap h hb wi.pt p hp,?_⟩) (fun d hd _=>?_) he
 ·obtain⟨st,e'⟩:=pY hp;obtain⟨pts,pp,_⟩:=wi.pt p st (gQ e');exact qj8 h pp
 ·obtain⟨a,ha,rfl⟩:=mem_map.mp hd;show ((a.2.1:Int).toNat∈_↔(a.2.2:Int).toNat∈_);rw[Int.toNat_natCast,Int.toNat_natCast];exact⟨fun z=>wi.cl _ z (by rw[q0];simp) (a.1,1) _ ⟨a.2.1,a.2.2,ha,.inl ⟨rfl,rfl,rfl⟩⟩,fun z=>wi.cl _ z (by rw[q0];simp) (a.1,-1) _ ⟨a.2.1,a.2.2,ha,.inr ⟨rfl,rfl,rfl⟩⟩⟩
structure uY (es:List Br) (b e:Nat) (st:List Stp) (pts:List Nat):Prop where
 l:pts.length=st.length+1
 hb:pts[0]?=some b
 he:pts[st.length]?=some e
 g:∀i s,st[i]?=some s->∃p q,pts[i]?=some p/\pts[i+1]?=some q/\pD es s p q
 n:(st.map (·.1)).Nodup
theorem Tx {st:List Stp}(p:Pt es b st x pts):∀s∈st,∃y z,y∈pts/\z∈pts/\pD es s y z:=by
 induction p with
 |nil=>intro s h;cases h
 | @snoc st p q pts s h g n ih=>
  intro t ht;rcases mem_append.mp ht with z | z
  ·obtain⟨y,z',h1,h2,h3⟩:=ih t z;exact⟨y,z',mem_append_left _ h1,mem_append_left _ h2,h3⟩
  ·have:t=s:=by simpa using z
   subst this;refine⟨p,q,mem_append_left _ ?_,by simp,g⟩
   cases h with
   |nil=>simp
   |snoc _ _ _=>simp
theorem Lh {st:List Stp}(ne:(es.map (·.1)).Nodup)(p:Pt es b st x pts):uY es b x st pts:=by
 induction p with
 |nil=>exact⟨rfl,rfl,rfl,fun i s h=>by simp at h,by simp⟩
 | @snoc st p q pts s h g n ih=>
  have l:=ih.l;refine⟨by rw[List.length_append,List.length_append,l];rfl,?_,?_,fun i t ht=>?_,?_⟩
  ·rw[getElem?_append_left (by lia)];exact ih.hb
  ·rw[List.length_append,getElem?_append_right (by simp;lia)];simp only[length_cons,length_nil];rw[show st.length+(0+1) - pts.length=0 by lia];rfl
  ·by_cases c:i < st.length
   ·rw[getElem?_append_left c] at ht;obtain⟨y,z,h1,h2,h3⟩:=ih.g i t ht;exact⟨y,z,by rw[getElem?_append_left (by lia)];exact h1,by rw[getElem?_append_left (by lia)];exact h2,h3⟩
   ·have hi:i=st.length:=by
     have:=(List.getElem?_eq_some_iff.mp ht).1;simp only[List.length_append,length_cons,length_nil] at this;lia
    subst hi;rw[getElem?_append_right (Nat.le_refl _),Nat.sub_self] at ht;have:s=t:=by simpa using ht
    subst this;refine⟨p,q,by rw[getElem?_append_left (by lia)];exact ih.he,?_,g⟩;rw[getElem?_append_right (by lia),show st.length+1 - pts.length=0 by lia];rfl
  ·rw[map_append,nodup_append];refine⟨ih.n,by simp,fun a ha c hc z=>?_⟩;have hc:c=s.1:=by simpa using hc
   obtain⟨t,ht,et⟩:=mem_map.mp ha;obtain⟨y,w,h1,h2,u',v',he',g'⟩:=Tx h t ht;obtain⟨u,v,he,g⟩:=g;have same:(t.1,u',v')=(s.1,u,v):=by
    have key:∀{l:List Br},(l.map (·.1)).Nodup->∀{a c:Br},a∈l->c∈l->a.1=c.1->a=c:=fun {l}=>by
     induction l with
     |nil=>intro _ a c h;cases h
     |cons x l ih=>
      intro nd a c ha hc e;rw[map_cons,nodup_cons] at nd;rcases mem_cons.mp ha with rfl | z1<;>rcases mem_cons.mp hc with rfl | z2
      ·rfl
      ·exact absurd (mem_map.mpr ⟨c,z2,e.symm⟩) nd.1
      ·exact absurd (mem_map.mpr ⟨a,z1,e⟩) nd.1
      ·exact ih nd.2 z1 z2 e
    exact key ne he' he (by show t.1=s.1;rw[et,z,hc])
   have e1:u'=u:=by injection same with _ e;injection e
   have e2:v'=v:=by injection same with _ e;injection e
   subst e1;subst e2;rcases g with ⟨_,rfl,rfl⟩ | ⟨_,rfl,rfl⟩<;>rcases g' with ⟨_,rfl,rfl⟩ | ⟨_,rfl,rfl⟩
   ·exact n h2
   ·exact n h1
   ·exact n h1
   ·exact n h2
theorem Kx {st:List Stp}(ne:(es.map (·.1)).Nodup)(h:kW es b e=some st):∃pts,uY es b e st pts:=by
 obtain⟨pts,p,_⟩:=(jT es b 60).pt e st (gQ h);exact⟨pts,Lh ne p⟩
theorem yE {st:List Stp}(hm:Ptm m es)(hb:b < m)(h:kW es b e=some st):st.length < m:=by
 obtain⟨pts,p,k⟩:=(jT es b 60).pt e st (gQ h);have l:pts.length=st.length+1:=by
  clear h
  induction p with
  |nil=>rfl
  |snoc h g n ih=>rw[List.length_append,List.length_append,ih fun y hy=>k y (mem_append_left _ hy)];rfl
 have nd:pts.Nodup:=by
  clear h k l
  induction p with
  |nil=>simp
  |snoc h g n ih=>
   rw[nodup_append];refine⟨ih,by simp,fun x hx y hy z=>n ?_⟩;rw[mem_singleton] at hy;rw[<- hy,<- z];exact hx
 have:=Kc nd fun y hy=>Ap hm hb (jT es b 60).pt y (k y hy);lia
abbrev Sk:=Kd × Nat × Nat
def skl (ds:List RD):List Sk:=ds.map fun d=>(d.1,d.2.1.toNat,d.2.2.1.toNat)
abbrev RS:=List Br × List (Nat × List Stp)
def fP (W:Kd->Bool)(s:RS)(k:Nat)(d:Sk):RS:=if W d.1 then (match kW s.1 d.2.2 d.2.1 with
 |none=>(s.1++[(k,d.2.1,d.2.2)],s.2)
 |some st=>(s.1,s.2++[(k,(k,1) :: st)])) else s
def bY (W:Kd->Bool)(sk:List Sk):Nat->RS
 |0=>([],[])
 |n+1=>match sk[n]? with
  |none=>bY W sk n
  |some d=>fP W (bY W sk n) n d
theorem gN (h:sk[n]?=some d):bY W sk (n+1)=fP W (bY W sk n) n d:=by
 show (match sk[n]? with | none=>bY W sk n | some d=>fP W (bY W sk n) n d)=_;rw[h]
structure RI (W:Kd->Bool) (sk:List Sk) (m n:Nat) (s:RS):Prop where
 pt:Ptm m s.1
 nd:(s.1.map (·.1)).Nodup
 lt:∀e∈s.1,e.1 < n
 at_:∀e∈s.1,∃k,sk[e.1]?=some (k,e.2.1,e.2.2)
 rl:s.2.length<=n
 r:∀c∈s.2,c.1 < n/\∃k u v st pts,sk[c.1]?=some (k,u,v)/\c.2=(c.1,1) :: st/\(∀t∈st,t.1 < c.1/\t.1∈s.1.map (·.1))/\uY s.1 v u st pts/\st.length < m
theorem uY.mono {st:List Stp}(h:uY es b e st pts)(hs:∀x∈es,x∈es'):uY es' b e st pts:=
 { h with g:=fun i s hi=>let ⟨p,q,h1,h2,u,v,h3,h4⟩:=h.g i s hi;⟨p,q,h1,h2,u,v,hs _ h3,h4⟩ }
theorem Pw {st:List Stp}(h:uY es b e st pts):∀t∈st,t.1∈es.map (·.1):=fun t ht=>by
 obtain⟨i,hi⟩:=getElem?_of_mem ht;obtain⟨p,q,_,_,u,v,h3,_⟩:=h.g i t hi;exact mem_map.mpr ⟨_,h3,rfl⟩
theorem jA (hm:∀d∈sk,d.2.1 < m/\d.2.2 < m):∀n,n<=sk.length->RI W sk m n (bY W sk n)
 |0,_=>⟨⟨fun e h=>(by cases h)⟩,(by show ([]:List Nat).Nodup;simp),fun e h=>(by cases h),fun e h=>(by cases h),Nat.le_refl _,fun c h=>(by cases h)⟩
 |n+1,hn=>by
  have ih:=jA (W:=W) hm n (by lia);have hd:sk[n]?=some sk[n]:=getElem?_eq_getElem (by lia);rw[gN hd];have pm:=hm _ (mem_of_getElem? hd);generalize sk[n]=d at hd pm;generalize bY W sk n=s at ih;unfold fP
  by_cases hw:W d.1=true
  ·rw[if_pos hw]
   cases hy:kW s.1 d.2.2 d.2.1 with
   |none=>
    show RI W sk m (n+1) (s.1++[(n,d.2.1,d.2.2)],s.2);refine⟨⟨fun e he=>?_⟩,?_,fun e he=>?_,fun e he=>?_,by have:=ih.rl;show s.2.length<=n+1;lia,fun c hc=>?_⟩
    ·rcases mem_append.mp he with z | z
     ·exact ih.pt.p e z
     ·have:e=(n,d.2.1,d.2.2):=by simpa using z
      rw[this];exact pm
    ·show ((s.1++[(n,d.2.1,d.2.2)]).map (·.1)).Nodup;rw[map_append,nodup_append];refine⟨ih.nd,by simp,fun x hx y hy z=>?_⟩;have:y=n:=by simpa using hy
     obtain⟨e,he,ee⟩:=mem_map.mp hx;have:=ih.lt e he;lia
    ·rcases mem_append.mp he with z | z
     ·have:=ih.lt e z;lia
     ·have:e=(n,d.2.1,d.2.2):=by simpa using z
      rw[this];exact Nat.lt_succ_self n
    ·rcases mem_append.mp he with z | z
     ·exact ih.at_ e z
     ·have:e=(n,d.2.1,d.2.2):=by simpa using z
      rw[this];exact⟨d.1,hd⟩
    ·obtain⟨h1,k,u,v,st,pts,h2,h3,h4,h5,h6⟩:=ih.r c hc;refine⟨by lia,k,u,v,st,pts,h2,h3,fun t ht=>⟨(h4 t ht).1,?_⟩,h5.mono fun x hx=>mem_append_left _ hx,h6⟩;show t.1∈(s.1++[(n,d.2.1,d.2.2)]).map (·.1);rw[map_append];exact mem_append_left _ (h4 t ht).2
   |some st=>
    show RI W sk m (n+1) (s.1,s.2++[(n,(n,1) :: st)]);refine⟨ih.pt,ih.nd,fun e he=>Nat.lt_succ_of_lt (ih.lt e he),ih.at_,by have:=ih.rl;show (s.2++[(n,(n,1) :: st)]).length<=n+1;rw[List.length_append];simp only[length_cons,length_nil];lia,fun c hc=>?_⟩;rcases mem_append.mp hc with z | z
    ·obtain⟨h1,r⟩:=ih.r c z;exact⟨by lia,r⟩
    ·have:c=(n,(n,1) :: st):=by simpa using z
     subst this;obtain⟨pts,ch⟩:=Kx ih.nd hy;refine⟨Nat.lt_succ_self n,d.1,d.2.1,d.2.2,st,pts,hd,rfl,fun t ht=>?_,ch,yE ih.pt pm.2 hy⟩;have ti:=Pw ch t ht;obtain⟨e,he,ee⟩:=mem_map.mp ti;have:=ih.lt e he;exact⟨by show t.1 < n;lia,ti⟩
  ·rw[if_neg hw];exact⟨ih.pt,ih.nd,fun e he=>Nat.lt_succ_of_lt (ih.lt e he),ih.at_,by have:=ih.rl;lia,fun c hc=>let ⟨h1,r⟩:=ih.r c hc;⟨by lia,r⟩⟩
theorem SqT.updD {K:Frag}(h:SqT K H a xs)(hl:H l=some (.dK kvs)):SqT K (L2.upd H l o) a xs:=by
 rcases h with (h | ⟨u,h⟩) | h
 ·exact .inl (.inl (by rw[aQ (fD h hl (fun z=>by cases z))];exact h))
 ·exact .inl (.inr ⟨u,by rw[aQ (fD h hl (fun z=>by cases z))];exact h⟩)
 ·exact .inr h
inductive Sts (K:Frag) (H:Hp):List V->List Stp->Prop where
 |nil:Sts K H [] []
 |cons {t:Addr} {n:Nat} {w:Int} {xs:List V} {st:List Stp} (h:SqT K H t [.int (n:Int),.int w]) (q:Sts K H xs st):Sts K H (.ref t :: xs) ((n,w) :: st)
section
variable {K:Frag} {H H':Hp}
theorem Sts.same (e:aS H H'):∀{xs:List V} {st:List Stp},Sts K H xs st->Sts K H' xs st
 |_,_,.nil=>.nil
 |_,_,.cons h q=>.cons (e.seqT h) (Sts.same e q)
theorem Sts.length:∀{xs:List V} {st:List Stp},Sts K H xs st->xs.length=st.length
 |_,_,.nil=>rfl
 |_,_,.cons _ q=>by simp[Sts.length q]
theorem Sts.app:∀{xs ys:List V} {st su:List Stp},Sts K H xs st->Sts K H ys su->Sts K H (xs++ys) (st++su)
 |_,_,_,_,.nil,r=>r
 |_,_,_,_,.cons h q,r=>.cons h (Sts.app q r)
theorem Sts.get:∀{xs:List V} {st:List Stp} {i:Nat} {x:V},Sts K H xs st->xs[i]?=some x->∃t s,x=.ref t/\st[i]?=some s/\SqT K H t [.int (s.1:Int),.int s.2]
 |_,_,_,_,.nil,h=>by simp at h
 |_,_,0,_,.cons h _,e=>by simp at e;subst e;exact⟨_,_,rfl,rfl,h⟩
 |_,_,i+1,_,.cons _ q,e=>by simpa using Sts.get q (by simpa using e)
theorem Sts.upd (hl:H l=some (.lst ys)):∀{xs:List V} {st:List Stp},Sts K H xs st->Sts K (L2.upd H l o) xs st
 |_,_,.nil=>.nil
 |_,_,.cons h q=>.cons (SqT.upd h hl) (Sts.upd hl q)
theorem Sts.updD (hl:H l=some (.dK kvs)):∀{xs:List V} {st:List Stp},Sts K H xs st->Sts K (L2.upd H l o) xs st
 |_,_,.nil=>.nil
 |_,_,.cons h q=>.cons (SqT.updD h hl) (Sts.updD hl q)
end
inductive Sds (K:Frag) (H:Hp):List V->List (Stp × Nat)->Prop where
 |nil:Sds K H [] []
 |cons {t s:Addr} {n x:Nat} {w:Int} {xs:List V} {st:List (Stp × Nat)} (h:SqT K H t [.ref s,.int (x:Int)]) (g:SqT K H s [.int (n:Int),.int w]) (q:Sds K H xs st):Sds K H (.ref t :: xs) (((n,w),x) :: st)
section
variable {K:Frag} {H H':Hp}
theorem Sds.same (e:aS H H'):∀{xs:List V} {st:List (Stp × Nat)},Sds K H xs st->Sds K H' xs st
 |_,_,.nil=>.nil
 |_,_,.cons h g q=>.cons (e.seqT h) (e.seqT g) (Sds.same e q)
theorem Sds.length:∀{xs:List V} {st:List (Stp × Nat)},Sds K H xs st->xs.length=st.length
 |_,_,.nil=>rfl
 |_,_,.cons _ _ q=>by simp[Sds.length q]
theorem Sds.app:∀{xs ys:List V} {st su:List (Stp × Nat)},Sds K H xs st->Sds K H ys su->Sds K H (xs++ys) (st++su)
 |_,_,_,_,.nil,r=>r
 |_,_,_,_,.cons h g q,r=>.cons h g (Sds.app q r)
theorem Sds.get:∀{xs:List V} {st:List (Stp × Nat)} {i:Nat} {x:V},Sds K H xs st->xs[i]?=some x->∃t u s,x=.ref t/\st[i]?=some s/\SqT K H t [.ref u,.int (s.2:Int)]/\SqT K H u [.int (s.1.1:Int),.int s.1.2]
 |_,_,_,_,.nil,h=>by simp at h
 |_,_,0,_,.cons h g _,e=>by simp at e;subst e;exact⟨_,_,_,rfl,rfl,h,g⟩
 |_,_,i+1,_,.cons _ _ q,e=>by simpa using Sds.get q (by simpa using e)
theorem Sds.upd (hl:H l=some (.lst ys)):∀{xs:List V} {st:List (Stp × Nat)},Sds K H xs st->Sds K (L2.upd H l o) xs st
 |_,_,.nil=>.nil
 |_,_,.cons h g q=>.cons (SqT.upd h hl) (SqT.upd g hl) (Sds.upd hl q)
theorem Sds.updD (hl:H l=some (.dK kvs)):∀{xs:List V} {st:List (Stp × Nat)},Sds K H xs st->Sds K (L2.upd H l o) xs st
 |_,_,.nil=>.nil
 |_,_,.cons h g q=>.cons (SqT.updD h hl) (SqT.updD g hl) (Sds.updD hl q)
end
inductive Wys (K:Frag) (H0:Hp) (W:Addr) (H:Hp):List (Key × V)->WS->Prop where
 |nil:Wys K H0 W H [] []
 |cons {a:Addr} {x:Nat} {xs:List V} {st:List Stp} {kvs:List (Key × V)} {w:WS} (n:H0 a=none) (nw:a≠W) (h:H a=some (.lst xs)) (f:Sts K H xs st) (q:Wys K H0 W H kvs w):Wys K H0 W H ((Sum.inl (x:Int),.ref a) :: kvs) ((x,st) :: w)
section
variable {K:Frag} {H0 H H':Hp} {W:Addr}
theorem Wys.same (e:aS H H'):∀{kvs:List (Key × V)} {w:WS},Wys K H0 W H kvs w->Wys K H0 W H' kvs w
 |_,_,.nil=>.nil
 |_,_,.cons n nw h f q=>.cons n nw (e _ _ h) (f.same e) (Wys.same e q)
theorem Wys.updW (hl:H W=some (.lst ys)):∀{kvs:List (Key × V)} {w:WS},Wys K H0 W H kvs w->Wys K H0 W (L2.upd H W o) kvs w
 |_,_,.nil=>.nil
 |_,_,.cons n nw h f q=>.cons n nw (by rw[aQ nw];exact h) (f.upd hl) (Wys.updW hl q)
theorem Wys.updD (hl:H D=some (.dK kv)):∀{kvs:List (Key × V)} {w:WS},Wys K H0 W H kvs w->Wys K H0 W (L2.upd H D o) kvs w
 |_,_,.nil=>.nil
 |_,_,.cons n nw h f q=>.cons n nw (by rw[aQ (fD h hl (fun z=>by cases z))];exact h) (f.updD hl) (Wys.updD hl q)
theorem Wys.length:∀{kvs:List (Key × V)} {w:WS},Wys K H0 W H kvs w->kvs.length=w.length
 |_,_,.nil=>rfl
 |_,_,.cons _ _ _ _ q=>by simp[Wys.length q]
theorem Wys.snoc {x:Nat}{st:List Stp}(n:H0 a=none)(nw:a≠W)(h:H a=some (.lst xs))(f:Sts K H xs st):∀{kvs:List (Key × V)} {w:WS},Wys K H0 W H kvs w->Wys K H0 W H (kvs++[(Sum.inl (x:Int),.ref a)]) (w++[(x,st)])
 |_,_,.nil=>.cons n nw h f .nil
 |_,_,.cons n' nw' h' f' q=>.cons n' nw' h' f' (Wys.snoc n nw h f q)
theorem Wys.none_:∀{kvs:List (Key × V)} {w:WS},Wys K H0 W H kvs w->p∉cF w->pG kvs (Sum.inl (p:Int))=none/\(kvs.any fun kv=>decide (kv.1=Sum.inl (p:Int)))=false
 |_,_,.nil,_=>⟨rfl,rfl⟩
 |_,_,.cons (x:=x) (kvs:=kvs) (w:=w) n nw h f q,hp=>by
  have hx:x≠p:=fun z=>hp (by rw[<- z];exact mem_cons_self ..);obtain⟨h1,h2⟩:=Wys.none_ q fun z=>hp (mem_cons_of_mem _ z);refine⟨by rw[nU (fun z=>hx (Int.ofNat.inj (Sum.inl.inj z)))];exact h1,?_⟩;rw[any_cons,h2];have e:decide ((Sum.inl (x:Int):Key)=Sum.inl (p:Int))=false:=decide_eq_false fun z=>hx (Int.ofNat.inj (Sum.inl.inj z));show (decide ((Sum.inl (x:Int):Key)=Sum.inl (p:Int)) || false)=false;rw[e];rfl
theorem Wys.some_:∀{kvs:List (Key × V)} {w:WS},Wys K H0 W H kvs w->p∈cF w->∃a xs st,pG kvs (Sum.inl (p:Int))=some (.ref a)/\rF w p=some st/\H0 a=none/\a≠W/\H a=some (.lst xs)/\Sts K H xs st
 |_,_,.nil,h=>by cases h
 |_,_,.cons (a:=a) (x:=x) (xs:=xs) (st:=st) (kvs:=kvs) (w:=w) n nw h f q,hp=>by
  by_cases c:x=p
  ·subst c;exact⟨a,xs,st,by rw[pE rfl],by unfold rF;rw[if_pos rfl],n,nw,h,f⟩
  ·have hp':p∈cF w:=by
    rcases mem_cons.mp hp with z | z
    ·exact absurd z.symm c
    ·exact z
   obtain⟨a',xs',st',h1,h2,r⟩:=Wys.some_ q hp';exact⟨a',xs',st',by rw[nU (fun z=>c (Int.ofNat.inj (Sum.inl.inj z)))];exact h1,by unfold rF;rw[if_neg c];exact h2,r⟩
theorem Wys.isSome {p:Nat}(h:Wys K H0 W H kvs w):(pG kvs (Sum.inl (p:Int))).isSome=decide (p∈cF w):=by
 by_cases c:p∈cF w
 ·obtain⟨a,xs,st,e,_⟩:=h.some_ c;rw[e,decide_eq_true c];rfl
 ·rw[(h.none_ c).1,decide_eq_false c];rfl
end
structure Rgs (K:Frag) (H0 H:Hp) (us:List V) (X:List (List Stp)):Prop where
 l:us.length=X.length
 r:∀(i:Nat) (x:V) (st:List Stp),us[i]?=some x->X[i]?=some st->∃(a:Addr) (xs:List V),x=.ref a/\H0 a=none/\H a=some (.lst xs)/\Sts K H xs st
theorem Rgs.nil {K:Frag}:Rgs K H0 H [] []:=⟨rfl,fun i x st h=>by simp at h⟩
theorem Rgs.same {K:Frag}(e:aS H H')(f:Rgs K H0 H us X):Rgs K H0 H' us X:=⟨f.l,fun i x st h1 h2=>let ⟨a,xs,e1,n,h,s⟩:=f.r i x st h1 h2;⟨a,xs,e1,n,e _ _ h,s.same e⟩⟩
theorem Rgs.snoc {K:Frag}{st:List Stp}(f:Rgs K H0 H us X)(n:H0 a=none)(h:H a=some (.lst xs))(s:Sts K H xs st):Rgs K H0 H (us++[.ref a]) (X++[st]):=by
 refine⟨by rw[List.length_append,List.length_append,f.l];rfl,fun i x qs h1 h2=>?_⟩;have l:=f.l
 by_cases c:i < us.length
 ·rw[getElem?_append_left c] at h1;rw[getElem?_append_left (by lia)] at h2;exact f.r i x qs h1 h2
 ·have hi:i=us.length:=by
   have:=(List.getElem?_eq_some_iff.mp h1).1;rw[List.length_append] at this;simp only[length_cons,length_nil] at this;lia
  subst hi;rw[getElem?_append_right (Nat.le_refl _),Nat.sub_self] at h1;rw[getElem?_append_right (by lia),show us.length - X.length=0 by lia] at h2
  cases h1
  cases h2
  exact⟨a,xs,rfl,n,h,s⟩
theorem Rgs.updO {K:Frag}{l:Addr}(f:Rgs K H0 H us X)(hl:H l=some (.lst ys))(n:∀x∈us,x≠.ref l):Rgs K H0 (upd H l o) us X:=⟨f.l,fun i x st h1 h2=>let ⟨a,xs,e1,n1,h,s⟩:=f.r i x st h1 h2;⟨a,xs,e1,n1,by rw[aQ (fun z=>n x (mem_of_getElem? h1) (by rw[e1,z]))];exact h,s.upd hl⟩⟩
def Zr (ds:List RD)(es:List Br):Prop:=∀e∈es,∃d,ds[e.1]?=some d/\d.2.1=(e.2.1:Int)/\d.2.2.1=(e.2.2:Int)
inductive Ba (K:Frag) (CK:Kd->Addr) (vs:List V) (H:Hp) (Q:VK) (E:XK):Prop where
 |mk (a b:Addr) (xs:List V) (ds:List RD) (es:List Br) (p:Nat):vs=[.ref a,.ref b,.int (p:Int)]->SqL K H a xs->iB CK K H xs ds->SqL K H b (es.map fun e=>V.int (e.1:Int))->Zr ds es->es.length<=100->(∀l ys H',aS H H'->H l=none->H' l=some (.lst ys)->Sds K H' ys (stF es p)->Q (.ref l) H')->Ba K CK vs H Q E
inductive Pk (K:Frag) (CK:Kd->Addr) (vs:List V) (H:Hp) (Q:VK) (E:XK):Prop where
 |mk (a b:Addr) (xs:List V) (ds:List RD) (es:List Br) (m f t:Nat):vs=[.ref a,.ref b,.int (f:Int),.int (t:Int)]->SqL K H a xs->iB CK K H xs ds->SqL K H b (es.map fun e=>V.int (e.1:Int))->Zr ds es->es.length<=100->Ptm m es->m<=20->f < m->(kW es f t=none->∀H',aS H H'->Q .non H')->(∀st,kW es f t=some st->∀l ys H',aS H H'->H l=none->H' l=some (.lst ys)->Sts K H' ys st->Q (.ref l) H')->Pk K CK vs H Q E
inductive Wds (K:Frag) (H:Hp):V->(Kd->Bool)->Prop where
 |non:Wds K H .non (fun k=>decide (k≠.pu))
 |seq {a:Addr} {ws:List V} (h:SqL K H a ws) (f:ws.all lT=true):Wds K H (.ref a) (fun k=>inV (.str k.wd) ws)
inductive tH (CN:Addr) (K:Frag) (vs:List V) (H:Hp) (Q:VK) (E:XK):Prop where
 |mk (n l:Addr) (v:V) (m:Nat) (ds:List RD) (W:Kd->Bool):vs=[.ref n,v]->cZ CN K H n l (m:Int) ds->(∀d∈ds,cT (m:Int) d.2.1 d.2.2.1)->m<=20->ds.length<=40->Wds K H v W->(∀r us H',aS H H'->H r=none->H' r=some (.lst us)->Rgs K H H' us ((bY W (skl ds) ds.length).2.map (·.2))->(∀x∈us,x≠.ref r)->Q (.ref r) H')->tH CN K vs H Q E
end L2
namespace Mq
def KJ (m:Nat)(A1:Mat)(R:List (List Int)):Prop:=∀Φ,Lin Φ->(∀i,i < m->Φ (A1 i)=0)->∀k,k < m->Φ (at2 R k)=0
theorem KJ.swap (h:KJ m A1 R)(hl:R.length=m)(hp:p < m)(hr:r < m):KJ m A1 (fK R p r):=fun Φ lin hz k hk=>by
 have e:at2 (fK R p r) k=at2 R (sw p r k):=by
  funext x
  rw[rN (by lia) (by lia)]
 rw[e];exact h Φ lin hz _ (zW hp hr hk)
theorem KJ.clear (h:KJ m A1 R)(s:SI m w A0 R r col d sg)(hr:r < m)(hc:col < w)(he:ent R r col≠0):KJ m A1 (cK R r col d):=fun Φ lin hz k hk=>by
 have cl:=fun (x:Nat)=>tK s hr hc he hk x;have z:=h Φ lin hz
 by_cases e:k=r
 ·have e2:at2 (cK R r col d) k=at2 R k:=by funext x;rw[cl x,if_pos e]
  rw[e2];exact z k hk
 ·have e2:at2 (cK R r col d) k=fun x=>(fun x=>(at2 R r col / (d:Rat))*at2 R k x) x+(-(at2 R k col / (d:Rat)))*at2 R r x:=by
   funext x
   show _=(at2 R r col / (d:Rat))*at2 R k x+_;rw[cl x,if_neg e];grind
  rw[e2,lin,lin.mul,z k hk,z r hr];grind
theorem KJ.whole (h:KJ m A1 R)(s:SI m w A0 R m m d sg){v:Nat->Rat}(hv:∀i,i < m->(rs m fun k=>A1 i k*v k)=A1 i m)(hk:k < m):at2 R k m / (d:Rat)=v k:=by
 obtain⟨A,c,B,e⟩:=s.bar;have dn:=B.dne;have:=h (fun f=>(rs m fun k=>f k*v k) - f m) (fun x y l=>by
  have:(rs m fun k=>(x k+l*y k)*v k)=(rs m fun k=>x k*v k+l*(y k*v k)):=aT fun k _=>by grind
  show (rs m fun k=>(x k+l*y k)*v k) - (x m+l*y m)=((rs m fun k=>x k*v k) - x m)+l*((rs m fun k=>y k*v k) - y m)
  rw[this,fC,fL];grind) (fun i hi=>by
  show (rs m fun k=>A1 i k*v k) - A1 i m=0;rw[hv i hi];grind) k hk
 have e1:(rs m fun j=>at2 R k j*v j)=rs m fun j=>if j=k then (d:Rat)*v k else 0:=aT fun j hj=>by
  have i2:=B.i2 k j hk hj;rw[B.full rfl j hj] at i2;rw[i2]
  by_cases z:j=k
  ·rw[if_pos z,if_pos z,z]
  ·rw[if_neg z,if_neg z];grind
 have e2:(rs m fun j=>at2 R k j*v j) - at2 R k m=0:=this;rw[e1,lZ m k _ hk] at e2;grind
end Mq
namespace Shp
open PySem L2
theorem Rz:Stp m w A0 (fun R=>Mq.KI m A1 R/\Mq.KJ m A1 R):=
 ⟨fun R r col d sg p s h1 h2 h=>⟨h.1.swap s.len h2 (by lia),h.2.swap s.len h2 (by lia)⟩,fun R r col d sg s h1 h2 h3 h=>⟨h.1.clear s h1 h2 h3,h.2.clear s h1 h2 h3⟩⟩
theorem Xw (hX:fQ X)(hq:Mq.Pos qs)(hl:qs.length=X.length)(hw:∀row∈X,row.length=X.length)(h:Mq.KJ X.length (Mq.at2 (iQ X qs)) R)(s:SI X.length w (Mq.at2 (iQ X qs)) R X.length X.length d sg){v:Nat->Rat}(hv:∀i,i < X.length->(Mq.rs X.length fun j=>rH X i j*v j)=Mq.val (qs.getD i Mq.z0))(hk:k < X.length):Mq.at2 R k X.length / (d:Rat)=v k:=by
 refine h.whole s (fun i hi=>?_) hk;rw[uU hX hq hl hw hi (by lia),if_neg (by lia),<- hv i hi,<- fL];refine aT fun k hk=>?_;rw[uU hX hq hl hw hi (by lia),if_pos hk];grind
structure qd1 (X:List (List Mq.Q2)) (qs ps:List Mq.Q2):Prop extends Slv X qs ps where
 uni:∀v:Nat->Rat,(∀i,i < X.length->(Mq.rs X.length fun j=>rH X i j*v j)=Mq.val (qs.getD i Mq.z0))->∀j,j < X.length->Mq.val (ps.getD j Mq.z0)=v j
end Shp
namespace Mq
theorem Wb.rs5 (hK:K<=32)(h:∀k,k < K->Wb n (f k)):Wb (n+5) (Mq.rs K f):=by
 obtain⟨z,e,b⟩:=Xa K h;refine⟨z,e,?_⟩;have p:2 ^ (n+5)=32*2 ^ n:=by rw[Nat.pow_add];lia
 have q:K*2 ^ n<=32*2 ^ n:=Nat.mul_le_mul_right _ hK;have r:0 < 2 ^ n:=Nat.two_pow_pos n;show z.natAbs < 2 ^ (n+5)
 by_cases k0:K=0
 ·subst k0;lia
 ·lia
theorem zO:∀(r:Nat) (M:Mat),r<=32->(∀i j,i < r->Wb n (M i j))->Wb ((n+5)*r+1) (det r M)
 |0,_,_,_=>Wb.one
 |r+1,M,hr,h=>by
  rw[fZ];have:=Wb.rs5 (n:=n+((n+5)*r+1)) (K:=r+1) (f:=fun j=>sgn (r+j)*M r j*det r fun i k=>M i (skip j k)) hr fun j _=>((h r j (by lia)).sgn _).mul (zO r _ (by lia) fun i k hi=>h i _ (by lia));exact this.mono (by rw[Nat.mul_succ];lia)
section
variable {m:Nat} {A E:Mat} {r col:Nat} {d:Rat} {c:Nat->Nat} {n:Nat}
theorem Bar.wd5 (h:Bar m A E r col d c)(hA:∀i x,i < m->Wb n (A i x))(hm:m<=31):Wb ((n+5)*r+1) d:=by
 have rm:=h.rm;rw[<- h.i5];exact zO r _ (by lia) fun i j hi=>hA i _ (by lia)
theorem Bar.wtop5 (h:Bar m A E r col d c)(hA:∀i x,i < m->Wb n (A i x))(hm:m<=31)(hk:k < r)(x:Nat):Wb ((n+5)*r+7) (E k x):=by
 have rm:=h.rm;have hd:=h.dne
 by_cases hx:∃j,j < r/\x=c j
 ·obtain⟨j,hj,rfl⟩:=hx;rw[h.i2 k j hk hj];split
  ·exact(h.wd5 hA hm).mono (by lia)
  ·exact Wb.zero _
 ·let c2:Nat->Nat:=fun j=>if j=r then x else c j
  let u:Nat->Rat:=fun j=>if j=c k then 1 else 0
  have hΦ:=Ik r A c2;have z:=h.i6 _ hΦ (fun s hs=>Kj r A c2 hs) k hk;have eu:u=fun y=>(fun y=>u y+(-(1 / d))*E k y) y+(1 / d)*E k y:=by
   funext y
   show u y=u y+(-(1 / d))*E k y+(1 / d)*E k y;grind
  have fb:=Ah r A c2 (fun y=>u y+(-(1 / d))*E k y) fun j hj=>by
   have ec:c2 j=c j:=by show (if j=r then x else c j)=_;rw[if_neg (by lia)]
   rw[ec];show u (c j)+(-(1 / d))*E k (c j)=0;rw[h.i2 k j hk hj];show (if c j=c k then (1:Rat) else 0)+_=0
   by_cases e:j=k
   ·rw[if_pos e,if_pos (by rw[e])];grind
   ·rw[if_neg e,if_neg (fun q=>e (h.cinj j k hj hk q))];grind
  have dd:(det r fun i j=>A i (c2 j))=d:=by
   rw[<- h.i5];exact cP fun i j _ hj=>by show A i (if j=r then x else c j)=_;rw[if_neg (by lia)]
  have ux:u x=0:=by show (if x=c k then (1:Rat) else 0)=0;rw[if_neg (fun q=>hx ⟨k,hk,q⟩)]
  have cx:c2 r=x:=by show (if r=r then x else _)=x;rw[if_pos rfl]
  rw[dd,cx] at fb;have val:F r A c2 u=- E k x:=by
   rw[eu,hΦ,z,fb];show (u x+(-(1 / d))*E k x)*d+_=_;rw[ux];grind
  have wh:Wb ((n+5)*r+7) (F r A c2 u):=by
   rw[Kv];have:=Wb.rs5 (n:=1+((n+5)*r+1)) (K:=r+1) (f:=fun j=>Mq.sgn (r+j)*u (c2 j)*det r fun i k=>A i (c2 (Mq.skip j k))) (by lia) fun j _=>by
    refine Wb.mul (Wb.sgn ?_ _) (zO r _ (by lia) fun i k hi=>hA i _ (by lia));show Wb 1 (if c2 j=c k then (1:Rat) else 0);split
    ·exact Wb.one
    ·exact Wb.zero _
   exact this.mono (by lia)
  rw[val] at wh;have:=wh.neg
  rwa [show - - E k x=E k x by grind] at this
theorem Bar.wall5 (h:Bar m A E r col d c)(hA:∀i x,i < m->Wb n (A i x))(hm:m<=31)(hi:i < m)(x:Nat):Wb ((n+5)*(m+1)+8) (E i x):=by
 have rm:=h.rm;have mono:=Nat.mul_le_mul_left (n+5) rm;have e1:(n+5)*(m+1)=(n+5)*m+(n+5):=Nat.mul_succ ..
 by_cases h1:i < r
 ·exact(h.wtop5 hA hm h1 x).mono (by lia)
 ·have q:=h.i4 i x hi;rw[if_neg h1] at q;have e:E i x=d*A i x - rs r fun k=>A i (c k)*E k x:=by grind
  rw[e];have b1:Wb (n+((n+5)*r+7)+5) (d*A i x):=((h.wd5 hA hm).mul (hA i x hi)).mono (by lia);have b2:Wb (n+((n+5)*r+7)+5) (rs r fun k=>A i (c k)*E k x):=Wb.rs5 (by lia) fun k hk=>(hA i _ hi).mul (h.wtop5 hA hm hk x);exact(b1.sub b2).mono (by lia)
end
theorem SB.bd5 (h:SB n m R r col d)(s:SI m w A0 R r col d sg)(hm:m<=31):BdR ((n+5)*(m+1)+8) R/\B ((n+5)*(m+1)+8) d:=by
 obtain⟨A,c,B,q⟩:=h;refine⟨fun i x=>?_,?_⟩
 ·by_cases hi:i < m
  ·obtain⟨z,e,b⟩:=B.wall5 q hm hi x;have:ent R i x=z:=Rat.intCast_inj.mp e;rw[this];exact b
  ·unfold ent;rw[getD_eq_getElem?_getD (l:=R),getElem?_eq_none (by rw[s.len];lia)];exact Nat.two_pow_pos _
 ·obtain⟨z,e,b⟩:=B.wd5 q hm;have:d=z:=Rat.intCast_inj.mp e;have mono:=Nat.mul_le_mul_left (n+5) B.rm;rw[this];exact b.mono (by rw[Nat.mul_succ];lia)
theorem Mt (ha:1<=a)(hb:1<=b)(h1:a ∣ L)(h2:b ∣ L):pA a b ∣ L:=by
 have g1:gc a b ∣ a:=Int.gcd_dvd_left ..;have g0:gc a b≠0:=by have:=vQ (a:=a) (b:=b) (by lia);lia
 obtain⟨x,hx⟩:=g1;have e:pA a b=x*b:=by
  unfold pA;rw[fU g0 hx]
 have k:(Int.lcm a b:Int) ∣ L:=Int.coe_lcm_dvd h1 h2;have m:(Int.gcd a b:Int)*(Int.lcm a b:Int)=a*b:=by
  have:=Int.gcd_mul_lcm a b;have h:((Int.gcd a b*Int.lcm a b:Nat):Int)=((a*b).natAbs:Nat):=by rw[this,Int.natAbs_mul]
  rw[Int.natCast_mul] at h;rw[h,Int.natAbs_of_nonneg (Int.mul_nonneg (by lia) (by lia))]
 have e2:(Int.lcm a b:Int)=x*b:=by
  have hg:(Int.gcd a b:Int)=gc a b:=rfl;rw[hg] at m;have:gc a b*(Int.lcm a b:Int)=gc a b*(x*b):=by
   rw[m,<- Int.mul_assoc,<- hx]
  exact Int.eq_of_mul_eq_mul_left g0 this
 rw[e,<- e2];exact k
theorem yR:∀{ps:List Q2},Pos ps->(∀p∈ps,p.2 ∣ L)->∀i,i<=ps.length->eJ (ps.take i) ∣ L/\1<=eJ (ps.take i)
 |ps,hp,h,0,_=>⟨Int.one_dvd _,by rw[take_zero];decide⟩
 |ps,hp,h,i+1,hi=>by
  obtain⟨a,b⟩:=yR hp h i (by lia);have hm:ps[i]?=some ps[i]:=getElem?_eq_getElem (by lia);have mem:=mem_of_getElem? hm;rw[oH hm];refine⟨Mt b (hp _ mem) a (h _ mem),?_⟩;have:=sZ (ps:=ps.take (i+1)) (fun p hp'=>hp p (mem_of_mem_take hp'))
  rwa [oH hm] at this
end Mq
namespace Shp
open PySem L2
abbrev bw (n m:Nat):Nat:=(n+5)*(m+1)+8
inductive Bb (K:Frag) (vs:List V) (H:Hp) (Q:VK) (E:XK):Prop where
 |mk (l D:Addr) (zs:List V) (R:List (List Int)) (m w n:Nat) (Pr:List (List Int)->Prop):vs=[.ref l,.int (m:Int)]->SqL K H l zs->Imx D H zs R->R.length=m->(∀i,i < m->(R.getD i []).length=w)->m<=w->w<=100->BdR n R->1<=n->bw n m<=9000->m<=31->Pr R->Stp m w (Mq.at2 R) Pr->(∀d l' zs' R' rank pivot sign H',aS H H'->H d=none->H l'=none->H' d=some (Sn l' rank pivot sign)->H' l'=some (.lst zs')->Imx l' H' zs' R'->SI m w (Mq.at2 R) R' rank m pivot sign->BdR (bw n m) R'->Mq.B (bw n m) pivot->Pr R'->Q (.ref d) H')->Bb K vs H Q E
end Shp
namespace L2
open PySem PySem.Spec PyProof.Rows
section
variable (u:Nat->Rat)
def fw (d:RD)(h:Nat):Rat:=match d.1 with
 | .pc=>(u d.2.1.toNat - u d.2.2.1.toNat)*(1 / Mq.val d.2.2.2)
 | .pu=>0
 | .ho=>u h
def nt:Nat->List RD->Nat->Rat
 |_,[],_=>0
 |h,d :: ds,p=>fw u d h*dl d.2.1.toNat d.2.2.1.toNat p+nt (h+cL d.1) ds p
def hw:Nat->List RD->Nat->Rat
 |_,[],_=>0
 |h,d :: ds,y=>(if d.1=.ho/\h=y then u d.2.1.toNat - u d.2.2.1.toNat else 0)+hw (h+cL d.1) ds y
def eg:Nat->List RD->Rat
 |_,[]=>0
 |h,d :: ds=>fw u d h*(u d.2.1.toNat - u d.2.2.1.toNat)+eg (h+cL d.1) ds
end
section
variable {u:Nat->Rat} {m N:Nat}
theorem Iz (F:Nat->Rat)(hs:s < n)(hg:g < n):Mq.rs n (fun p=>F p*dl s g p)=F s - F g:=by
 have e:∀p,F p*dl s g p=(if s=p then F p else 0) + - (if g=p then F p else 0):=fun p=>by
  unfold dl
  by_cases a:s=p<;>by_cases b:g=p<;>simp only[a,b,if_true,if_false]<;>grind
 rw[aT fun p _=>e p,fC,Mq.qX,Fz,Fz,if_pos hs,if_pos hg];grind
theorem qd6 (u0:u 0=0)(hs:s<=n)(hg:g<=n):Mq.rs n (fun i=>u (i+1)*dl s g (i+1))=u s - u g:=by
 have:=Iz u (n:=n+1) (s:=s) (g:=g) (by lia) (by lia);rw[uE,u0] at this;grind
theorem qf5 (u0:u 0=0)(pt:cT (m:Int) d.2.1 d.2.2.1)(hm:m<=N+1)(h1:1<=h)(hh:d.1=.ho->h<=N):Mq.rs N (fun i=>u (i+1)*cM d h (i+1) y)=fw u d h*dl d.2.1.toNat d.2.2.1.toNat y+(if d.1=.ho/\h=y then u d.2.1.toNat - u d.2.2.1.toNat else 0):=by
 obtain⟨a,b,c,e⟩:=pt;have base:=qd6 (u:=u) (n:=N) (s:=d.2.1.toNat) (g:=d.2.2.1.toNat) u0 (by lia) (by lia);unfold cM fw
 cases hk:d.1 with
 |pc=>
  dsimp only;rw[if_neg (fun z=>by cases z.1)];have:∀i,u (i+1)*(dl d.2.1.toNat d.2.2.1.toNat (i+1)*dl d.2.1.toNat d.2.2.1.toNat y*(1 / Mq.val d.2.2.2))=(dl d.2.1.toNat d.2.2.1.toNat y*(1 / Mq.val d.2.2.2))*(u (i+1)*dl d.2.1.toNat d.2.2.1.toNat (i+1)):=fun i=>by grind
  rw[aT fun i _=>this i,fL,base];grind
 |pu=>
  dsimp only;rw[if_neg (fun z=>by cases z.1)];have:∀i,u (i+1)*(0:Rat)=0:=fun i=>by grind
  rw[aT fun i _=>this i,eI];grind
 |ho=>
  dsimp only;have hN:=hh hk;have one:Mq.rs N (fun i=>u (i+1)*(if h=i+1 then 1 else 0))=u h:=by
   have:∀i,u (i+1)*(if h=i+1 then (1:Rat) else 0)=if h - 1=i then u (i+1) else 0:=fun i=>by
    by_cases z:h=i+1
    ·rw[if_pos z,if_pos (by lia)];grind
    ·rw[if_neg z,if_neg (by lia)];grind
   rw[aT fun i _=>this i,Fz,if_pos (by lia),show h - 1+1=h by lia]
  have:∀i,u (i+1)*(dl d.2.1.toNat d.2.2.1.toNat (i+1)*(if h=y then 1 else 0)+(if h=i+1 then 1 else 0)*dl d.2.1.toNat d.2.2.1.toNat y)=(if h=y then 1 else 0)*(u (i+1)*dl d.2.1.toNat d.2.2.1.toNat (i+1))+dl d.2.1.toNat d.2.2.1.toNat y*(u (i+1)*(if h=i+1 then 1 else 0)):=fun i=>by grind
  rw[aT fun i _=>this i,fC,fL,fL,base,one]
  by_cases z:h=y
  ·rw[if_pos z,if_pos ⟨rfl,z⟩];grind
  ·rw[if_neg z,if_neg (fun q=>z q.2)];grind
theorem Ph (u0:u 0=0)(hm:m<=N+1)(y:Nat):∀(ds:List RD) (h:Nat),(∀d∈ds,cT (m:Int) d.2.1 d.2.2.1)->1<=h->h+cA ds<=N+1->Mq.rs N (fun i=>u (i+1)*eqM h ds (i+1) y)=nt u h ds y+hw u h ds y
 | [],h,_,_,_=>by
  have:∀i,u (i+1)*eqM h [] (i+1) y=0:=fun i=>by show u (i+1)*(0:Rat)=0;grind
  rw[aT fun i _=>this i,eI];show (0:Rat)=0+0;grind
 |d :: ds,h,pt,h1,hN=>by
  rw[hZ] at hN;have ih:=Ph u0 hm y ds (h+cL d.1) (fun e he=>pt e (mem_cons_of_mem _ he)) (by lia) (by lia);have c:=qf5 (u:=u) (N:=N) (h:=h) (y:=y) u0 (pt d (by simp)) hm h1 (fun z=>by rw[z] at hN;have:cL .ho=1:=rfl;lia);have:∀i,u (i+1)*eqM h (d :: ds) (i+1) y=u (i+1)*cM d h (i+1) y+u (i+1)*eqM (h+cL d.1) ds (i+1) y:=fun i=>by
   show u (i+1)*(cM d h (i+1) y+eqM (h+cL d.1) ds (i+1) y)=_;grind
  rw[aT fun i _=>this i,fC,ih,c];show _=(fw u d h*dl d.2.1.toNat d.2.2.1.toNat y+nt u (h+cL d.1) ds y)+((if d.1=.ho/\h=y then u d.2.1.toNat - u d.2.2.1.toNat else 0)+hw u (h+cL d.1) ds y)
  grind
theorem Qj:∀(ds:List RD) (h:Nat),y < h->hw u h ds y=0
 | [],_,_=>rfl
 |d :: ds,h,hy=>by
  show (if d.1=.ho/\h=y then u d.2.1.toNat - u d.2.2.1.toNat else 0)+hw u (h+cL d.1) ds y=0;rw[if_neg (fun z=>by lia),Qj ds (h+cL d.1) (by lia)];grind
theorem On:∀(ds:List RD) (h:Nat),(∀d∈ds,cT (m:Int) d.2.1 d.2.2.1)->m<=y->nt u h ds y=0
 | [],_,_,_=>rfl
 |d :: ds,h,pt,hy=>by
  obtain⟨a,b,c,e⟩:=pt d (by simp);show fw u d h*dl d.2.1.toNat d.2.2.1.toNat y+nt u (h+cL d.1) ds y=0;rw[On ds (h+cL d.1) (fun e he=>pt e (mem_cons_of_mem _ he)) hy];unfold dl;rw[if_neg (by lia),if_neg (by lia)];grind
theorem Hm:∀(ds:List RD) (h:Nat),(∀y,h<=y->y < h+cA ds->hw u h ds y=0)->∀d∈ds,d.1=.ho->u d.2.1.toNat=u d.2.2.1.toNat
 | [],_,_,_,hd,_=>by cases hd
 |e :: ds,h,all,d,hd,hk=>by
  by_cases he:e.1=.ho
  ·have c1:cL e.1=1:=by rw[he];rfl
   have first:=all h (Nat.le_refl _) (by rw[hZ];lia)
   have f1:(if e.1=.ho/\h=h then u e.2.1.toNat - u e.2.2.1.toNat else 0)+hw u (h+cL e.1) ds h=0:=first
   rw[if_pos ⟨he,rfl⟩,Qj ds (h+cL e.1) (by lia)] at f1;rcases mem_cons.mp hd with rfl | hd
   ·grind
   ·refine Hm ds (h+cL e.1) (fun y hy hl=>?_) d hd hk;have:=all y (by lia) (by rw[hZ];lia);have f2:(if e.1=.ho/\h=y then u e.2.1.toNat - u e.2.2.1.toNat else 0)+hw u (h+cL e.1) ds y=0:=this;rw[if_neg (fun z=>by lia)] at f2;grind
  ·have c0:cL e.1=0:=if_neg he;rcases mem_cons.mp hd with rfl | hd
   ·exact absurd hk he
   ·refine Hm ds (h+cL e.1) (fun y hy hl=>?_) d hd hk;have:=all y (by lia) (by rw[hZ];lia);have f2:(if e.1=.ho/\h=y then u e.2.1.toNat - u e.2.2.1.toNat else 0)+hw u (h+cL e.1) ds y=0:=this;rw[if_neg (fun z=>he z.1)] at f2;grind
theorem Xj:∀(ds:List RD) (h:Nat),(∀d∈ds,cT (m:Int) d.2.1 d.2.2.1)->Mq.rs m (fun p=>u p*nt u h ds p)=eg u h ds
 | [],h,_=>by
  have:∀p,u p*nt u h [] p=0:=fun p=>by show u p*(0:Rat)=0;grind
  rw[aT fun p _=>this p,eI];rfl
 |d :: ds,h,pt=>by
  have ih:=Xj ds (h+cL d.1) (fun e he=>pt e (mem_cons_of_mem _ he));obtain⟨a,b,c,e⟩:=pt d (by simp);have base:=Iz u (n:=m) (s:=d.2.1.toNat) (g:=d.2.2.1.toNat) (by lia) (by lia);have:∀p,u p*nt u h (d :: ds) p=fw u d h*(u p*dl d.2.1.toNat d.2.2.1.toNat p)+u p*nt u (h+cL d.1) ds p:=fun p=>by
   show u p*(fw u d h*dl d.2.1.toNat d.2.2.1.toNat p+nt u (h+cL d.1) ds p)=_;grind
  rw[aT fun p _=>this p,fC,fL,base,ih];rfl
theorem qj7 (x:Rat):0<=x*x:=by
 rcases Rat.le_total (a:=0) (b:=x) with h | h
 ·exact Rat.mul_nonneg h h
 ·have:0<=(-x)*(-x):=Rat.mul_nonneg (by grind) (by grind);grind
theorem Nv {a:Rat}(h:0 < a):0 < 1 / a:=by
 rw[Rat.div_def,Rat.one_mul];exact Rat.inv_pos.mpr h
theorem Xg:∀(ds:List RD) (h:Nat),(∀d∈ds,d.1=.pc->0 < Mq.val d.2.2.2)->(∀d∈ds,d.1=.ho->u d.2.1.toNat=u d.2.2.1.toNat)->0<=eg u h ds/\(eg u h ds=0->∀d∈ds,d.1=.pc->u d.2.1.toNat=u d.2.2.1.toNat)
 | [],_,_,_=>⟨Rat.le_refl,fun _ d hd=>by cases hd⟩
 |e :: ds,h,pos,ho=>by
  obtain⟨i1,i2⟩:=Xg ds (h+cL e.1) (fun d hd=>pos d (mem_cons_of_mem _ hd)) (fun d hd=>ho d (mem_cons_of_mem _ hd));have eq:eg u h (e :: ds)=fw u e h*(u e.2.1.toNat - u e.2.2.1.toNat)+eg u (h+cL e.1) ds:=rfl;rw[eq];generalize eg u (h+cL e.1) ds=r at i1 i2;have t:0<=fw u e h*(u e.2.1.toNat - u e.2.2.1.toNat)/\(e.1=.pc->fw u e h*(u e.2.1.toNat - u e.2.2.1.toNat)=0->u e.2.1.toNat=u e.2.2.1.toNat):=by
   unfold fw
   cases hk:e.1 with
   |pu=>exact⟨by grind,fun z=>by cases z⟩
   |ho=>exact⟨by rw[ho e (by simp) hk];grind,fun z=>by cases z⟩
   |pc=>
    dsimp only;have p:=Nv (pos e (by simp) hk);generalize 1 / Mq.val e.2.2.2=q at p;generalize u e.2.1.toNat=a;generalize u e.2.2.1.toNat=b;have e2:(a - b)*q*(a - b)=q*((a - b)*(a - b)):=by grind
    rw[e2];refine⟨Rat.mul_nonneg (Rat.le_of_lt p) (qj7 _),fun _ z=>?_⟩;have q0:q≠0:=fun z=>by rw[z] at p;exact absurd p (by decide)
    have:(a - b)*(a - b)=0:=by grind
    have:a - b=0:=by grind
    grind
  obtain⟨t1,t2⟩:=t;generalize fw u e h*(u e.2.1.toNat - u e.2.2.1.toNat)=x at t1 t2;refine⟨by grind,fun z d hd hk=>?_⟩;have x0:x=0:=by grind
  have r0:r=0:=by grind
  rcases mem_cons.mp hd with rfl | hd
  ·exact t2 hk x0
  ·exact i2 r0 d hd hk
theorem zK (d:RD)(p:Nat):∀(ds:List RD) (h:Nat),nt u h (ds++[d]) p=nt u h ds p+fw u d (h+cA ds)*dl d.2.1.toNat d.2.2.1.toNat p
 | [],h=>by show fw u d h*_+0=0+fw u d (h+0)*_;rw[Nat.add_zero];grind
 |e :: ds,h=>by
  show fw u e h*_+nt u (h+cL e.1) (ds++[d]) p=fw u e h*_+nt u (h+cL e.1) ds p+_;rw[zK d p ds,hZ,Nat.add_assoc];grind
theorem Hq (F:Nat->Rat):∀(ds:List RD) (h:Nat),(∀d∈ds,cT (m:Int) d.2.1 d.2.2.1)->(∀d∈ds,d.1=.pc->u d.2.1.toNat=u d.2.2.1.toNat)->(∀d∈ds,d.1=.ho->F d.2.1.toNat=F d.2.2.1.toNat)->Mq.rs m (fun p=>F p*nt u h ds p)=0
 | [],h,_,_,_=>by
  have:∀p,F p*nt u h [] p=0:=fun p=>by show F p*(0:Rat)=0;grind
  rw[aT fun p _=>this p,eI]
 |d :: ds,h,pt,hu,hF=>by
  have ih:=Hq F ds (h+cL d.1) (fun e he=>pt e (mem_cons_of_mem _ he)) (fun e he=>hu e (mem_cons_of_mem _ he)) (fun e he=>hF e (mem_cons_of_mem _ he));obtain⟨a,b,c,e⟩:=pt d (by simp);have base:=Iz F (n:=m) (s:=d.2.1.toNat) (g:=d.2.2.1.toNat) (by lia) (by lia);have:∀p,F p*nt u h (d :: ds) p=fw u d h*(F p*dl d.2.1.toNat d.2.2.1.toNat p)+F p*nt u (h+cL d.1) ds p:=fun p=>by
   show F p*(fw u d h*dl d.2.1.toNat d.2.2.1.toNat p+nt u (h+cL d.1) ds p)=_;grind
  rw[aT fun p _=>this p,fC,fL,base,ih]
  cases hk:d.1 with
  |pu=>
   have:fw u d h=0:=by unfold fw;rw[hk]
   rw[this];grind
  |pc=>
   have:fw u d h=0:=by unfold fw;rw[hk];dsimp only;rw[hu d (by simp) hk];grind
   rw[this];grind
  |ho=>rw[hF d (by simp) hk];grind
def Frs (ds:List RD):Prop:=∀(A B:List RD) (d:RD),ds=A++d :: B->d.1=.ho->¬Cn (oI .ho A) d.2.1.toNat d.2.2.1.toNat
theorem Jz:∀(n:Nat) (ds:List RD) (h:Nat),ds.length=n->(∀d∈ds,cT (m:Int) d.2.1 d.2.2.1)->Frs ds->(∀d∈ds,d.1=.pc->u d.2.1.toNat=u d.2.2.1.toNat)->(∀p,p < m->nt u h ds p=0)->∀y,h<=y->y < h+cA ds->u y=0
 |0,ds,h,hl,_,_,_,_,y,h1,h2=>by
  have:ds=[]:=length_eq_zero_iff.mp hl;subst this;have:cA ([]:List RD)=0:=rfl;lia
 |n+1,ds,h,hl,pt,fr,hu,ze,y,h1,h2=>by
  obtain⟨es,d,rfl⟩:∃es d,ds=es++[d]:=⟨ds.dropLast,ds.getLast (by intro z;rw[z] at hl;cases hl),(dropLast_concat_getLast _).symm⟩
  have le:es.length=n:=by rw[List.length_append] at hl;simpa using hl
  have pe:∀x∈es,cT (m:Int) x.2.1 x.2.2.1:=fun x hx=>pt x (mem_append_left _ hx);have ue:∀x∈es,x.1=.pc->u x.2.1.toNat=u x.2.2.1.toNat:=fun x hx=>hu x (mem_append_left _ hx);have fe:Frs es:=fun A B x e hx=>fr A (B++[d]) x (by rw[e];simp) hx;obtain⟨i0,i1,j0,j1⟩:=pt d (by simp);have f0:fw u d (h+cA es)=0:=by
   cases hk:d.1 with
   |pu=>unfold fw;rw[hk]
   |pc=>unfold fw;rw[hk];dsimp only;rw[hu d (by simp) hk];grind
   |ho=>
    open Classical in
    have nc:=fr es [] d rfl hk
    let F:Nat->Rat:=fun p=>if Cn (oI .ho es) d.2.1.toNat p then 1 else 0
    have s1:=Hq (u:=u) (m:=m) F es h pe ue (fun x hx hk'=>by
     show (if Cn (oI .ho es) d.2.1.toNat x.2.1.toNat then (1:Rat) else 0)=if Cn (oI .ho es) d.2.1.toNat x.2.2.1.toNat then 1 else 0
     have r:Cn (oI .ho es) x.2.1.toNat x.2.2.1.toNat:=.row (mem_filter.mpr ⟨hx,decide_eq_true hk'⟩) (by rw[hk'];exact fun z=>by cases z)
     by_cases c:Cn (oI .ho es) d.2.1.toNat x.2.1.toNat
     ·rw[if_pos c,if_pos (c.trans r)]
     ·rw[if_neg c,if_neg (fun z=>c (z.trans r.symm))])
    have s2:Mq.rs m (fun p=>F p*nt u h (es++[d]) p)=0:=by
     have:∀p,p < m->F p*nt u h (es++[d]) p=0:=fun p hp=>by rw[ze p hp];grind
     rw[aT this,eI]
    have e3:∀p,F p*nt u h (es++[d]) p=F p*nt u h es p+fw u d (h+cA es)*(F p*dl d.2.1.toNat d.2.2.1.toNat p):=fun p=>by rw[zK];grind
    rw[aT fun p _=>e3 p,fC,s1,fL,Iz F (by lia) (by lia)] at s2;have Fs:F d.2.1.toNat=1:=if_pos (.refl _);have Fg:F d.2.2.1.toNat=0:=if_neg nc;rw[Fs,Fg] at s2;grind
  have ze':∀p,p < m->nt u h es p=0:=fun p hp=>by
   have:=ze p hp;rw[zK,f0] at this;grind
  rw[gA] at h2
  by_cases c:y < h+cA es
  ·exact Jz n es h le pe fe ue ze' y h1 c
  ·have hk:d.1=.ho:=Classical.byContradiction fun z=>by
    have:cL d.1=0:=if_neg z;lia
   have c1:cL d.1=1:=by rw[hk];rfl
   have:y=h+cA es:=by lia
   rw[this];unfold fw at f0;rw[hk] at f0;exact f0
theorem Vj (hm1:1<=m)(pt:∀d∈ds,cT (m:Int) d.2.1 d.2.2.1)(pos:∀d∈ds,d.1=.pc->0 < Mq.val d.2.2.2)(cn:∀p,p < m->Cn ds 0 p)(fr:Frs ds)(u0:u 0=0)(ze:∀y,1<=y->y<=m - 1+cA ds->Mq.rs (m - 1+cA ds) (fun i=>u (i+1)*eqM m ds (i+1) y)=0):∀y,y<=m - 1+cA ds->u y=0:=by
 have ze2:∀y,1<=y->y<=m - 1+cA ds->nt u m ds y+hw u m ds y=0:=fun y a b=>by
  have:=ze y a b;rw[Ph (m:=m) u0 (by lia) y ds m pt hm1 (by lia)] at this;exact this
 have hf:=Hm (u:=u) ds m (fun y a b=>by
  have:=ze2 y (by lia) (by lia);rw[On ds m pt a] at this;grind)
 have np:∀p,1<=p->p < m->nt u m ds p=0:=fun p a b=>by
  have:=ze2 p a (by lia);rw[Qj ds m b] at this;grind
 have e0:eg u m ds=0:=by
  rw[<- Xj (u:=u) (m:=m) ds m pt];have:∀p,p < m->u p*nt u m ds p=0:=fun p hp=>by
   by_cases c:p=0
   ·rw[c,u0];grind
   ·rw[np p (by lia) hp];grind
  rw[aT this,eI]
 have pf:=(Xg (u:=u) ds m pos hf).2 e0;have cz:∀p,p < m->u p=0:=fun p hp=>by
  have:=Cn.ind (R:=fun a b=>u a=u b) (fun _=>rfl) (fun _ _ e=>e.symm) (fun _ _ _ a b=>a.trans b) (fun d hd hk=>by
   cases h:d.1 with
   |pc=>exact pf d hd h
   |pu=>exact absurd h hk
   |ho=>exact hf d hd h) (cn p hp)
  rw[<- this,u0]
 have all:∀p,p < m->nt u m ds p=0:=fun p hp=>by
  by_cases c:p=0
  ·have s:=Hq (u:=u) (m:=m) (fun _=>1) ds m pt pf (fun _ _ _=>rfl);obtain⟨k,rfl⟩:∃k,m=k+1:=⟨m - 1,by lia⟩
   rw[uE] at s;have:∀i,i < k->(1:Rat)*nt u (k+1) ds (i+1)=0:=fun i hi=>by rw[np (i+1) (by lia) (by lia)];grind
   rw[aT this,eI] at s;rw[c];grind
  ·exact np p (by lia) hp
 have hz:=Jz (u:=u) (m:=m) _ ds m rfl pt fr pf all;intro y hy
 by_cases c:y < m
 ·exact cz y c
 ·exact hz y (by lia) (by lia)
end
open Shp
section
variable {m N:Nat} {ds:List RD}
structure Nof (m:Nat) (ds:List RD):Prop where
 m1:1<=m
 pt:∀d∈ds,cT (m:Int) d.2.1 d.2.2.1
 pos:∀d∈ds,d.1=.pc->0 < Mq.val d.2.2.2
 cn:∀p,p < m->Cn ds 0 p
 fr:Frs ds
theorem qa9 (e:zM m ds N X Y):X.length=m - 1+cA ds:=e.x.h
theorem Oj (e:zM m ds N X Y)(i j:Nat):rH X i j=eqM m ds (i+1) (j+1):=e.vx i j
end
theorem oG:∀(k n:Nat),(bY W sk (n+k)).2=[]->(bY W sk n).2=[]
 |0,n,h=>h
 |k+1,n,h=>by
  refine oG k n ?_;have h:(bY W sk (n+k+1)).2=[]:=h
  cases e:sk[n+k]? with
  |none=>
   have:bY W sk (n+k+1)=bY W sk (n+k):=by
    show (match sk[n+k]? with | none=>bY W sk (n+k) | some d=>fP W (bY W sk (n+k)) (n+k) d)=_;rw[e]
   rw[this] at h;exact h
  |some d=>
   rw[gN e] at h;unfold fP at h;split at h
   ·split at h
    ·exact h
    ·exact absurd h (by simp)
   ·exact h
theorem Hs:∀n,n<=sk.length->(bY W sk n).2=[]->∀i d,i < n->sk[i]?=some d->W d.1=true->(i,d.2.1,d.2.2)∈(bY W sk n).1
 |0,_,_,i,_,hi,_,_=>absurd hi (Nat.not_lt_zero _)
 |n+1,hn,h,i,d,hi,hd,hW=>by
  have h0:=oG 1 n h;have en:sk[n]?=some sk[n]:=getElem?_eq_getElem (by lia);have ih:=Hs n (by lia) h0;rw[gN en] at h ⊢;generalize sk[n]=x at en h ⊢;unfold fP at h ⊢
  by_cases c:i < n
  ·have:=ih i d c hd hW;split at h
   ·rename_i w
    rw[if_pos w];split at h
    ·exact mem_append_left _ this
    ·exact absurd h (by simp)
   ·rename_i w
    rw[if_neg w];exact this
  ·have:i=n:=by lia
   subst this;rw[en] at hd
   cases hd
   rw[if_pos hW] at h ⊢;split at h
   ·exact mem_append_right _ (by simp)
   ·exact absurd h (by simp)
theorem Yz {m:Nat}(hW:∀k,W k=true↔k=.ho)(pt:∀d∈ds,cT (m:Int) d.2.1 d.2.2.1)(h20:m<=20)(h:(bY W (skl ds) ds.length).2=[]):Frs ds:=by
 intro A B d e hd cn;have sl:(skl ds).length=ds.length:=by unfold skl;rw[length_map]
 have lA:A.length < ds.length:=by rw[e,List.length_append,length_cons];lia
 have at_:∀(i:Nat) (x:RD),ds[i]?=some x->(skl ds)[i]?=some (x.1,x.2.1.toNat,x.2.2.1.toNat):=fun i x hx=>by unfold skl;rw[getElem?_map,hx];rfl
 have hdA:ds[A.length]?=some d:=by rw[e,getElem?_append_right (Nat.le_refl _),Nat.sub_self];rfl
 have h1:(bY W (skl ds) (A.length+1)).2=[]:=oG (ds.length - (A.length+1)) (A.length+1) (by rw[show A.length+1+(ds.length - (A.length+1))=ds.length by lia];exact h);have h0:=oG 1 A.length h1;have br:=Hs (W:=W) (sk:=skl ds) A.length (by lia) h0;have ri:=jA (W:=W) (sk:=skl ds) (m:=m) (fun x hx=>by
  obtain⟨y,hy,rfl⟩:=mem_map.mp hx;obtain⟨a,b,c,f⟩:=pt y hy;exact⟨by show y.2.1.toNat < m;lia,by show y.2.2.1.toNat < m;lia⟩) A.length (by lia)
 rw[gN (at_ _ _ hdA)] at h1;unfold fP at h1;rw[if_pos ((hW _).mpr hd)] at h1;obtain⟨a,b,c,f⟩:=pt d (mem_of_getElem? hdA);have wi:=Io (b:=d.2.2.1.toNat) (e:=d.2.1.toNat) ri.pt h20 (by lia) (by lia);have none_:kW (bY W (skl ds) A.length).1 d.2.2.1.toNat d.2.1.toNat=none:=by
  split at h1
  ·rename_i ew;exact ew
  ·exact absurd h1 (by simp)
 rw[none_] at wi;refine absurd (wi.mpr ?_) (by simp);refine Cn.ind (ds:=oI .ho A) (R:=fun p q=>mk m (dF (bY W (skl ds) A.length).1) p=mk m (dF (bY W (skl ds) A.length).1) q) (fun _=>rfl) (fun _ _ e=>e.symm) (fun _ _ _ x y=>x.trans y) (fun x hx hk=>?_) cn;obtain⟨xA,xk⟩:=mem_filter.mp hx;obtain⟨i,hi⟩:=getElem?_of_mem xA;have il:=(List.getElem?_eq_some_iff.mp hi).1;have hx':ds[i]?=some x:=by rw[e,getElem?_append_left il];exact hi
 have:=br i _ il (at_ i x hx') ((hW _).mpr (of_decide_eq_true xk));exact pN _ _ rfl (vY ri.pt) (.pc,(x.2.1.toNat:Int),(x.2.2.1.toNat:Int),(0,1)) (mem_map.mpr ⟨_,this,rfl⟩) (by intro z;cases z)
end L2
namespace Shp
open PySem L2
theorem Hr (hl:R0.length=m)(hw:∀i,i < m->(R0.getD i []).length=w)(hmw:m<=w)(h0:Pr R0)(st:Stp m w (Mq.at2 R0) Pr):∀col,col<=m->∃R r d sg,SI m w (Mq.at2 R0) R r col d sg/\Pr R
 |0,_=>⟨R0,0,1,1,.start hl hw,h0⟩
 |col+1,hc=>by
  obtain⟨R,r,d,sg,S,p⟩:=Hr hl hw hmw h0 st col (by lia)
  by_cases hz:∀i,r<=i->i < m->ent R i col=0
  ·exact⟨R,r,d,sg,S.skip hz,p⟩
  ·obtain⟨i,hi⟩:=Classical.not_forall.mp hz;obtain⟨h1,hi⟩:=Classical.not_imp.mp hi;obtain⟨h2,ne⟩:=Classical.not_imp.mp hi
   by_cases e:i=r
   ·subst e;exact⟨_,_,_,_,S.clear h2 (by lia) ne,st.cl R i col d sg S h2 (by lia) ne p⟩
   ·have hlt:r < i:=by lia
    have S2:=S.swap hlt h2;have p2:=st.sw R r col d sg i S hlt h2 p;have ne2:ent (fK R i r) r col≠0:=by
     have:=Bc (R:=R) (p:=i) (r:=r) (by rw[S.len];lia) (by rw[S.len];lia) r;unfold ent at ne ⊢;rw[this,show Mq.sw i r r=i by unfold Mq.sw;simp];exact ne
    exact⟨_,_,_,_,S2.clear (by lia) (by lia) ne2,st.cl _ r col d (-sg) S2 (by lia) (by lia) ne2 p2⟩
theorem Vw (xP:fQ X)(hw:∀row∈X,row.length=X.length)(m1:1<=X.length)(hz:wgt X=0):∃v:Nat->Rat,(∃j,j < X.length/\v j≠0)/\∀x,x < X.length->(Mq.rs X.length fun j=>v j*rH X j x)=0:=by
 obtain⟨R,r,d,sg,S,L⟩:=Hr (m:=X.length) (w:=X.length+X.length) (R0:=kH X) (Ps X) (fun i hi=>by rw[wG hi,Dg,hw _ (mem_of_getElem? (wW hi))]) (by lia) (Wa xP hw) qa6 X.length (Nat.le_refl _);have wr:=Of xP (Uu fun i j hi hj=>yI xP hw hi hj) S;have hr:r < X.length:=by
  rcases wr with z | z
  ·exact z.1
  ·exact absurd hz z.2
 obtain⟨⟨k0,hk0,nk0⟩,hsum⟩:=L.lame S hr;refine⟨fun k=>Mq.at2 R (X.length - 1) (X.length+k),⟨k0,hk0,fun z=>?_⟩,hsum⟩;exact nk0 (Rat.intCast_inj.mp (by unfold Mq.at2 at z;simpa using z))
end Shp
namespace L2
open Shp
theorem Nof.wgt_ne (o:Nof m ds)(e:zM m ds N X Y)(xP:fQ X)(hw:∀row∈X,row.length=X.length)(m1:1<=X.length):wgt X≠0:=fun hz=>by
 obtain⟨v,⟨j,hj,vj⟩,hs⟩:=Vw xP hw m1 hz;have n:=qa9 e;have z:=Vj (u:=fun x=>if x=0 then 0 else v (x - 1)) o.m1 o.pt o.pos o.cn o.fr (if_pos rfl) (fun y y1 yn=>by
  have s:=hs (y - 1) (by lia);rw[n] at s;rw[<- s];refine aT fun i _=>?_;rw[if_neg (by lia),Nat.add_sub_cancel,Oj e,show y - 1+1=y by lia])
 have:=z (j+1) (by lia);rw[if_neg (by lia),Nat.add_sub_cancel] at this;exact vj this
end L2
namespace Mq
theorem Cz (l:Low p){a L:Int}(hL:1<=L)(h:val p=(a:Rat) / (L:Rat)):p.2 ∣ L/\p.1.natAbs<=a.natAbs:=by
 have h2:((p.2:Int):Rat)≠0:=by have:=l.pos;exact_mod_cast (show p.2≠0 by lia)
 have hl:((L:Int):Rat)≠0:=by exact_mod_cast (show L≠0 by lia)
 have e:p.1*L=a*p.2:=by
  unfold val at h;have:((p.1:Int):Rat)*(L:Rat)=(a:Rat)*((p.2:Int):Rat):=by grind
  exact_mod_cast this
 have d:p.2 ∣ L:=by
  have c:Int.gcd p.2 p.1=1:=by
   have:=l.one;unfold gc at this;rw[Int.gcd_comm];exact_mod_cast this
  have c':Nat.Coprime p.2.natAbs p.1.natAbs:=c;have dv:p.2.natAbs ∣ p.1.natAbs*L.natAbs:=by
   rw[<- Int.natAbs_mul,e,Int.natAbs_mul];exact Nat.dvd_mul_left ..
  exact Int.natAbs_dvd_natAbs.mp (c'.dvd_of_dvd_mul_left dv)
 obtain⟨t,ht⟩:=d;have t1:t≠0:=fun z=>by rw[z,Int.mul_zero] at ht;lia
 have e2:p.1*t=a:=by
  have:p.2*(p.1*t)=p.2*a:=by
   rw[Int.mul_comm p.2 a,<- e,ht,<- Int.mul_assoc,<- Int.mul_assoc,Int.mul_comm p.2 p.1]
  exact Int.eq_of_mul_eq_mul_left (by have:=l.pos;lia) this
 refine⟨⟨t,ht⟩,?_⟩;rw[<- e2,Int.natAbs_mul];exact Nat.le_mul_of_pos_right _ (by lia)
def Fr (L:Int)(M:Nat)(x:Rat):Prop:=∃a:Int,x=(a:Rat) / (L:Rat)/\a.natAbs<=M*L.natAbs
section
variable {L K:Int} {M N:Nat} {x y:Rat}
theorem uX (h:1<=L):((L:Int):Rat)≠0:=by exact_mod_cast (show L≠0 by lia)
theorem Fr.mono (h:Fr L M x)(l:M<=N):Fr L N x:=by
 obtain⟨a,e,b⟩:=h;exact⟨a,e,Nat.le_trans b (Nat.mul_le_mul_right _ l)⟩
theorem Fr.zero:Fr L 0 0:=⟨0,by rw[show ((0:Int):Rat)=0 by rfl,Rat.div_def];grind,by simp⟩
theorem Fr.one (h:1<=L):Fr L 1 1:=⟨L,by have:=uX h;grind,by lia⟩
theorem Fr.add (h:Fr L M x)(g:Fr L N y):Fr L (M+N) (x+y):=by
 obtain⟨a,ea,ba⟩:=h;obtain⟨b,eb,bb⟩:=g;refine⟨a+b,?_,?_⟩
 ·rw[ea,eb,Rat.intCast_add,Rat.div_def,Rat.div_def,Rat.div_def];grind
 ·rw[Nat.add_mul];have:=Int.natAbs_add_le a b;lia
theorem Fr.neg (h:Fr L M x):Fr L M (-x):=by
 obtain⟨a,ea,ba⟩:=h;refine⟨-a,?_,by rw[Int.natAbs_neg];exact ba⟩;rw[ea,Rat.intCast_neg,Rat.div_def,Rat.div_def];grind
theorem Fr.of (hL:1<=L){t b:Int}(hb:1<=b)(d:b ∣ L)(ht:t.natAbs<=M):Fr L M ((t:Rat) / (b:Rat)):=by
 obtain⟨k,rfl⟩:=d;have k1:1<=k:=by
  rcases Int.lt_or_le k 1 with z | z
  ·have:=Int.mul_nonpos_of_nonneg_of_nonpos (show 0<=b by lia) (show k<=0 by lia);lia
  ·exact z
 refine⟨t*k,?_,?_⟩
 ·have:=uX hb;have:=uX k1;rw[Rat.intCast_mul,Rat.intCast_mul];grind
 ·rw[Int.natAbs_mul,Int.natAbs_mul];refine Nat.mul_le_mul ht (Nat.le_mul_of_pos_left _ (by lia))
theorem Fr.get (h:Fr L M x)(hM:M < 2 ^ m)(hL:B n L)(hb:m+n<=b):∃a:Int,B b a/\x=(a:Rat) / (L:Rat):=by
 obtain⟨a,ea,ba⟩:=h;refine⟨a,?_,ea⟩;refine B.mono (n:=m+n) ?_ hb;show a.natAbs < 2 ^ (m+n);rw[Nat.pow_add];have hL:L.natAbs < 2 ^ n:=hL;exact Nat.lt_of_le_of_lt ba (Nat.mul_lt_mul'' hM hL)
end
end Mq
namespace L2
theorem Om (s g x:Nat):dl s g x=1\/dl s g x=0\/dl s g x=-1:=by
 unfold dl
 by_cases a:s=x<;>by_cases b:g=x<;>simp only[a,b,if_true,if_false]
 ·exact .inr (.inl (by grind))
 ·exact .inl (by grind)
 ·exact .inr (.inr (by grind))
 ·exact .inr (.inl (by grind))
theorem Cb (h:Mq.Fr L M y)(s g x:Nat):Mq.Fr L M (dl s g x*y):=by
 rcases Om s g x with e | e | e
 ·rw[e,Rat.one_mul];exact h
 ·rw[e,Rat.zero_mul];exact Mq.Fr.zero.mono (Nat.zero_le _)
 ·rw[e,show (-1:Rat)*y=-y by grind];exact h.neg
open PySem PySem.Spec PyProof.Rows Shp
abbrev Ent:=Option Nat × RD × Mq.Q2
end L2
namespace Mq
theorem Wn {a L l k:Int}(h:1<=p.2)(e:l=k*p.2)(l1:1<=l)(d:l ∣ L)(hL:1<=L)(v:val p=(a:Rat) / (L:Rat)):(Dy l p).natAbs<=a.natAbs:=by
 obtain⟨s,rfl⟩:=d;have s1:s≠0:=fun z=>by rw[z,Int.mul_zero] at hL;lia
 have hv:=Pe (L:=l) (k:=k) h e;have h2:=uX l1;have h3:((s:Int):Rat)≠0:=by exact_mod_cast s1
 have e2:Dy l p*s=a:=by
  have:((Dy l p:Int):Rat)*(s:Rat)=(a:Rat):=by
   rw[hv,v,Rat.intCast_mul];grind
  exact_mod_cast this
 rw[<- e2,Int.natAbs_mul];exact Nat.le_mul_of_pos_right _ (by lia)
end Mq
namespace Shp
open PySem L2
theorem Hu (hX:fQ X)(hq:Mq.Pos qs)(hl:qs.length=X.length)(hb:∀row∈X,∀p∈row,p.2 ∣ L/\∃a:Int,Mq.B b a/\Mq.val p=(a:Rat) / (L:Rat))(hqb:∀p∈qs,p.2 ∣ L/\∃a:Int,Mq.B b a/\Mq.val p=(a:Rat) / (L:Rat))(hL:1<=L):BdR b (iQ X qs):=fun i x=>by
 unfold ent
 by_cases hi:i < X.length
 ·rw[uW hl hi];have pos:=tV hX hq hl hi;have al:∀p∈X.getD i []++[qs.getD i Mq.z0],p.2 ∣ L/\∃a:Int,Mq.B b a/\Mq.val p=(a:Rat) / (L:Rat):=fun p hp=>by
   rcases mem_append.mp hp with z | z
   ·exact hb _ (mem_of_getElem? (wW hi)) p z
   ·have e:p=qs.getD i Mq.z0:=by simpa using z
    rw[e];exact hqb _ (mem_of_getElem? (Mq.Pc (show i < qs.length by lia)))
  generalize X.getD i []++[qs.getD i Mq.z0]=row at pos al;obtain⟨dv,l1⟩:=Mq.yR pos (fun p hp=>(al p hp).1) row.length (Nat.le_refl _);rw[take_length] at dv l1;unfold iw;rw[getD_eq_getElem?_getD,getElem?_map]
  cases e:row[x]? with
  |none=>exact Nat.two_pow_pos _
  |some p=>
   have mem:=mem_of_getElem? e;obtain⟨_,a,ab,ea⟩:=al p mem;obtain⟨k,ek⟩:=Ca pos p mem;exact ab.le (Mq.Wn (pos p mem) ek l1 dv hL ea)
 ·rw[getD_eq_getElem?_getD (l:=iQ X qs),getElem?_eq_none (by rw[Eg hl];lia)];exact Nat.two_pow_pos _
structure Ovr (n:Nat) (ps:List Mq.Q2):Prop where
 e:∃D:Int,1<=D/\Mq.B n D/\∀p∈ps,∃t:Int,Mq.B n t/\Mq.val p=(t:Rat) / (D:Rat)
theorem Tw (d0:d≠0)(bd:Mq.B n d)(h:∀p∈ps,∃t:Int,Mq.B n t/\p=red t d):Ovr n ps:=by
 refine⟨(d.natAbs:Int),by lia,by show ((d.natAbs:Int)).natAbs < _;rw[Int.natAbs_natCast];exact bd,fun p hp=>?_⟩;obtain⟨t,bt,rfl⟩:=h p hp;rw[jQ d0];rcases Int.lt_or_le d 0 with z | z
 ·refine⟨-t,bt.neg,?_⟩;rw[show ((d.natAbs:Nat):Int)=-d by lia,Rat.intCast_neg,Rat.intCast_neg];have:((d:Int):Rat)≠0:=by exact_mod_cast d0
  grind
 ·exact⟨t,bt,by rw[show ((d.natAbs:Nat):Int)=d by lia]⟩
inductive oE (K:Frag) (vs:List V) (H:Hp) (Q:VK) (E:XK):Prop where
 |mk (g b D:Addr) (H0:Hp) (us bs:List V) (X:List (List Mq.Q2)) (qs:List Mq.Q2) (k n:Nat):vs=[.ref g,.ref b]->SqL K H g us->Fmd K H0 D H us X->SqL K H b bs->Fqs K H bs qs->qs.length=X.length->jM qs->(∀p∈qs,Mq.Bd k p)->fQ X->(∀row∈X,(∀p∈row,Mq.Bd k p)/\row.length=X.length)->X.length<=26->10+k+k*(X.length+1)<=8000->BdR n (iQ X qs)->1<=n->bw n X.length<=8900->wgt X≠0->(∀l zs ps H',aS H H'->H l=none->H' l=some (.lst zs)->Fqs K H' zs ps->qd1 X qs ps->Ovr (bw n X.length) ps->Q (.ref l) H')->oE K vs H Q E
end Shp
namespace L2
open PySem
section
variable {X:Cx}
theorem Kz (I:Inv X pins σ H s)(e:H a=some (jN a (.ref C) (some dx)))(ed:H dx=some (.xd fs)):∃ox od,W.InstAt s.heap a ox C (some od):=by
 obtain⟨⟨ob,vs,h1,h2,h3,h4⟩,_⟩:=(show cN X.prog X.w H s.heap a (jN a (.ref C) (some dx)) from I.hok a _ e)
 obtain⟨mA,N1,r⟩:=(show cN X.prog X.w H s.heap dx (.xd fs) from I.hok dx _ ed)
 obtain⟨od,ho,hl⟩:=qQ N1;exact⟨ob,od,h1,h2,by unfold W.notCls;rw[h4],by rw[h3];exact ho⟩
theorem Gq:kL X (.builtin "isinstance") (fun xs H Q=>∃a C dx fs c cv b,xs=[.ref a,c]/\H a=some (jN a (.ref C) (some dx))/\H dx=some (.xd fs)/\wU X.K C/\cC c cv/\(∀u,cC c u->u=cv)/\W.kitOne X.K (.ref C) cv=some b/\Q (.bl b) H):=by
 intro pins s σ H xs us Q I r h;obtain⟨a,C,dx,fs,c,cv,b,rfl,ha,hdx,k,rc,ru,e,q⟩:=h;obtain⟨u,w',rfl,rx,rn⟩:=Ih r
 cases (show u=Value.ref a from rx)
 cases ru w' rn
 obtain⟨ox,od,hi⟩:=Kz I ha hdx;exact W.kia_one (Do (ox:=ox) (odo:=some od) k) I.kIn hi e (fun z=>nomatch z) fun tk=>⟨.bl b,H,I.tok tk,rfl,q⟩
end
open PySem.Spec PyProof.Rows
section
variable {X:Cx} {C C0 f:Addr}
theorem wR:kL X (.builtin "ValueError.__init__") (fun xs H Q=>∃a C C0 f d v v2,xs=[.ref a,v,v2]/\H a=some (gS a (.ref C) d)/\kN X.K C C0 f/\Q .non H):=by
 intro pins s σ H xs us Q I r h;obtain⟨a,C,C0,f,d,v,v2,rfl,ea,q,hq⟩:=h;obtain⟨u1,us',rfl,r1,r2⟩:∃u1 us',us=u1 :: us'/\cC (.ref a) u1/\bV [v,v2] us':=by cases r with | cons p q=>exact⟨_,_,rfl,p,q⟩
 obtain rfl:u1=Value.ref a:=r1;obtain⟨⟨t,he⟩,_⟩:=(show cN X.prog X.w H s.heap a (gS a (.ref C) d) from I.hok a _ ea)
 obtain⟨nm,qn,N,bs,sn,sub,ab,col,dd,k0,k1,k2,k3,k5,lC⟩:=q.cls;have FB:=PySem.F.excBase_ValueError;have T:=q.tail I.kIn;have hl:us'.length=2:=r2.length.symm;have hC:=I.kIn _ _ lC;have fin:∀s',s'={ s with heap:=(s.heap.push { cls:=.type "tuple",data:=.seq us'.toArray }).update a (Obj.mapFields (·.setIfInBounds 0 (.ref s.heap.objs.size))) }->EP X pins σ Q .none s':=by
  rintro s' rfl;have I1:Inv X pins σ H { s with heap:=s.heap.push { cls:=.type "tuple",data:=.seq us'.toArray } }:=I.kept (t':=s.toks) fun b o e=>Heap.get?_push_of_some _ e;have he1:=Heap.get?_push_of_some (h:=s.heap) { cls:=.type "tuple",data:=.seq us'.toArray } he;have e2:=Heap.get?_update_self (Obj.mapFields (·.setIfInBounds 0 (.ref s.heap.objs.size))) he1 rfl;have I2:=I1.write (x:=a) (e:=a) (t':=s.toks) (o:=gS a (.ref C) d) (by rw[ea];exact True.intro) (.inl rfl) (fun b u nb e=>(Heap.get?_update_other _ _ (Ne.symm nb)).trans e) ⟨_,e2⟩ (pP (t:=s.heap.objs.size) e2);rw[Qa ea] at I2;exact⟨.non,H,I2,rfl,hq⟩
 obtain⟨hp,g,dr,tk,os⟩:=s;refine wpAny_call (codeAny_call_builtin FB.init.plain FB.initEntry (wpAny_check_init_subU FB T hC he rfl ?_));unfold Builtin.«BaseException.__init__»;dsimp only;rw[if_neg (by simp)];unfold newTuple Builtin.BaseException.bexcPut;have he₁:=Heap.get?_push_of_some (h:=hp) { cls:=.type "tuple",data:=.seq us'.toArray } he;refine wpAny_bind (wpAny_newObj_type (wpAny_bind (wpAny_bind (wpAny_field he₁ rfl rfl (wpAny_bind (wpAny_setField he₁ rfl (show 0 < 6 by decide) ?_))))) (by show us'.toArray.size<=sizeLine;rw[size_toArray,hl];decide));exact wpAny_letGo (wpAny_pure (fin _ rfl))
def Lc (K:Frag)(ta:TA):TE:=fun σ H Q=>ta σ H fun vs H1=>∃a C C0 f d v v2,vs=[.ref a,v,v2]/\H1 a=some (gS a (.ref C) d)/\kN K C C0 f/\Q .non H1
theorem Ec (hg:Gl X x)(hm:X.mg x=some (.ref C0))(c:Nh X.K C0)(ha:PA X (e :: es) t)(hdb:(x == ("__debug__":Str))=false:=by decide)(hst:starEach (e :: es) X.env=(false,eval e X.env) :: starEach es X.env:=by rfl)(hpl:(backTo pos (starEach es X.env)).any (·.1)=false:=by rfl)(ht:eval (.Call (.Attribute (.Name x np) "__init__" apos) (e :: es) [] pos) X.env=(do
   let ov <- eval (.Name x np) X.env
   standAt apos.atName
   let (f,first) <- holding [ov] (getMethod ov "__init__" pl)
   callWith pos f first (backTo pos (starEach (e :: es) X.env)) (backToKw pos (keywordEach [] X.env))):=by rfl):
  PE X (.Call (.Attribute (.Name x np) "__init__" apos) (e :: es) [] pos) (Lc X.K t):=by
 intro pins s σ H Q I h;refine W.methodCall_KW (pl:=pl) (iG I hg hm ?_ hdb) ht;refine W.method_cls I.kIn c.sp (W.cls_value I.kIn c.rd c.fi rfl ?_);have I':Inv X pins σ H { s with toks:=s.toks+1 }:=I.tok _;exact PyProof.Rows.callWith_builtin1 (thn (ha pos pins _ σ H _ I' h) fun us s1 ⟨vs,H1,I1,r1,q1⟩=>wR pins s1 σ H1 vs us Q I1 r1 q1) hst hpl
end
section
variable {prog:Program} {w:World} {A:Around} {E:Value->Shared->Prop} {s:Shared} {K:Frag} {x C C0 f:Addr} {name:Str} {v:Value} {vs:Array Value}
theorem Qk (X:K.In s.heap)(q:kN K C C0 f)(hx:s.heap.get? x=some { cls:=.ref C,dict:=some d,data:=.fields vs })(hnd:s.heap.Ns1 d m)(hw:Within m ns)(hl:ns.length<=20)(hs:W.findIn K (.ref C) "__setattr__"=some (some (.builtin "object.__setattr__")))(hn:W.findIn K (.ref C) name=some none)(h:∀h',(h'.Ns1 d fun y=>if y=name then some v else m y)->Heap.SameBut d s.heap h'->∀tk,Q () { s with heap:=h',toks:=tk }):
  wpAny (model prog w) A (setAttr (.ref x) name v) Q E s:=by
 obtain⟨oD0,esD0,epD0,hoD0,hdD0,hsk⟩:=id hnd;have J:W.InstAt s.heap x { cls:=.ref C,dict:=some d,data:=.fields vs } C (some oD0):=⟨hx,rfl,rfl,hoD0⟩
 have SF:=PySem.F.store_object;have SV:=PySem.F.store_ValueError;obtain⟨cd,hc,hm,hd⟩:=q.cin;refine W.set_plain X J hs ?_;have sub:W.Looks (model prog w) s.heap (isInstance (.ref x) (.type "object")) true:=J.type.andThen (W.looks_mroIn X (by unfold W.mroIn;rw[hc,Option.bind_some,hm];rfl));refine codeAny_call_builtin SF.slot.plain SF.entry (@W.check_slot (model prog w) _ _ { s with toks:=s.toks+1 } "object.__setattr__" "object" "__setattr__" (.ref x) [.str name s.toks,v] [] _ SF.kind SF.split sub (SF.args (.ref x) (.str name s.toks) v) ?_);have hmro:W.Looks (model prog w) s.heap (mroOf (.ref C)) cd.mro:=(W.looks_clsIn X hc).andThen .now;rw[W.osa_eq,refuse_eq];refine wpAny_bind (wpAny_bind (W.Looks.here (s:={ s with toks:=s.toks+1 }) J.type (wpAny_bind (W.Looks.here (s:={ s with toks:=s.toks+1 }) hmro ?_))));rw[hm,refuseLoop_ref,refuseLoop_ref,SV.passes];refine wpAny_pure (wpAny_bind (W.Looks.here (s:={ s with toks:=s.toks+1 }) J.type (wpAny_bind (W.Looks.here (s:={ s with toks:=s.toks+1 }) (W.looks_findIn X hn) (wpAny_bind (wpAny_pure ?_))))));dsimp only;refine wpAny_bind (wpAny_pure (wpAny_bind (wpAny_bind (wpAny_loadPart hx (wpAny_bind (W.Looks.here (s:={ s with toks:=s.toks+1 }) (W.looks_clsIn X hc) ?_))))));rw[hd,if_neg (by decide)];dsimp only;refine wpAny_pure ?_;show wpAny _ _ (Builtin.ObjectAttr.storeInDict d (.str name s.toks) name v) _ _ _;unfold Builtin.ObjectAttr.storeInDict Builtin.ObjectAttr.newKeyGuard;refine wpAny_bind (wpAny_pure (wpAny_bind (wpAny_nsSet1 (s:={ s with toks:=s.toks+1 }) hnd fun h' hn' hs'=>?_)));obtain⟨oD,esD,epD,hoD,hdD,hcD⟩:=hn'.count (ns:=name :: ns) (fun y hy=>by
  by_cases c:y=name
  ·rw[c];exact mem_cons_self ..
  ·rw[if_neg c] at hy;exact mem_cons_of_mem _ (hw y hy))
 refine wpAny_bind (wpAny_lookBehind hoD (by rw[hdD];exact pastItsLine_dict (Nat.le_trans hcD (by rw[length_cons,sizeLine_eq];lia))) ?_);refine wpAny_pure ?_;exact h h' hn' hs' _
end
section
variable {X:Cx} {o value:Expr} {nm:Str} {pos pos':Pos} {ta tv:TE}
def xdE (a:Addr)(fs:List (Str × V)):HO:=.ext fun h=>∃mA,h.Ns1 a mA/\∀f,jY (fs.lookup f) (mA f)
theorem Zc (e:h.Ns1 a mA)(r:∀f,jY (fs.lookup f) (mA f)):cN P w H h a (xdE a fs):=by
 obtain⟨o,es,ep,z1,z2⟩:=id e;exact⟨⟨mA,e,r⟩,⟨_,z1⟩,fun h1 h2 ⟨m',⟨o',es',ep',y1,y2⟩,r'⟩ k=>⟨m',⟨o',es',ep',k _ y1,y2⟩,r'⟩⟩
def qd3 (K:Frag)(ta tv:TE)(nm:Str):TS:=fun D σ H=>tv σ H fun y H1=>ta σ H1 fun x H2=>∃a C C0 f,x=.ref a/\H2 a=some (gS a (.ref C) none)/\kN K C C0 f/\Ae K C nm/\
 ∀dx,H2 dx=none->D.nx σ (upd (upd H2 dx (xdE dx [(nm,y)])) a (gS a (.ref C) (some dx)))
theorem Pd (ha:PE X o ta)(hv:PE X value tv)(hs:swapsWith value (some (.Attribute o nm pos')) pos.line X.env=pure false):PS X (.Assign [.Attribute o nm pos'] value pos) (qd3 X.K ta tv nm):=by
 intro pins s σ H D I h;refine plainObj_wpAny_Assign_Attribute (thn (hv pins s σ H _ I h) fun u s1 ⟨y,H1,I1,ry,q⟩=>thn (ha pins s1 σ H1 _ I1 q) fun ov s2 ⟨x,H2,I2,rx,a,C,C0,f,ex,ea,qi,qf,q2⟩=>?_) hs;subst ex;obtain rfl:ov=Value.ref a:=rx;obtain⟨⟨t,he⟩,_⟩:=(show cN X.prog X.w H2 s2.heap a (gS a (.ref C) none) from I2.hok a _ ea)
 refine Ja I2.kIn qi he qf.sa qf.no fun h' e1 e2 e3 tk=>?_;have fr:H2 s2.heap.objs.size=none:=I2.hok.fresh (Nat.le_refl _);refine⟨σ,_,?_,q2 _ fr⟩;have na:a≠s2.heap.objs.size:=Nat.ne_of_lt (Heap.lt_size he);have u1:=Heap.get?_update_self (fun _:Obj=>({ cls:=.ref C,data:=.fields #[.ref t,.none,.none,.none,.bool false,.none] }:Obj)) e1 rfl;have u2:∀b,b≠a->(h'.update a fun _:Obj=>({ cls:=.ref C,data:=.fields #[.ref t,.none,.none,.none,.bool false,.none] }:Obj)).get? b=h'.get? b:=fun b nb=>Heap.get?_update_other _ _ (Ne.symm nb);generalize h'.update a (fun _:Obj=>({ cls:=.ref C,data:=.fields #[.ref t,.none,.none,.none,.bool false,.none] }:Obj))=h1 at u1 u2;have I3:Inv X pins σ (upd H2 s2.heap.objs.size (xdE s2.heap.objs.size [(nm,y)])) { s2 with heap:=h1,toks:=s2.toks }:=by
  refine I2.laid (a:=s2.heap.objs.size) (o:=xdE s2.heap.objs.size [(nm,y)]) (h':=h1) (t':=s2.toks) (fun b u e=>?_) (Nat.le_refl _) ?_
  ·by_cases nb:b=a
   ·subst nb;rw[he] at e;cases e;exact u1
   ·rw[u2 b nb];exact e3 b u nb e
  ·obtain⟨od,es,ep,z1,z2⟩:=e2;refine Zc ⟨od,es,ep,(u2 _ (Ne.symm na)).trans z1,z2⟩ fun g=>?_
   by_cases gg:g=nm
   ·subst gg;rw[if_pos rfl,lookup_cons,beq_self_eq_true];exact ry
   ·have:(g == nm)=false:=beq_eq_false_iff_ne.mpr gg;rw[if_neg gg,lookup_cons,this];exact True.intro
 have ea3:upd H2 s2.heap.objs.size (xdE s2.heap.objs.size [(nm,y)]) a=some (gS a (.ref C) none):=by rw[aQ na];exact ea
 exact I3.write (x:=a) (e:=a) (h':=h') (t':=tk) (by rw[ea3];exact True.intro) (.inl rfl) (fun b u nb z=>by rw[<- u2 b nb];exact z) ⟨_,e1⟩ (pP e1)
def qd8 (K:Frag)(ta tv:TE)(nm:Str):TS:=fun D σ H=>tv σ H fun y H1=>ta σ H1 fun x H2=>∃a C C0 f dx n1 y1,x=.ref a/\H2 a=some (gS a (.ref C) (some dx))/\H2 dx=some (xdE dx [(n1,y1)])/\n1≠nm/\kN K C C0 f/\Ae K C nm/\
 D.nx σ (upd H2 dx (.xd [(n1,y1),(nm,y)]))
theorem Sq (ha:PE X o ta)(hv:PE X value tv)(hs:swapsWith value (some (.Attribute o nm pos')) pos.line X.env=pure false):PS X (.Assign [.Attribute o nm pos'] value pos) (qd8 X.K ta tv nm):=by
 intro pins s σ H D I h;refine plainObj_wpAny_Assign_Attribute (thn (hv pins s σ H _ I h) fun u s1 ⟨y,H1,I1,ry,q⟩=>thn (ha pins s1 σ H1 _ I1 q) fun ov s2 ⟨x,H2,I2,rx,a,C,C0,f,dx,n1,y1,ex,ea,ed,ne,qi,qf,q2⟩=>?_) hs;subst ex;obtain rfl:ov=Value.ref a:=rx;obtain⟨⟨t,he⟩,_⟩:=(show cN X.prog X.w H2 s2.heap a (gS a (.ref C) (some dx)) from I2.hok a _ ea)
 obtain⟨⟨mA,hm,hr⟩,_⟩:=(show cN X.prog X.w H2 s2.heap dx (xdE dx [(n1,y1)]) from I2.hok dx _ ed)
 refine Qk (ns:=[n1]) I2.kIn qi he hm (fun g hg=>?_) (by show 1<=20;decide) qf.sa qf.no fun h' e2 e3 tk=>?_
 ·by_cases c:g=n1
  ·rw[c];exact mem_cons_self ..
  ·exfalso
   have:=hr g;rw[lookup_cons,beq_eq_false_iff_ne.mpr c] at this;apply hg
   cases e:mA g with
   |none=>rfl
   |some v=>rw[e] at this;exact absurd this (by intro z;exact z)
 ·refine⟨σ,_,?_,q2⟩;obtain⟨od,es,ep,z1,z2⟩:=id e2;refine I2.write (x:=dx) (e:=dx) (h':=h') (t':=tk) (by rw[ed];exact True.intro) (.inl rfl) (fun b u nb z=>(e3.2 b nb).trans z) ⟨_,z1⟩ ⟨_,e2,fun g=>?_⟩
  by_cases c:g=nm
  ·subst c;rw[if_pos rfl,lookup_cons,beq_eq_false_iff_ne.mpr (Ne.symm ne),lookup_cons,beq_self_eq_true];exact ry
  ·rw[if_neg c];have:=hr g
   by_cases c1:g=n1
   ·subst c1;rw[lookup_cons,beq_self_eq_true] at this ⊢;exact this
   ·rw[lookup_cons,beq_eq_false_iff_ne.mpr c1] at this ⊢;rw[lookup_cons,beq_eq_false_iff_ne.mpr c];exact this
end
open Shp
abbrev wd (m:Nat)(ds:List RD):Nat:=m - 1+cA ds
structure Sv (m:Nat) (ds:List RD) (r:Nat->Rat) (v:Nat->Rat):Prop where
 z:v 0=0
 e:∀i,i < wd m ds->(Mq.rs (wd m ds) fun j=>eqM m ds (i+1) (j+1)*v (j+1))=r (i+1)
def un (k x:Nat):Rat:=if x=k then 1 else 0
abbrev qo7 (m:Nat)(ds:List RD)(a b:Nat)(v:Nat->Rat):Prop:=Sv m ds (fun x=>un a x - un b x) v
theorem cD.seqI {K:Frag}(ht:H t=some (.ins C dx fs))(e:cD t H H')(h:SqL K H a xs):SqL K H' a xs:=by
 rcases h with (h | ⟨u,h⟩) | h
 ·exact .inl (.inl (e _ _ h (fD h ht (fun z=>by cases z))))
 ·exact .inl (.inr ⟨u,e _ _ h (fD h ht (fun z=>by cases z))⟩)
 ·exact .inr h
theorem cD.seqTI {K:Frag}(ht:H t=some (.ins C dx fs))(e:cD t H H')(h:SqT K H a xs):SqT K H' a xs:=by
 rcases h with (h | ⟨u,h⟩) | h
 ·exact .inl (.inl (e _ _ h (fD h ht (fun z=>by cases z))))
 ·exact .inl (.inr ⟨u,e _ _ h (fD h ht (fun z=>by cases z))⟩)
 ·exact .inr h
theorem cD.fqsI {K:Frag}(ht:H t=some (.ins C dx fs))(e:cD t H H'):∀{xs:List V} {ps:List Mq.Q2},Fqs K H xs ps->Fqs K H' xs ps
 |_,_,.nil=>.nil
 |_,_,.cons f q=>.cons (cD.seqTI ht e f) (cD.fqsI ht e q)
theorem glo:¬(("levels":Str) = "flows"):=by decide +kernel
def mU (p l a:Addr):List (Str × V):=dB "flows" (.ref a) (dB "levels" (.ref l) (dB "lines" (.ref p) []))
theorem Uf (p l a:Addr):(mU p l a).lookup ("levels":Str)=some (.ref l):=by
 unfold mU;rw[bN,if_neg glo,bN,if_pos rfl]
theorem Qm (p l a:Addr){x:Str}(h1:¬x = "lines")(h2:¬x = "levels")(h3:¬x = "flows"):(mU p l a).lookup x=none:=by
 unfold mU;rw[bN,if_neg h3,bN,if_neg h2,bN,if_neg h1];rfl
structure AB (K:Frag) (mg:Str->Option Value) (CA:Addr):Prop where
 cl:Cls K CA
 nI:gG K CA "lines"
 nE:gG K CA "levels"
 nO:gG K CA "flows"
 mA:mg "Answer"=some (.ref CA)
structure Wx (CA:Addr) (K:Frag) (H:Hp) (a:Addr) (lv fl:List Mq.Q2):Prop where
 e:∃(dx li le fo:Addr) (xs ys:List V),H a=some (.ins CA dx (mU li le fo))/\SqL K H le xs/\Fqs K H xs lv/\SqL K H fo ys/\Fqs K H ys fl
inductive rG (CA:Addr) (K:Frag) (vs:List V) (H:Hp) (Q:VK) (E:XK):Prop where
 |mk (a:Addr) (lv fl:List Mq.Q2):vs=[.ref a]->Wx CA K H a lv fl->(∀l xs H',aS H H'->H l=none->H' l=some (.lst xs)->Fqs K H' xs lv->Q (.ref l) H')->rG CA K vs H Q E
def We (lv hs:List Mq.Q2)(t:Nat)(d:RD):Mq.Q2:=Mi d.1 (flF lv d) (if d.1=.ho then hs.getD t Mq.z0 else (0,1)) d.2.2.2
def wQ (lv hs:List Mq.Q2):Nat->List RD->List Mq.Q2
 |_,[]=>[]
 |t,d :: r=>We lv hs t d :: wQ lv hs (t+cL d.1) r
theorem xH (lv hs:List Mq.Q2)(d:RD):∀(ds:List RD) (t:Nat),wQ lv hs t (ds++[d])=wQ lv hs t ds++[We lv hs (t+cA ds) d]
 | [],t=>rfl
 |e :: r,t=>by
  show _ :: wQ lv hs (t+cL e.1) (r++[d])=_ :: (wQ lv hs (t+cL e.1) r++_);rw[xH lv hs d r,hZ,Nat.add_assoc]
theorem Bx (lv hs:List Mq.Q2):∀(ds:List RD) (t:Nat),(wQ lv hs t ds).length=ds.length
 | [],_=>rfl
 |d :: r,t=>by show (wQ lv hs _ r).length+1=r.length+1;rw[Bx lv hs r]
def lvS (m:Nat)(sol:List Mq.Q2):List Mq.Q2:=(0,1) :: sol.take (m - 1)
theorem rR (l:Mq.Low p)(hL:1<=L)(LB:Mq.B b L)(ab:Mq.B b a)(h:Mq.val p=(a:Rat) / (L:Rat)):Mq.Bd b p/\p.2 ∣ L:=by
 obtain⟨d,t⟩:=Mq.Cz l hL h;refine⟨⟨ab.le t,LB.le ?_⟩,d⟩;have:=Int.le_of_dvd (by lia) d;have:=l.pos;lia
structure EqB (m b:Nat) (L:Int) (ds:List RD):Prop where
 o:Nof m ds
 w26:wd m ds<=26
 b1:1<=b
 hb:10+b+b*(wd m ds+1)<=8000
 hbw:bw b (wd m ds)<=4000
 L1:1<=L
 LB:Mq.B b L
 eM:∀i j,∃a:Int,Mq.B b a/\eqM m ds (i+1) (j+1)=(a:Rat) / (L:Rat)
def Q01 (p:Mq.Q2):Prop:=Mq.Low p/\p.2=1/\p.1.natAbs<=1
theorem Q01.bd (h:Q01 p)(b1:1<=b):Mq.Bd b p:=by
 obtain⟨_,e,l⟩:=h;have:(2:Nat) ^ 1<=2 ^ b:=Nat.pow_le_pow_right (by decide) b1;exact⟨by show p.1.natAbs < 2 ^ b;lia,by show p.2.natAbs < 2 ^ b;rw[e];show 1 < 2 ^ b;lia⟩
theorem Q01.ov (h:Q01 p)(L1:1<=L)(LB:Mq.B b L):p.2 ∣ L/\∃a:Int,Mq.B b a/\Mq.val p=(a:Rat) / (L:Rat):=by
 obtain⟨_,e,l⟩:=h;refine⟨by rw[e];exact Int.one_dvd _,p.1*L,LB.le ?_,?_⟩
 ·rw[Int.natAbs_mul]
  calc p.1.natAbs*L.natAbs<=1*L.natAbs:=Nat.mul_le_mul_right _ l
   _=L.natAbs:=Nat.one_mul _
 ·have:=Mq.uX L1;unfold Mq.val;rw[e,Rat.intCast_mul,show ((1:Int):Rat)=1 by rfl];grind
def uP (sol:List Mq.Q2)(x:Nat):Rat:=if x=0 then 0 else Mq.val (sol.getD (x - 1) Mq.z0)
section
variable {m b N:Nat} {L:Int} {ds:List RD} {X:List (List Mq.Q2)} {Y qs ps:List Mq.Q2}
theorem EqB.cell (h:EqB m b L ds)(e:zM m ds N X Y):∀row∈X,(∀p∈row,Mq.Bd b p/\p.2 ∣ L/\∃a:Int,Mq.B b a/\Mq.val p=(a:Rat) / (L:Rat))/\row.length=X.length:=fun row hr=>by
 refine⟨fun p hp=>?_,by rw[e.x.w row hr,e.x.h]⟩;obtain⟨i,hi⟩:=getElem?_of_mem hr;obtain⟨j,hj⟩:=getElem?_of_mem hp;have ep:p=kB X i j:=by
  unfold kB;rw[getD_eq_getElem?_getD (l:=X),hi];show p=row.getD j (0,1);rw[getD_eq_getElem?_getD,hj];rfl
 obtain⟨a,ab,ea⟩:=h.eM i j;have ev:Mq.val p=(a:Rat) / (L:Rat):=by rw[ep,e.vx,ea]
 obtain⟨x,y⟩:=rR (e.x.l row hr p hp).1 h.L1 h.LB ab ev;exact⟨x,y,a,ab,ev⟩
theorem EqB.pos (e:zM m ds N X Y):fQ X:=fun row hr p hp=>(e.x.l row hr p hp).1.pos
theorem EqB.wgt (h:EqB m b L ds)(e:zM m ds N X Y):wgt X≠0:=by
 by_cases c:1<=X.length
 ·exact h.o.wgt_ne e (EqB.pos e) (fun row hr=>(h.cell e row hr).2) c
 ·have:X=[]:=eq_nil_of_length_eq_zero (by lia);subst this;show (1:Rat)≠0;decide
theorem EqB.sol (e:zM m ds N X Y)(s:qd1 X qs ps)(vq:∀i,i < wd m ds->Mq.val (qs.getD i Mq.z0)=r (i+1)):Sv m ds r (uP ps):=by
 have lX:X.length=wd m ds:=e.x.h;refine⟨if_pos rfl,fun i hi=>?_⟩;rw[<- vq i hi,<- s.sum i (by lia),lX];refine aT fun j _=>?_;unfold uP;rw[if_neg (by lia),Nat.add_sub_cancel,Oj e]
end
theorem Js (hl:m - 1<=ps.length)(hp:p < m):Mq.val ((lvS m ps).getD p (0,1))=uP ps p:=by
 unfold lvS uP
 by_cases c:p=0
 ·subst c;rw[if_pos rfl];exact Mq.pF
 ·rw[if_neg c];obtain⟨q,rfl⟩:∃q,p=q+1:=⟨p - 1,by lia⟩
  rw[Nat.add_sub_cancel,getD_eq_getElem?_getD,getElem?_cons_succ,getElem?_take_of_lt (by lia),<- getD_eq_getElem?_getD]
theorem tS {m:Nat}{ps:List Mq.Q2}(m1:1<=m)(hl:m - 1<=ps.length):(lvS m ps).length=m:=by
 unfold lvS;rw[length_cons,length_take];lia
theorem Jd (h:jM ps):jM (lvS m ps):=fun p hp=>by
 rcases mem_cons.mp hp with z | z
 ·rw[z];exact⟨by decide,by decide⟩
 ·exact h p (mem_of_mem_take z)
theorem Ri (h:Ovr n ps):Ovr n (lvS m ps):=by
 obtain⟨D,D1,bD,al⟩:=h.e;refine⟨D,D1,bD,fun p hp=>?_⟩;rcases mem_cons.mp hp with z | z
 ·refine⟨0,Nat.two_pow_pos _,?_⟩;rw[z,Mq.pF,Rat.div_def];show (0:Rat)=((0:Int):Rat)*_;rw[show ((0:Int):Rat)=0 by rfl];grind
 ·exact al p (mem_of_mem_take z)
theorem Ovr.minus (h:Ovr n ps)(low:jM ps)(hp:p∈ps)(hq:q∈ps):Mq.Bd (n+1) (Mq.minus p q)/\Mq.Bd n p/\Mq.Bd n q:=by
 obtain⟨D,D1,bD,al⟩:=h.e;obtain⟨t,bt,et⟩:=al p hp;obtain⟨s,bs,es⟩:=al q hq;have lp:=low p hp;have lq:=low q hq;refine⟨?_,(rR lp D1 bD bt et).1,(rR lq D1 bD bs es).1⟩;refine(rR (Mq.eU lp.pos lq.pos) D1 (bD.mono (by lia)) (bt.sub bs) ?_).1;rw[Mq.eX lp.pos lq.pos,et,es,Rat.intCast_sub,Rat.div_def,Rat.div_def,Rat.div_def];grind
structure Cw (CN:Addr) (K:Frag) (H:Hp) (n l:Addr) (m b:Nat) (kb:Nat->Nat) (L:Int) (ds:List RD):Prop where
 nt:cZ CN K H n l (m:Int) ds
 ok:∀i d,ds[i]?=some d->Mg (m:Int) d/\Mq.Bd (kb i) d.2.2.2
 m20:m<=20
 h40:ds.length<=40
 cu:lH kb ds.length+30<=8900
 eb:EqB m b L ds
theorem Cw.same {K:Frag}(s:aS H H')(h:Cw CN K H n l m b kb L ds):Cw CN K H' n l m b kb L ds:=⟨h.nt.same s,h.ok,h.m20,h.h40,h.cu,h.eb⟩
abbrev Hn:=Option (Nat × Nat) × RD
section
variable {m u:Nat} {hs:List Mq.Q2} {par:Nat->Nat} {E:List Ent}
theorem Te:∀{ds:List RD} (k:Nat),(∀d∈ds,∀k,Mq.Fr L M (cM d k x y))->Mq.Fr L (ds.length*M) (eqM k ds x y)
 | [],_,_=>Mq.Fr.zero.mono (Nat.zero_le _)
 |d :: ds,k,q=>by
  rw[length_cons,Nat.succ_mul,Nat.add_comm];exact(q d (by simp) k).add (Te _ fun x hx=>q x (mem_cons_of_mem _ hx))
theorem Po:∀{ds:List RD} (k:Nat),(∀d∈ds,∀k,Mq.Fr L M (cR d k x))->Mq.Fr L (ds.length*M) (eqR k ds x)
 | [],_,_=>Mq.Fr.zero.mono (Nat.zero_le _)
 |d :: ds,k,q=>by
  rw[length_cons,Nat.succ_mul,Nat.add_comm];exact(q d (by simp) k).add (Po _ fun x hx=>q x (mem_cons_of_mem _ hx))
theorem Op [Decidable c](g:Mq.Fr L M y):Mq.Fr L M (if c then y else 0):=by
 split
 ·exact g
 ·exact Mq.Fr.zero.mono (Nat.zero_le _)
end
structure StB (K:Frag) (H:Hp) (b:Addr) (ys:List V) (ss:List Mq.Q2) (n:Nat):Prop where
 s:SqL K H b ys
 f:Fqs K H ys ss
 l:ss.length=n
 b:∀s∈ss,Mq.Low s/\Mq.Bd 3900 s
theorem StB.same {K:Frag}{b:Addr}(e:aS H H')(h:StB K H b ys ss n):StB K H' b ys ss n:=⟨e.seq h.s,h.f.same e,h.l,h.b⟩
inductive Aj (K:Frag) (CK:Kd->Addr) (vs:List V) (H:Hp) (Q:VK) (E:XK):Prop where
 |mk (x a:Addr) (d:RD) (z:V) (xs:List V) (hp:List Mq.Q2) (n:Nat):vs=[.ref x,.ref a]->Rw CK H x d.1 (.int d.2.1) (.int d.2.2.1) z->StB K H a xs hp n->cT (n:Int) d.2.1 d.2.2.1->Dn H Q (flF hp d)->Aj K CK vs H Q E
theorem qe6 (h:Ovr n ps)(low:jM ps)(hn:n<=3900):∀p∈ps,Mq.Low p/\Mq.Bd 3900 p:=fun p hp=>⟨low p hp,(Ovr.minus h low hp hp).2.1.mono hn⟩
theorem qm0:Mq.Bd (n+1) (0,1):=⟨Nat.two_pow_pos _,Nat.one_lt_two_pow (by lia)⟩
abbrev En:=Nat × Mq.Q2 × List Stp
theorem Zx {ds:List RD}(h:ds[i]?=some d):cA (ds.take (i+1))=cA (ds.take i)+cL d.1:=by
 rw[take_add_one,h];exact gA _ _
theorem Tm (ds:List RD)(i:Nat):cA (ds.take i)<=cA ds:=by
 have:ds=ds.take i++ds.drop i:=(take_append_drop i ds).symm;unfold cA oI
 conv=>rhs;rw[this]
 rw[filter_append,List.length_append];lia
theorem qc3 (h:ds[k]?=some d)(hd:d.1=.ho):cA (ds.take k) < cA ds:=by
 have a:=Zx h;have b:=Tm ds (k+1);have:cL d.1=1:=by rw[hd];rfl
 lia
structure qm8 (CA:Addr) (K:Frag) (H0 H:Hp) (a:Addr) (lv fl:List Mq.Q2):Prop where
 e:∃(dx li le fo:Addr) (xs ys:List V),H a=some (.ins CA dx (mU li le fo))/\H le=some (.lst xs)/\Fqs K H xs lv/\H fo=some (.lst ys)/\Fqs K H ys fl/\∀l o,H0 l=some o->l≠a->le≠l/\fo≠l
theorem gcf:¬(("current":Str) = "followed"):=by decide +kernel
def Ci (a n:Addr):List (Str × V):=[(("current":Str),.ref a),(("followed":Str),.ref n)]
theorem Wg (a n:Addr):(Ci a n).lookup ("current":Str)=some (.ref a):=by
 show List.lookup _ ((("current":Str),V.ref a) :: _)=_;rw[lookup_cons_self]
theorem Qu (a n:Addr){x:Str}(h1:¬x = "current")(h2:¬x = "followed"):(Ci a n).lookup x=none:=by
 show List.lookup x ((("current":Str),V.ref a) :: [(("followed":Str),V.ref n)])=_;rw[lookup_cons,show (x == "current")=false from beq_eq_false_iff_ne.mpr h1];show List.lookup x ((("followed":Str),V.ref n) :: [])=_;rw[lookup_cons,show (x == "followed")=false from beq_eq_false_iff_ne.mpr h2];rfl
theorem Yt (a:Addr):dB "current" (.ref a) []=[(("current":Str),V.ref a)]:=rfl
theorem qb0 (a n:Addr):dB "followed" (.ref n) [(("current":Str),V.ref a)]=Ci a n:=by
 show (if (("current":Str)) = "followed" then _ else _)=_;rw[if_neg gcf];rfl
structure WB (K:Frag) (mg:Str->Option Value) (CW:Addr):Prop where
 cl:Cls K CW
 nC:gG K CW "current"
 nF:gG K CW "followed"
 mW:mg "Watch"=some (.ref CW)
open Mq
def jnL (ms:List Int)(ls:List Q2)(u v:Nat)(z:Q2):List Q2:=(List.range ls.length).map fun p=>if ms.getD p 0=ms.getD v 0 then jO (ls.getD p (0,1)) (minus (minus (ls.getD u (0,1)) (ls.getD v (0,1))) z) else ls.getD p (0,1)
theorem pL (ms:List Int)(ls:List Q2)(u v:Nat)(z:Q2):(jnL ms ls u v z).length=ls.length:=by unfold jnL;rw[length_map,length_range]
def LfB (n:Nat)(q:Q2):Prop:=Low q/\Fr 27720 (60*4 ^ n) (val q)
theorem LfB.of (lo:Low q)(e:val q=x)(h:Fr 27720 M x)(l:M<=60*4 ^ n):LfB n q:=⟨lo,by rw[e];exact h.mono l⟩
theorem LfB.p2 (h:LfB n q):1<=q.2:=h.1.1
theorem qp2 (h:n<=k):4 ^ n<=4 ^ k:=Nat.pow_le_pow_right (by decide) h
theorem LfB.mono (h:LfB n q)(l:n<=k):LfB k q:=⟨h.1,h.2.mono (Nat.mul_le_mul_left _ (qp2 l))⟩
theorem LfB.bd (h:LfB n q)(l:n<=20):Bd 80 q:=by
 have h:=h.mono l;obtain⟨a,ba,ea⟩:=h.2.get (m:=46) (n:=15) (b:=80) (by decide) (by show (27720:Int).natAbs < 2 ^ 15;decide) (by decide);exact(rR h.1 (by decide) (by show (27720:Int).natAbs < 2 ^ 80;decide) ba ea).1
theorem LfB.zero:LfB 0 (0,1):=⟨⟨by decide,by decide⟩,by rw[pF];exact Fr.zero.mono (by decide)⟩
section
variable {n:Nat} {p q z:Q2}
theorem LfB.d1 (hp:LfB n p)(hq:LfB n q):LfB (n+1) (minus p q):=by
 have h:=hp.2.add hq.2.neg;refine LfB.of (eU hp.p2 hq.p2) (eX hp.p2 hq.p2) (by rw[Rat.sub_eq_add_neg];exact h) ?_;rw[Nat.pow_succ];lia
theorem LfB.d2 (hp:LfB n p)(hq:LfB n q)(hz:LfB 0 z):LfB (n+1) (minus (minus p q) z):=by
 have l1:=eU hp.p2 hq.p2;have h:=(hp.2.add hq.2.neg).add hz.2.neg;refine LfB.of (eU l1.1 hz.p2) (by rw[eX l1.1 hz.p2,eX hp.p2 hq.p2]) (by rw[Rat.sub_eq_add_neg,Rat.sub_eq_add_neg];exact h) ?_;rw[Nat.pow_succ];have:=Nat.pow_pos (n:=n) (show 0 < 4 by decide);lia
theorem LfB.d3 (hr:LfB n r)(hp:LfB n p)(hq:LfB n q)(hz:LfB 0 z):LfB (n+1) (jO r (minus (minus p q) z)):=by
 have l1:=eU hp.p2 hq.p2;have l2:=eU l1.1 hz.p2;have h:=hr.2.add ((hp.2.add hq.2.neg).add hz.2.neg);refine LfB.of (kC hr.p2 l2.1) (by rw[mI hr.p2 l2.1,eX l1.1 hz.p2,eX hp.p2 hq.p2]) (by rw[Rat.sub_eq_add_neg,Rat.sub_eq_add_neg];exact h) ?_;rw[Nat.pow_succ];have:=Nat.pow_pos (n:=n) (show 0 < 4 by decide);lia
end
theorem fE {P:Q2->Prop}{ls:List Q2}(h:∀q∈ls,P q)(hi:i < ls.length):P (ls.getD i (0,1)):=by
 rw[getD_eq_getElem?_getD,getElem?_eq_getElem hi];exact h _ (getElem_mem hi)
theorem Jm (hp:p < ls.length):(jnL ms ls u v z).getD p (0,1)=if ms.getD p 0=ms.getD v 0 then jO (ls.getD p (0,1)) (minus (minus (ls.getD u (0,1)) (ls.getD v (0,1))) z) else ls.getD p (0,1):=by
 unfold jnL;rw[getD_eq_getElem?_getD,getElem?_map,getElem?_range hp];rfl
theorem Nw (h:∀q∈ls,LfB n q)(hu:u < ls.length)(hv:v < ls.length)(hz:LfB 0 z):∀q∈jnL ms ls u v z,LfB (n+1) q:=fun q hq=>by
 unfold jnL at hq;obtain⟨p,hp,rfl⟩:=mem_map.mp hq;have hp:=mem_range.mp hp
 by_cases c:ms.getD p 0=ms.getD v 0
 ·rw[if_pos c];exact LfB.d3 (fE h hp) (fE h hu) (fE h hv) hz
 ·rw[if_neg c];exact(fE h hp).mono (Nat.le_succ n)
theorem Yg {sz h:Nat->Rat}(hh:∀e∈es,h e.2.1 - h e.2.2=sz e.1){st:List Stp}(p:Pt es b st x pts):(st.map fun s=>((s.2:Int):Rat)*sz s.1).sum=h b - h x:=by
 induction p with
 |nil=>show (0:Rat)=_;grind
 | @snoc st p q pts s _ g _ ih=>
  rw[map_append,sum_append,ih];obtain⟨u,v,he,g⟩:=g;have e:=hh _ he;show h b - h p+((((s.2:Int):Rat)*sz s.1)+0)=_;rcases g with ⟨a,rfl,rfl⟩ | ⟨a,rfl,rfl⟩
  ·rw[a,show ((1:Int):Rat)=1 by rfl];have e:h p - h q=sz s.1:=e;grind
  ·rw[a,show ((-1:Int):Rat)=-1 by rfl];have e:h q - h p=sz s.1:=e;grind
theorem qc7 {st:List Stp}(h:kW es b e=some st):∃pts,Pt es b st e pts:=by
 obtain⟨pts,p,_⟩:=(jT es b 60).pt e st (gQ h);exact⟨pts,p⟩
structure LfI (m i:Nat) (ds:List RD) (es:List Br) (ls:List Q2):Prop where
 ln:ls.length=m
 bd:∀q∈ls,LfB i q
 po:∀e∈es,∀d,ds[e.1]?=some d->val (ls.getD e.2.1 (0,1)) - val (ls.getD e.2.2 (0,1))=val d.2.2.2
theorem LfI.mono (h:LfI m i ds es ls)(l:i<=j):LfI m j ds es ls:=⟨h.ln,fun q hq=>(h.bd q hq).mono l,h.po⟩
theorem LfI.start (m:Nat)(ds:List RD):LfI m 0 ds [] (replicate m (0,1)):=⟨length_replicate,fun q hq=>by rw[eq_of_mem_replicate hq];exact LfB.zero,fun e he=>by cases he⟩
theorem LfI.join (h:LfI m i ds es ls)(hm:Ptm m es)(hd:ds[i]?=some d)(hu:u < m)(hv:v < m)(ne:L2.mk m (dF es) u≠L2.mk m (dF es) v)(hz:LfB 0 d.2.2.2):LfI m (i+1) ds (es++[(i,u,v)]) (jnL (mks m (dF es)) ls u v d.2.2.2):=by
 have l:=h.ln;refine⟨by rw[pL];exact l,Nw h.bd (by lia) (by lia) hz,fun e he d' hd'=>?_⟩;have gv:∀p,p < m->val ((jnL (mks m (dF es)) ls u v d.2.2.2).getD p (0,1))=if L2.mk m (dF es) p=L2.mk m (dF es) v then val (ls.getD p (0,1))+(val (ls.getD u (0,1)) - val (ls.getD v (0,1)) - val d.2.2.2) else val (ls.getD p (0,1)):=fun p hp=>by
  rw[Jm (by lia)];have Bp:=fE h.bd (show p < ls.length by lia);have Bu:=fE h.bd (show u < ls.length by lia);have Bv:=fE h.bd (show v < ls.length by lia);have l1:=eU Bu.p2 Bv.p2;have l2:=eU l1.1 hz.p2;show val (if L2.mk m (dF es) p=L2.mk m (dF es) v then _ else _)=_
  by_cases c:L2.mk m (dF es) p=L2.mk m (dF es) v
  ·rw[if_pos c,if_pos c,mI Bp.p2 l2.1,eX l1.1 hz.p2,eX Bu.p2 Bv.p2]
  ·rw[if_neg c,if_neg c]
 rcases mem_append.mp he with z | z
 ·have pe:=hm.p e z;have g:=Iv hm (s:=(e.1,1)) (p:=e.2.1) (q:=e.2.2) ⟨e.2.1,e.2.2,z,.inl ⟨rfl,rfl,rfl⟩⟩;have o:=h.po e z d' hd';rw[gv _ pe.1,gv _ pe.2,g]
  by_cases c:L2.mk m (dF es) e.2.1=L2.mk m (dF es) v
  ·rw[if_pos c,if_pos c];grind
  ·rw[if_neg c,if_neg c];exact o
 ·have:e=(i,u,v):=by simpa using z
  subst this;have:d'=d:=by rw[hd] at hd';exact(Option.some.inj hd').symm
  subst this;show val ((jnL _ ls u v d'.2.2.2).getD u (0,1)) - val ((jnL _ ls u v d'.2.2.2).getD v (0,1))=_;rw[gv u hu,gv v hv,if_neg ne,if_pos rfl];grind
theorem xE (i:Nat):∀j,∃r,(bY W sk (i+j)).2=(bY W sk i).2++r
 |0=>⟨[],by rw[append_nil];rfl⟩
 |j+1=>by
  obtain⟨r,hr⟩:=xE (W:=W) (sk:=sk) i j;show ∃r,(match sk[i+j]? with | none=>bY W sk (i+j) | some d=>fP W (bY W sk (i+j)) (i+j) d).2=_
  cases sk[i+j]? with
  |none=>exact⟨r,hr⟩
  |some d=>
   show ∃r,(fP W (bY W sk (i+j)) (i+j) d).2=_;unfold fP
   by_cases c:W d.1=true
   ·rw[if_pos c]
    cases kW (bY W sk (i+j)).1 d.2.2 d.2.1 with
    |none=>exact⟨r,hr⟩
    |some st=>exact⟨r++[(i+j,(i+j,1) :: st)],by show (bY W sk (i+j)).2++_=_;rw[hr,List.append_assoc]⟩
   ·rw[if_neg c];exact⟨r,hr⟩
end L2
namespace Blk
open L2
section
theorem ringS_no (hw:W k=true)(hy:kW s.1 v u=none):fP W s n (k,u,v)=(s.1++[(n,u,v)],s.2):=by
 unfold fP;rw[if_pos hw];dsimp only;generalize kW s.1 v u=o at hy;subst hy;rfl
theorem ringS_so (hw:W k=true)(hy:kW s.1 v u=some st):fP W s n (k,u,v)=(s.1,s.2++[(n,(n,1) :: st)]):=by
 unfold fP;rw[if_pos hw];dsimp only;generalize kW s.1 v u=o at hy;subst hy;rfl
end
end Blk
namespace L2
open PySem PySem.W
theorem Oo {XP:(Str->Option Value)->Heap->Prop}{run:Value->List Value->Sem Value}(e:∀P,bs=(K P).map (·.1))(h:WalkO q loose XP (fun w h=>(K w.params).In h) r d kwd run):WalkX q loose XP (W.X.obsZ bs) (W.X.valZ K n t) r d kwd run:=
 fun w s₀ s₁ mg mb G y a o pm cd doc dV kV h1 h2 h3 h4 h5 h6 args vals as' L=>h w s₀ s₁ mg mb G (InK.keeps w _ _ (W.X.z_facts e y).2.1 L.keeps) a o pm cd doc dV kV h1 h2 h3 h4 h5 h6 args vals as'
open PySem.Spec PyProof.Rows
section
variable {K:Frag} {x qual:Str} {st:Stmt} {dV:Value} {f:Addr} {fd:FuncData}
theorem aV.b1 (a:Str)(F:aV K x qual st dV f fd)(h:∀(kV doc pm:Value) (an:Option Addr) (cdv ct u:Value),bindArgs (W.fnOf x qual (dY st) (cU st) (aH st) dV kV doc pm an cdv ct) ⟨[u],[]⟩=pure [(a,u)]):aL K fd [a] []:=
 F.binds fun k d p n c t us hl=>match us,hl with | [_],_=>h k d p n c t _
theorem aV.b2 (a b:Str)(F:aV K x qual st dV f fd)(h:∀(kV doc pm:Value) (an:Option Addr) (cdv ct u v:Value),bindArgs (W.fnOf x qual (dY st) (cU st) (aH st) dV kV doc pm an cdv ct) ⟨[u,v],[]⟩=pure [(a,u),(b,v)]):aL K fd [a,b] []:=
 F.binds fun k d p n c t us hl=>match us,hl with | [_,_],_=>h k d p n c t _ _
theorem aV.b3 (a b c:Str)(F:aV K x qual st dV f fd)(h:∀(kV doc pm:Value) (an:Option Addr) (cdv ct u v w:Value),bindArgs (W.fnOf x qual (dY st) (cU st) (aH st) dV kV doc pm an cdv ct) ⟨[u,v,w],[]⟩=pure [(a,u),(b,v),(c,w)]):aL K fd [a,b,c] []:=
 F.binds fun k d p n c t us hl=>match us,hl with | [_,_,_],_=>h k d p n c t _ _ _
theorem aV.b4 (a b c e:Str)(F:aV K x qual st dV f fd)(h:∀(kV doc pm:Value) (an:Option Addr) (cdv ct u v w z:Value),bindArgs (W.fnOf x qual (dY st) (cU st) (aH st) dV kV doc pm an cdv ct) ⟨[u,v,w,z],[]⟩=pure [(a,u),(b,v),(c,w),(e,z)]):aL K fd [a,b,c,e] []:=
 F.binds fun k d p n c t us hl=>match us,hl with | [_,_,_,_],_=>h k d p n c t _ _ _ _
theorem aV.b5 (a b c e g:Str)(F:aV K x qual st dV f fd)(h:∀(kV doc pm:Value) (an:Option Addr) (cdv ct u v w z y:Value),bindArgs (W.fnOf x qual (dY st) (cU st) (aH st) dV kV doc pm an cdv ct) ⟨[u,v,w,z,y],[]⟩=pure [(a,u),(b,v),(c,w),(e,z),(g,y)]):aL K fd [a,b,c,e,g] []:=
 F.binds fun k d p n c t us hl=>match us,hl with | [_,_,_,_,_],_=>h k d p n c t _ _ _ _ _
end
end L2
namespace K76
open PySem L2
variable {CR:Addr}{CK fW fJ fT fS:Kd->Addr}{fdW fdJ fdT fdS:Kd->FuncData}
structure D9 (P:Program)(w:World)(K:Frag)(mg:Str->Option Value)(base:Heap)(j:Nat)(g:Addr)(gd:FuncData)(ps:List Str)(sp:Sp)(nm:Str):Prop where
 G:aK P w K mg base CX0 j g gd ps sp
 b:aL K gd ps []
 k:kI9 K g
 m:mI9 mg nm g
theorem d9 (D:D9 X.prog X.w X.K X.mg X.base k f fd ps sp x)(hr:gH k X.A)(hg:Gl X x)(ha:PA X (e :: es) t)(hdb:(x == ("__debug__":Str))=false:=by decide)(he:starEach (e :: es) X.env=(false,eval e X.env) :: starEach es X.env:=by rfl)(hpl:(backTo pos (starEach es X.env)).any (·.1)=false:=by rfl):PE X (.Call (.Name x p) (e :: es) [] pos) (qj1 sp [] E0 t):=aI D.G hr hg D.m D.k D.b .nil aM ha hdb he hpl
def top (i:Nat):Stmt:=PySem.Challenge.pw_ohmyard_k76_refused_watch.main.body.getD i (.Pass ⟨0,0,0,0⟩)
abbrev Gk:Stmt:=top 19
theorem Tr:aP ["thing"] ["thing"] (aH Gk):=sK9
abbrev sGc:Stmt:=top 21
theorem Vk:aP ["one","other","rest"] ["one","other"] (aH sGc):=sK9
abbrev Em:Stmt:=top 27
theorem Uk:aP ["one","other"] ["one","other"] (aH Em):=sK9
abbrev lU:Stmt:=top 22
theorem Eu:aP ["top","bottom","shared"] ["top","bottom"] (aH lU):=sK9
abbrev He:Stmt:=top 24
theorem Ua:aP ["one","other"] ["one","other"] (aH He):=sK9
abbrev Qt:Stmt:=top 23
theorem Zw:aP ["one","other"] ["one","other"] (aH Qt):=sK9
abbrev Er:Stmt:=cX (top 39) 0
theorem Uv:aP ["self","start","goal","size"] ["self","start","goal","size"] (aH Er):=sK9
abbrev uR:Stmt:=cX (top 40) 0
theorem Ko:aP ["self"] ["self"] (aH uR):=sK9
abbrev wN:Stmt:=cX (top 41) 0
theorem Mc:aP ["self"] ["self"] (aH wN):=sK9
abbrev wC:Stmt:=cX (top 42) 0
theorem Kk:aP ["self"] ["self"] (aH wC):=sK9
abbrev Es:Stmt:=cX (top 39) 1
theorem Vz:aP ["self"] ["self"] (aH Es):=sK9
abbrev Gv:Stmt:=top 43
theorem Ip:aP ["told","word"] ["told"] (aH Gv):=sK9
abbrev Yi:Stmt:=top 20
theorem qk9:aP ["thing"] ["thing"] (aH Yi):=sK9
abbrev sPS:Stmt:=top 45
theorem qo5:aP ["thing"] ["thing"] (aH sPS):=sK9
abbrev sNB:Stmt:=top 50
theorem qn7:aP ["thing","bound"] ["thing","bound"] (aH sNB):=sK9
abbrev sRS:Stmt:=top 53
theorem qm6:aP ["word","size"] ["word","size"] (aH sRS):=sK9
theorem wX:(["point","many"]:List Str).Nodup:=by decide +kernel
inductive qa7 (K:Frag) (vs:List V) (H:Hp) (Q:VK) (E:XK):Prop where
 |mk (l:Addr) (i j m:Int):vs=[.ref l,.int m]->SqL K H l [.int i,.int j]->0<=i->i < m->0<=j->j < m->(∀H',aS H H'->Q .non H')->qa7 K vs H Q E
abbrev sRP:Stmt:=top 51
theorem qn9:aP ["some","many"] ["some","many"] (aH sRP):=sK9
abbrev El:Stmt:=cX (top 49) 0
theorem Wq:aP ["self","many"] ["self","many"] (aH El):=sK9
abbrev Nj:Stmt:=cX (top 49) 1
theorem Zo:aP ["self"] ["self"] (aH Nj):=sK9
abbrev Fj:Stmt:=cX (top 49) 6
theorem Vx:aP ["self"] ["self"] (aH Fj):=sK9
abbrev Xv:Stmt:=cX (top 49) 3
theorem Wu:aP ["self","row","told"] ["self","row"] (aH Xv):=sK9
theorem Vr:(["told"]:List Str).Nodup:=by decide +kernel
abbrev Og:Stmt:=cX (top 49) 5
theorem qc5:aP ["self"] ["self"] (aH Og):=sK9
theorem Dp (F:aK P w K mg base CX0 2 g gd ["thing"] (Hl K)):aK P w K mg base CX0 2 g gd ["thing"] (Jx K):=
 F.weak fun vs H Q E h=>by
  obtain⟨a,p,rfl,f,l,q⟩:=h;exact⟨_,some p,rfl,.fr f l,q⟩
theorem Ub {f:Str}(h:X.K=K)(he:PE X e ta)(hb:attributeBase e f X.env (eval e X.env)=eval e X.env):PE X (.Attribute e f pos) (qj5 K ta f):=by subst h;exact bZ he hb
abbrev Hg:Stmt:=top 25
theorem Tk:aP ["one","other"] ["one","other"] (aH Hg):=sK9
abbrev Nx:Stmt:=top 26
theorem Zs:aP ["one","other"] ["one","other"] (aH Nx):=sK9
abbrev Ho:Stmt:=top 70
theorem Uc:aP ["line","column","amount"] ["line","column","amount"] (aH Ho):=sK9
abbrev Fm:Stmt:=top 69
theorem Ur:aP ["matrix","row","column","amount"] ["matrix","row","column","amount"] (aH Fm):=sK9
abbrev Bs:Stmt:=top 66
theorem Cv:aP ["matrix","row","share"] ["matrix","row"] (aH Bs):=sK9
abbrev Af:Stmt:=top 67
theorem Nf:aP ["right","row"] ["right","row"] (aH Af):=sK9
abbrev Bo:Stmt:=top 68
theorem Qg:aP ["matrix","right","row","column"] ["matrix","right","row","column"] (aH Bo):=sK9
section
theorem jB (f:Fq K H t p):∀n,Fqs K H (replicate n (.ref t)) (replicate n p)
 |0=>.nil
 |n+1=>.cons f (jB f n)
theorem mY (x:V):∀n,(replicate n [x]).flatten=replicate n x
 |0=>rfl
 |n+1=>by rw[replicate_succ,flatten_cons,mY x n];rfl
theorem xW (xs:List V)(k:Nat):lV xs (some (k:Int)) none=xs.drop k:=by
 unfold lV;have h1:HT.sIx xs.length xs.length none=xs.length:=rfl;have h2:HT.sIx xs.length 0 (some (k:Int))=min k xs.length:=by simp[HT.sIx];lia
 rw[h1,h2]
 by_cases h:k<=xs.length
 ·rw[Nat.min_eq_left h,take_of_length_le (by simp)]
 ·rw[Nat.min_eq_right (by lia),drop_of_length_le (Nat.le_refl _),drop_of_length_le (by lia)];simp
theorem Ib (xs:List V):lV xs (some 1) none=xs.drop 1:=xW xs 1
theorem Kl (h:X.K=K):SlR X (qc0 K):=by subst h;exact iH
theorem vE (R:List Mq.Q2)(j:Nat):(R.drop 1).getD j (0,1)=R.getD (j+1) (0,1):=by
 rw[getD_eq_getElem?_getD,getElem?_drop,Nat.add_comm 1 j,getD_eq_getElem?_getD]
theorem Mp (M:List (List Mq.Q2))(i j:Nat):kB ((M.drop 1).map (List.drop 1)) i j=kB M (i+1) (j+1):=by
 have e:((M.drop 1).map (List.drop 1)).getD i []=(M.getD (i+1) []).drop 1:=by
  rw[getD_eq_getElem?_getD,getElem?_map,getElem?_drop,Nat.add_comm 1 i,getD_eq_getElem?_getD]
  cases M[i+1]?<;>rfl
 unfold kB;rw[e,vE]
theorem Nb {w n:Nat}(b:MxB M w w n):MxB ((M.drop 1).map (List.drop 1)) (w - 1) (w - 1) n:=by
 refine⟨by rw[length_map,length_drop,b.h],fun ps hp=>?_,fun ps hp p hp'=>?_⟩
 ·obtain⟨qs,hq,rfl⟩:=mem_map.mp hp;rw[length_drop,b.w _ (mem_of_mem_drop hq)]
 ·obtain⟨qs,hq,rfl⟩:=mem_map.mp hp;exact b.l _ (mem_of_mem_drop hq) _ (mem_of_mem_drop hp')
theorem Ny {w n:Nat}(b:LnB R w n):LnB (R.drop 1) (w - 1) n:=⟨by rw[length_drop,b.w],fun p hp=>b.l p (mem_of_mem_drop hp)⟩
theorem Vb (w:Nat):MxB (replicate w (replicate w (0,1))) w w 1:=by
 refine⟨length_replicate,fun ps hp=>?_,fun ps hp p hp'=>?_⟩
 ·rw[eq_of_mem_replicate hp,length_replicate]
 ·rw[eq_of_mem_replicate hp] at hp';rw[eq_of_mem_replicate hp'];exact⟨⟨by decide,by decide⟩,⟨show (0:Nat) < 2 ^ 1 by decide,show (1:Nat) < 2 ^ 1 by decide⟩⟩
theorem qZ (w j:Nat):(replicate w ((0,1):Mq.Q2)).getD j (0,1)=(0,1):=by
 rw[getD_eq_getElem?_getD]
 cases e:(replicate w ((0,1):Mq.Q2))[j]? with
 |none=>rfl
 |some p=>exact eq_of_mem_replicate (mem_of_getElem? e)
theorem Pj (w i j:Nat):kB (replicate w (replicate w (0,1))) i j=(0,1):=by
 have e:(replicate w (replicate w ((0,1):Mq.Q2))).getD i []=[]\/(replicate w (replicate w ((0,1):Mq.Q2))).getD i []=replicate w (0,1):=by
  rw[getD_eq_getElem?_getD]
  cases e:(replicate w (replicate w ((0,1):Mq.Q2)))[i]? with
  |none=>exact .inl rfl
  |some ps=>exact .inr (eq_of_mem_replicate (mem_of_getElem? e))
 unfold kB;rcases e with e | e
 ·rw[e];rfl
 ·rw[e];exact qZ w j
theorem zC (w:Nat):LnB (replicate w (0,1)) w 1:=⟨length_replicate,fun p hp=>by
 rw[eq_of_mem_replicate hp];exact⟨⟨by decide,by decide⟩,⟨show (0:Nat) < 2 ^ 1 by decide,show (1:Nat) < 2 ^ 1 by decide⟩⟩⟩
theorem Ff (i:Nat):cA (ds.take i)<=cA ds:=by
 have h:cA ds=cA (ds.take i)+cA (ds.drop i):=by
  unfold cA oI;rw[<- List.length_append,<- filter_append,take_append_drop]
 lia
theorem Nt:(["row"]:List Str).Nodup:=by decide +kernel
theorem wO:(["line","width"]:List Str).Nodup:=by decide +kernel
theorem Vt:(["line"]:List Str).Nodup:=by decide +kernel
theorem Fqs.drop1:∀{xs:List V} {ps:List Mq.Q2},Fqs K H xs ps->Fqs K H (xs.drop 1) (ps.drop 1)
 |_,_,.nil=>.nil
 |_,_,.cons _ q=>q
abbrev qd5:Stmt:=top 65
theorem qD:aP ["net","rows","many","width","matrix","right","held","row"] ["net"] (aH qd5):=sK9
theorem kY {ec:List (Str × Addr)}:∀(x:Str) (c:Addr),([]:List (Str × Addr)).lookup x=some c->ec.lookup x=some c:=fun _ _ h=>by cases h
theorem dR {ec cl:List (Str × Addr)}(h:ec.lookup a=some d)(r:∀x c,cl.lookup x=some c->ec.lookup x=some c):∀x c,((a,d) :: cl).lookup x=some c->ec.lookup x=some c:=fun x c e=>by
 rw[lookup_cons] at e
 cases q:x == a with
 |true=>rw[q] at e;rw[eq_of_beq q,h];exact e
 |false=>rw[q] at e;exact r x c e
theorem zZ (h:X.K=K):IxR X (Si K):=by subst h;exact aY
theorem iK (h:X.K=K):IxR X (qb6 K):=by subst h;exact bL
abbrev Gb:Stmt:=top 36
theorem sS:aP ["rows","numbers","point","steps","number","row"] ["rows","numbers","point"] (aH Gb):=sK9
theorem Ys (hm:Ptm m es)(hb:b < m)(h20:m<=20){w:WS}(nd:(cF w).Nodup)(pt:∀x st,(x,st)∈w->∃pts,Pt es b st x pts/\∀y∈pts,y∈cF w)(p:Pt es b st x pts)(k:∀y∈pts,y∈cF w):st.length<=20:=by
 have l:pts.length=st.length+1:=by
  induction p with
  |nil=>rfl
  |snoc h g n ih=>rw[List.length_append,List.length_append,ih fun y hy=>k y (mem_append_left _ hy)];rfl
 have nd':pts.Nodup:=by
  clear k l
  induction p with
  |nil=>simp
  |snoc h g n ih=>
   rw[nodup_append];refine⟨ih,by simp,fun x hx y hy z=>n ?_⟩;rw[mem_singleton] at hy;rw[<- hy,<- z];exact hx
 have:=Kc nd' fun y hy=>Ap hm hb pt y (k y hy);lia
theorem qc1 {T:List (Stp × Nat)}(hm:Ptm m es)(hb:b < m)(h20:m<=20)(h:WJ es b p [] s)(g:∀t∈T,pD es t.1 p t.2):((T.take j).foldl (inF p) s).2.length<=muF s:=by
 have:=As hm hb h20 (T.take j) [] h fun t ht=>g t (mem_of_mem_take ht);unfold muF at this ⊢;lia
def muW (σ:St)(H:Hp):Nat:=match σ with
 | [_,_,_,_,some (.ref D),some (.ref W),_,_]=>match H D,H W with
  |some (.dK kvs),some (.lst q)=>2*(20 - kvs.length)+q.length
  |_,_=>0
 |_=>0
theorem Sa {a b c d e f:Option V}(h:H D=some (.dK kvs))(g:H W=some (.lst q)):muW [a,b,c,d,some (.ref D),some (.ref W),e,f] H=2*(20 - kvs.length)+q.length:=by
 show (match H D,H W with | some (.dK kvs),some (.lst q)=>2*(20 - kvs.length)+q.length | _,_=>0)=_;rw[h,g]
theorem Qn (h:q≠[]):(q.map fun (p:Nat)=>V.int (p:Int))[((q.map fun (p:Nat)=>V.int (p:Int))).length - 1]?=some (.int ((q.getLastD 0:Nat):Int))/\(q.map fun (p:Nat)=>V.int (p:Int)).dropLast=(q.dropLast.map fun (p:Nat)=>V.int (p:Int)):=by
 obtain⟨_,e⟩:=Ht h;generalize q.getLastD 0=x at e;generalize q.dropLast=r at e;subst e;rw[map_append];simp
abbrev Yv:Stmt:=top 35
theorem Dr:aP ["rows","numbers","begin","end","ways","waiting","point","step"] ["rows","numbers","begin","end"] (aH Yv):=sK9
theorem Xd {i:Nat}(h:ds[i]?=some d):(skl ds)[i]?=some (d.1,d.2.1.toNat,d.2.2.1.toNat):=by unfold skl;rw[getElem?_map,h];rfl
theorem oV (ds:List RD):(skl ds).length=ds.length:=by unfold skl;rw[length_map]
theorem Di {m:Nat}(pt:∀d∈ds,cT (m:Int) d.2.1 d.2.2.1):∀d∈skl ds,d.2.1 < m/\d.2.2 < m:=fun d hd=>by
 obtain⟨e,he,rfl⟩:=mem_map.mp hd;obtain⟨i0,i1,j0,j1⟩:=pt e he;exact⟨by show e.2.1.toNat < m;lia,by show e.2.2.1.toNat < m;lia⟩
theorem Uy {m n:Nat}(pt:∀d∈ds,cT (m:Int) d.2.1 d.2.2.1)(h:RI W (skl ds) m n s):Zr ds s.1:=fun e he=>by
 obtain⟨k,hk⟩:=h.at_ e he;have hl:e.1 < ds.length:=by have:=(List.getElem?_eq_some_iff.mp hk).1;rwa [oV] at this
 have hd:ds[e.1]?=some ds[e.1]:=getElem?_eq_getElem hl;rw[Xd hd] at hk;obtain⟨i0,i1,j0,j1⟩:=pt _ (mem_of_getElem? hd);refine⟨_,hd,?_,?_⟩
 ·have:ds[e.1].2.1.toNat=e.2.1:=by injection hk with z;injection z with _ z;injection z
  lia
 ·have:ds[e.1].2.2.1.toNat=e.2.2:=by injection hk with z;injection z with _ z;injection z
  lia
theorem Qx:∀n,(bY W sk n).1.length<=n
 |0=>Nat.le_refl _
 |n+1=>by
  have ih:=Qx (W:=W) (sk:=sk) n
  cases h:sk[n]? with
  |none=>show (match sk[n]? with | none=>bY W sk n | some d=>fP W (bY W sk n) n d).1.length<=n+1;rw[h];show (bY W sk n).1.length<=n+1;lia
  |some d=>
   rw[gN h];generalize bY W sk n=s at ih;unfold fP;split
   ·split
    ·show (s.1++[(n,d.2.1,d.2.2)]).length<=n+1;rw[List.length_append];simp only[length_cons,length_nil];lia
    ·show s.1.length<=n+1;lia
   ·lia
def WdA (K:Frag)(H:Hp)(v:V)(W:Kd->Bool):Prop:=∃(p:Addr) (ws:List V),v=.ref p/\(SqL K H p ws\/SqT K H p ws)/\ws.all lT=true/\∀k:Kd,inV (.str k.wd) ws=W k
theorem WdA.same (e:aS H H')(h:WdA K H v W):WdA K H' v W:=by
 obtain⟨p,ws,h1,h2,h3⟩:=h;refine⟨p,ws,h1,?_,h3⟩;rcases h2 with z | z
 ·exact .inl (e.seq z)
 ·exact .inr (e.seqT z)
theorem qg9 (k:Kd):inV (.str k.wd) [.str "piece",.str "hold"]=decide (k≠.pu):=by cases k<;>decide
abbrev iO:Stmt:=top 34
theorem jS:aP ["net","words","wanted","rows","branches","found","number","row","back"] ["net","words"] (aH iO):=sK9
abbrev rS:Stmt:=cX (top 40) 1
theorem Ev:aP ["self"] ["self"] (aH rS):=sK9
abbrev qR:Stmt:=cX (top 41) 1
theorem Gg:aP ["self"] ["self"] (aH qR):=sK9
abbrev rP:Stmt:=cX (top 42) 1
theorem Fd:aP ["self"] ["self"] (aH rP):=sK9
inductive uK (K:Frag) (CK:Kd->Addr) (vs:List V) (H:Hp) (Q:VK) (E:XK):Prop where
 |mk (a x:Addr) (ms:List Int) (k:Kd) (s g:Nat) (z:V):vs=[.ref a,.ref x]->SqL K H a (ms.map V.int)->Rw CK H x k (.int (s:Int)) (.int (g:Int)) z->s < ms.length->g < ms.length->ms.length<=100->(∀l H',aS H H'->H l=none->H' l=some (.lst ((jn ms s g).map V.int))->Q (.ref l) H')->uK K CK vs H Q E
inductive Ak (CN:Addr) (K:Frag) (vs:List V) (H:Hp) (Q:VK) (E:XK):Prop where
 |mk (n l:Addr) (m:Nat) (ds:List RD):vs=[.ref n]->cZ CN K H n l (m:Int) ds->(∀d∈ds,cT (m:Int) d.2.1 d.2.2.1)->m<=20->ds.length<=100->(∀l' H',aS H H'->H l'=none->H' l'=some (.lst ((mks m ds).map V.int))->Q (.ref l') H')->Ak CN K vs H Q E
def dC (m:Nat)(ds:List RD):List Int:=((List.range m).filter fun p=>decide (mk m ds p≠mk m ds 0)).map fun (p:Nat)=>(p:Int)
inductive zJ (CN:Addr) (K:Frag) (vs:List V) (H:Hp) (Q:VK) (E:XK):Prop where
 |mk (n l:Addr) (m:Nat) (ds:List RD):vs=[.ref n]->cZ CN K H n l (m:Int) ds->(∀d∈ds,cT (m:Int) d.2.1 d.2.2.1)->1<=m->m<=20->ds.length<=100->(∀l' H',aS H H'->H l'=none->H' l'=some (.lst ((dC m ds).map V.int))->Q (.ref l') H')->zJ CN K vs H Q E
theorem qC:(["mark","lost","kept"]:List Str).Nodup:=by decide +kernel
abbrev Bh:Stmt:=top 33
theorem wK:aP ["marks","row","kept","lost"] ["marks","row"] (aH Bh):=sK9
abbrev Gp:Stmt:=top 32
theorem tI:aP ["net","marks","row"] ["net"] (aH Gp):=sK9
theorem iU:(["point","mark","marks"]:List Str).Nodup:=by decide +kernel
abbrev Gx:Stmt:=top 31
theorem Ke:aP ["net","marks"] ["net"] (aH Gx):=sK9
open Shp
theorem wP:(["one","bottom"]:List Str).Nodup:=by decide +kernel
abbrev sIW:Stmt:=top 56
theorem Wc:aP ["some","bottom","one"] ["some"] (aH sIW):=sK9
abbrev qc4:Stmt:=top 60
theorem Xi:aP ["rows","rank","column","place"] ["rows","rank","column"] (aH qc4):=sK9
theorem eO:(["here","above","own","other","divisor"]:List Str).Nodup:=by decide +kernel
abbrev Zp:Stmt:=top 62
theorem Ou:aP ["row","upper","column","divisor","own","other"] ["row","upper","column","divisor"] (aH Zp):=sK9
theorem dH:(["place","row","upper","rank","divisor","column"]:List Str).Nodup:=by decide +kernel
abbrev vO:Stmt:=top 61
theorem xK:aP ["rows","rank","column","divisor","upper"] ["rows","rank","column","divisor"] (aH vO):=sK9
abbrev Rc:Stmt:=top 59
theorem iP:aP ["rows","width","rank","pivot","sign","column","place","lifted"] ["rows","width"] (aH Rc):=sK9
theorem rX:(["row","side"]:List Str).Nodup:=by decide +kernel
theorem rZ:(["row","many","end"]:List Str).Nodup:=by decide +kernel
abbrev zH:Stmt:=top 55
theorem pV:aP ["matrix","right","many","rows","end"] ["matrix","right"] (aH zH):=sK9
abbrev Hb:Stmt:=top 28
theorem tU:aP ["some","so_far","one"] ["some"] (aH Hb):=sK9
def fV (ds:List RD)(s:Stp):Mq.Q2:=rV (red s.2 1) (ds.getD s.1 (.pc,0,0,(0,1))).2.2.2
inductive Gu (CN:Addr) (K:Frag) (vs:List V) (H:Hp) (Q:VK) (E:XK):Prop where
 |mk (n l b:Addr) (m:Int) (ds:List RD) (xs:List V) (st:List Stp):vs=[.ref n,.ref b]->cZ CN K H n l m ds->ds.length<=100->(∀d∈ds,Mq.Low d.2.2.2/\Mq.Bd 30 d.2.2.2)->SqL K H b xs->Sts K H xs st->st.length<=21->(∀s∈st,s.1 < ds.length/\(s.2=1\/s.2=-1))->(∀a H',aS H H'->Fq K H' a (tot (st.map (fV ds)))->Q (.ref a) H')->Gu CN K vs H Q E
theorem Ws {w:Int}(h:w=1\/w=-1):red w 1=(w,1)/\Mq.Low (w,1)/\Mq.Bd 1 (w,1):=by
 rcases h with rfl | rfl
 ·exact⟨by decide +kernel,⟨by decide,by decide⟩,⟨show (1:Nat) < 2 ^ 1 by decide,show (1:Nat) < 2 ^ 1 by decide⟩⟩
 ·exact⟨by decide +kernel,⟨by decide,by decide⟩,⟨show (1:Nat) < 2 ^ 1 by decide,show (1:Nat) < 2 ^ 1 by decide⟩⟩
theorem Jk (hK:∀d∈ds,Mq.Low d.2.2.2/\Mq.Bd 30 d.2.2.2)(h:s.1 < ds.length/\(s.2=1\/s.2=-1)):Mq.Low (fV ds s)/\Mq.Bd 40 (fV ds s):=by
 obtain⟨e,l,b⟩:=Ws h.2;have hd:ds[s.1]?=some ds[s.1]:=getElem?_eq_getElem h.1;have eg:ds.getD s.1 (.pc,0,0,(0,1))=ds[s.1]:=by rw[getD_eq_getElem?_getD,hd];rfl
 obtain⟨l2,b2⟩:=hK _ (mem_of_getElem? hd);unfold fV;rw[e,eg];exact⟨Mq.xY l.pos l2.pos,(Mq.Oi b b2 l.pos l2.pos).mono (by lia)⟩
theorem Dz (hK:∀d∈ds,Mq.Low d.2.2.2/\Mq.Bd 30 d.2.2.2):∀{st:List Stp},(∀s∈st,s.1 < ds.length/\(s.2=1\/s.2=-1))->Mq.Wt (st.map (fV ds)) (41*st.length)
 | [],_=>.nil
 |s :: st,h=>by
  have ih:=Dz hK (st:=st) fun x hx=>h x (mem_cons_of_mem _ hx);have:=Mq.Wt.cons (Jk hK (h s (by simp))).2 ih;rw[length_cons,show 41*(st.length+1)=40+1+41*st.length by lia];exact this
theorem Kw {st:List Stp}(hK:∀d∈ds,Mq.Low d.2.2.2/\Mq.Bd 30 d.2.2.2)(h:∀s∈st,s.1 < ds.length/\(s.2=1\/s.2=-1)):Mq.Pos (st.map (fV ds)):=fun p hp=>by
 obtain⟨s,hs,rfl⟩:=mem_map.mp hp;exact(Jk hK (h s hs)).1.pos
theorem iZ:(["number","way","rows"]:List Str).Nodup:=by decide +kernel
abbrev Ox:Stmt:=top 37
theorem Qr:aP ["net","ring","rows"] ["net","ring"] (aH Ox):=sK9
inductive zG (K:Frag) (C:Addr) (vs:List V) (H:Hp) (Q:VK) (E:XK):Prop where
 |mk (x l:Addr) (xs:List V):vs=[.ref x,.ref l]->H x=some (gS x (.ref C) none)->SqL K H l xs->xs.length<=1000->(∀dx l2 H',H dx=none->H l2=none->dx≠x->l2≠x->(∀b o,H b=some o->b≠x->H' b=some o)->H' x=some (gS x (.ref C) (some dx))->H' dx=some (.xd [("points",.ref l2)])->H' l2=some (.lst xs)->Q .non H')->zG K C vs H Q E
abbrev Fi:Stmt:=cX (top 14) 0
theorem Ue:aP ["self","points"] ["self","points"] (aH Fi):=sK9
inductive wI (K:Frag) (C:Addr) (vs:List V) (H:Hp) (Q:VK) (E:XK):Prop where
 |mk (x l t:Addr) (xs:List V):vs=[.ref x,.ref l,.ref t]->H x=some (gS x (.ref C) none)->SqL K H l xs->xs.length<=1000->(∀dx l2 H',H dx=none->H l2=none->dx≠x->l2≠x->(∀b o,H b=some o->b≠x->H' b=some o)->H' x=some (gS x (.ref C) (some dx))->H' dx=some (.xd [("ring",.ref l2),("total",.ref t)])->H' l2=some (.lst xs)->Q .non H')->wI K C vs H Q E
abbrev Ax:Stmt:=cX (top 13) 0
theorem Nu:aP ["self","ring","total"] ["self","ring","total"] (aH Ax):=sK9
theorem qM (s:aS H H1)(hx:H1 x=none)(keep:∀b u,(upd H1 x o) b=some u->b≠x->H4 b=some u):aS H (oP H4 x):=fun b u e=>by
 have nb:b≠x:=fun z=>by rw[z,s.free hx] at e;cases e
 rw[jI nb];exact keep b u (by rw[aQ nb];exact s b u e) nb
abbrev wHo:Kd->Bool:=fun k=>inV (.str k.wd) [.str "hold"]
abbrev rgH (ds:List RD):List (Nat × List Stp):=(bY wHo (skl ds) ds.length).2
def ERg (CG:Addr)(K:Frag)(H:Hp)(E:XK)(ds:List RD)(st:List Stp):Prop:=∀dx l t us H',aS H H'->H' dx=some (.xd [("ring",.ref l),("total",.ref t)])->H l=none->H' l=some (.lst us)->Sts K H' us st->Fq K H' t (tot (st.map (fV ds)))->E (.ref CG) (some dx) H'
def EFl (CF:Addr)(H:Hp)(E:XK)(ps:List Int):Prop:=∀dx l H',aS H H'->H' dx=some (.xd [("points",.ref l)])->H l=none->H' l=some (.lst (ps.map V.int))->E (.ref CF) (some dx) H'
structure Rfs (CG CF:Addr) (K:Frag) (H:Hp) (E:XK) (m:Nat) (ds:List RD):Prop where
 rg:∀c r,rgH ds=c :: r->ERg CG K H E ds c.2
 fl:rgH ds=[]->dC m ds≠[]->EFl CF H E (dC m ds)
theorem Rfs.same (r:Rfs CG CF K H E m ds)(s:aS H H1):Rfs CG CF K H1 E m ds:=⟨fun c rr e dx l t us H' s' a b=>r.rg c rr e dx l t us H' (s.trans s') a (s.free b),fun a b dx l H' s' c d=>r.fl a b dx l H' (s.trans s') c (s.free d)⟩
inductive Bw (CN CG CF:Addr) (K:Frag) (vs:List V) (H:Hp) (Q:VK) (E:XK):Prop where
 |mk (n l:Addr) (m:Nat) (ds:List RD):vs=[.ref n]->cZ CN K H n l (m:Int) ds->(∀d∈ds,cT (m:Int) d.2.1 d.2.2.1)->1<=m->m<=20->ds.length<=40->(∀d∈ds,Mq.Low d.2.2.2/\Mq.Bd 30 d.2.2.2)->Rfs CG CF K H E m ds->(rgH ds=[]->dC m ds=[]->∀H',aS H H'->Q .non H')->Bw CN CG CF K vs H Q E
abbrev Yn:Stmt:=top 71
theorem My:aP ["net","held","points"] ["net"] (aH Yn):=sK9
inductive rL (K:Frag) (CK:Kd->Addr) (k:Kd) (vs:List V) (H:Hp) (Q:VK) (E:XK):Prop where
 |mk (x z a h:Addr) (s g:V) (p u v:Mq.Q2) (n m:Nat):vs=[.ref x,.ref a,.ref h]->Rw CK H x k s g (.ref z)->Fq K H z p->Fq K H a u->Fq K H h v->1<=p.2->1<=u.2->Mq.Bd n p->Mq.Bd m u->n+m+1<=9000->(k=.pc->0 < p.1)->(∀r H',aS H H'->Fq K H' r (Mi k u v p)->Q (.ref r) H')->rL K CK k vs H Q E
abbrev oS:Stmt:=cX (top 40) 3
theorem Cl:aP ["self","fall","held"] ["self","fall","held"] (aH oS):=sK9
abbrev oU:Stmt:=cX (top 41) 3
theorem Dj:aP ["self","fall","held"] ["self","fall","held"] (aH oU):=sK9
theorem Ad (F : aV K "stream" "Push.stream" oU dV f fd)(T : RT K mg CR CK): aK P w K mg base CX 4 f fd ["self", "fall", "held"] (rL K CK .pu) := by
  refine F.ok Dj (fun vs H Q E h => ?_) (fun cdv A outer s H vs Q E hr h => ?_)
  · obtain ⟨x, z, a, h, s, g, p, u, v, n, m, rfl, _⟩ := h
    rfl
  obtain ⟨x, z, a, h, s, g, p, u, v, n, m, rfl, ⟨dx, hx⟩, fz, fa, fh, hp, hu, bp, bu, hn, h0, q⟩ := h;refine ⟨_, (aF (aW (bZ (pv 0) rfl))), ?_⟩;exact ⟨_, rfl, x, CK .pu, dx, _, _, rfl, hx, T.cl _, T.nZ _, fX _ _ _, q z H (aS.refl H) fz⟩
abbrev oY:Stmt:=cX (top 42) 3
theorem Cp:aP ["self","fall","held"] ["self","fall","held"] (aH oY):=sK9
theorem Ao (F : aV K "stream" "Hold.stream" oY dV f fd)(T : RT K mg CR CK): aK P w K mg base CX 4 f fd ["self", "fall", "held"] (rL K CK .ho) := by
  refine F.ok Cp (fun vs H Q E h => ?_) (fun cdv A outer s H vs Q E hr h => ?_)
  · obtain ⟨x, z, a, h, s, g, p, u, v, n, m, rfl, _⟩ := h
    rfl
  obtain ⟨x, z, a, h, s, g, p, u, v, n, m, rfl, ⟨dx, hx⟩, fz, fa, fh, hp, hu, bp, bu, hn, h0, q⟩ := h;refine ⟨_, (aF (aW (pv 2))), ?_⟩;exact ⟨_, rfl, q h H (aS.refl H) fh⟩
abbrev Ry:Stmt:=top 44
theorem Yh:aP ["row","heights"] ["row","heights"] (aH Ry):=sK9
inductive zR (K:Frag) (CK:Kd->Addr) (vs:List V) (H:Hp) (Q:VK) (E:XK):Prop where
 |mk (a b h:Addr) (xs ls ys:List V) (ds:List RD) (lv hs:List Mq.Q2) (m:Nat):vs=[.ref a,.ref b,.ref h]->H a=some (.lst xs)->iB CK K H xs ds->StB K H b ls lv m->SqL K H h ys->Fqs K H ys hs->(∀p∈hs,Mq.Low p)->(∀d∈ds,Mg (m:Int) d)->cA ds<=hs.length->ds.length<=40->(∀l zs H',aS H H'->H l=none->H' l=some (.lst zs)->Fqs K H' zs (wQ lv hs 0 ds)->Q (.ref l) H')->zR K CK vs H Q E
abbrev Gf:Stmt:=top 73
theorem oF:aP ["rows","levels","held","flows","taken","row","fall"] ["rows","levels","held"] (aH Gf):=sK9
abbrev Nd:Stmt:=cX (top 72) 1
theorem Xu:aP ["self"] ["self"] (aH Nd):=sK9
theorem tW:∀{us:List V} {X:List (List Mq.Q2)},Fms K H0 H us X->(∀x∈us,x≠.ref D)->Fmd K H0 D H us X
 | [],[],_,_=>.nil
 | [],_ :: _,h,_=>by have:=h.l;simp at this
 |_ :: _,[],h,_=>by have:=h.l;simp at this
 |x :: us,ps :: X,h,n=>by
  obtain⟨a,xs,rfl,n0,h1,h2⟩:=h.r 0 x ps rfl rfl;exact .cons n0 (fun z=>n _ (mem_cons_self ..) (by rw[z])) h1 h2 (tW ⟨by have:=h.l;simpa using this,fun i y qs e1 e2=>h.r (i+1) y qs (by simpa using e1) (by simpa using e2)⟩ fun y hy=>n y (mem_cons_of_mem _ hy))
theorem Fw (xs:List V)(k:Nat):lV xs none (some (k:Int))=xs.take k:=by
 unfold lV;have h1:HT.sIx xs.length 0 none=0:=rfl;have h2:HT.sIx xs.length xs.length (some (k:Int))=min k xs.length:=by simp[HT.sIx];lia
 rw[h1,h2,drop_zero,Nat.sub_zero,take_eq_take_iff];lia
theorem cD.rtsI (ht:H t=some (.ins C dx fs))(e:cD t H H'):∀{xs:List V} {ds:List RD},Rts K H xs ds->Rts K H' xs ds
 |_,_,.nil=>.nil
 |_,_,.cons h f q=>.cons (cD.seqTI ht e h) (cD.seqTI ht e f) (cD.rtsI ht e q)
theorem cZ.xI (hq:H q=some (.ins C dx fs))(e:cD q H H')(ne:n≠q)(h:cZ CN K H n l m ds):cZ CN K H' n l m ds:=
 let ⟨⟨dx,a⟩,ts,b,c⟩:=h;⟨⟨dx,e _ _ a ne⟩,ts,e _ _ b (fD b hq (fun z=>by cases z)),cD.rtsI hq e c⟩
theorem Ya (hq:H q=some (.ins C dx []))(h:cZ CN K H n l m ds):n≠q:=fun z=>by
 obtain⟨dn,a⟩:=h.ob;rw[z,hq] at a;injection a with a
 injection a with _ _ a
 unfold iJ at a;have:=bN ("kept":Str) "kept" (.ref l) (dB "point_count" (.int m) []);rw[<- a,if_pos rfl] at this
 cases this
theorem Fqs.drop:∀(k:Nat) {xs:List V} {ps:List Mq.Q2},Fqs K H xs ps->Fqs K H (xs.drop k) (ps.drop k)
 |0,_,_,h=>h
 |_+1,_,_,.nil=>.nil
 |k+1,_,_,.cons _ q=>Fqs.drop k q
theorem Fqs.take:∀(k:Nat) {xs:List V} {ps:List Mq.Q2},Fqs K H xs ps->Fqs K H (xs.take k) (ps.take k)
 |0,_,_,h=>.nil
 |_+1,_,_,.nil=>.nil
 |k+1,_,_,.cons f q=>.cons f (Fqs.take k q)
inductive uC (CN CA CG CF:Addr) (K:Frag) (vs:List V) (H:Hp) (Q:VK) (E:XK):Prop where
 |mk (x dx n l:Addr) (m:Nat) (ds:List RD):vs=[.ref x,.ref n]->H x=some (.ins CA dx [])->cZ CN K H n l (m:Int) ds->(∀d∈ds,cT (m:Int) d.2.1 d.2.2.1)->1<=m->m<=20->ds.length<=40->(∀d∈ds,Mq.Low d.2.2.2/\Mq.Bd 30 d.2.2.2)->Rfs CG CF K H E m ds->(rgH ds=[]->dC m ds=[]->∃(b:Nat) (kb:Nat->Nat) (L:Int),Cw CN K H n l m b kb L ds/\bw b (wd m ds)<=3900/\(∀i,∃a:Int,Mq.B b a/\eqR m ds (i+1)=(a:Rat) / (L:Rat))/\
 ∀ps H',cD x H H'->qm8 CA K H H' x (lvS m ps) (wQ (lvS m ps) (ps.drop (m - 1)) 0 ds)->ps.length=wd m ds->jM ps->Ovr (bw b (wd m ds)) ps->Sv m ds (eqR m ds) (uP ps)->Q .non H')->uC CN CA CG CF K vs H Q E
abbrev Gd:Stmt:=cX (top 72) 0
theorem tD:aP ["self","net","both","known","inner"] ["self","net"] (aH Gd):=sK9
def vX (K:Frag)(H:Hp)(x:V):Prop:=(∃i,x=.int i)\/NW K H x
theorem vX.same (s:aS H H')(h:vX K H x):vX K H' x:=h.imp id fun ⟨t,a,b⟩=>⟨t,a.same s,b⟩
def iL (m:Int):V->Bool
 | .int i=>decide (0<=i/\i < m)
 |_=>false
theorem qf1 (h:NW K H x)(m:Int):iL m x=false:=by
 obtain⟨t,a,b⟩:=h
 cases x with
 |int i=>cases a;rcases b with b | b | b | b | b<;>(injection b with b;exact absurd b (by decide))
 |_=>rfl
inductive Jp (K:Frag) (vs:List V) (H:Hp) (Q:VK) (E:XK):Prop where
 |mk (x:V) (b:Int):vs=[x,.int b]->vX K H x->Q (.bl (iL b x)) H->Jp K vs H Q E
inductive Mw (K:Frag) (CP:Addr) (vs:List V) (H:Hp) (Q:VK) (E:XK):Prop where
 |mk (l:Addr) (xs:List V) (m:Int):vs=[.ref l,.int m]->SqL K H l xs->xs.length<=100->(∀x∈xs,vX K H x)->(xs.all (iL m)=true->∀H',aS H H'->Q .non H')->(xs.all (iL m)=false->∀H',aS H H'->E (.ref CP) none H')->Mw K CP vs H Q E
abbrev Gw:Stmt:=cX (top 49) 2
theorem Ut:aP ["self"] ["self"] (aH Gw):=sK9
abbrev Sw:Stmt:=cX (top 49) 7
theorem Qw:aP ["self","made"] ["self"] (aH Sw):=sK9
inductive Jt (K:Frag) (CP:Addr) (vs:List V) (H:Hp) (Q:VK) (E:XK):Prop where
 |mk (x:V) (m:Int):vs=[x,.int m]->vX K H x->(iL m x=true->Q .non H)->(iL m x=false->E (.ref CP) none H)->Jt K CP vs H Q E
abbrev sRN:Stmt:=top 52
theorem qo9:aP ["k","count"] ["k","count"] (aH sRN):=sK9
theorem iS:(["number","way","marks"]:List Str).Nodup:=by decide +kernel
theorem Cr:(["mark","met"]:List Str).Nodup:=by decide +kernel
theorem hJ:(["number","mark","marks","k"]:List Str).Nodup:=by decide +kernel
theorem Uj (p c:Int):eqV (.int p) (.int c)=decide (p=c):=by unfold eqV;first | rfl | simp
theorem Du (c:Int):∀ps:List Int,inV (.int c) (ps.map V.int)=decide (c∈ps)
 | []=>rfl
 |p :: ps=>by
  have ih:=Du c ps;show (eqV (.int p) (.int c) || inV (.int c) (ps.map V.int))=_;rw[ih,Uj]
  by_cases h:p=c
  ·subst h;simp
  ·have h':c≠p:=fun z=>h z.symm;simp[h,h']
theorem xS:∀ps:List Int,(ps.map V.int).all lT=true
 | []=>rfl
 |p :: ps=>by show (true && (ps.map V.int).all lT)=true;rw[xS ps];rfl
theorem Ge (h:X.K=K):OpR X (compareOp .In) (rIn K false):=by subst h;exact xQ
theorem Hd {ms:List Int}(h:i < ms.length):(ms.map V.int)[i]?=some (.int (ms.getD i 0)):=by rw[getElem?_map,getElem?_eq_getElem h,getD_eq_getElem?_getD,getElem?_eq_getElem h];rfl
theorem Cc {c:Nat}(h:iL (c:Int) x=true):∃k:Nat,x=.int (k:Int)/\k < c:=by
 cases x with
 |int i=>
  have h:decide (0<=i/\i < (c:Int))=true:=h;have h:=of_decide_eq_true h;exact⟨i.toNat,by rw[Int.toNat_of_nonneg h.1],by lia⟩
 |_=>cases h
inductive Fx (CN CP:Addr) (K:Frag) (vs:List V) (H:Hp) (Q:VK) (E:XK):Prop where
 |mk (n l:Addr) (x:V) (m:Nat) (ds:List RD):vs=[.ref n,x]->cZ CN K H n l (m:Int) ds->(∀d∈ds,cT (m:Int) d.2.1 d.2.2.1)->m<=20->ds.length<=40->vX K H x->(iL (ds.length:Int) x=false->E (.ref CP) none H)->(iL (ds.length:Int) x=true->∀v H',aS H H'->Q v H')->Fx CN CP K vs H Q E
abbrev Zu:Stmt:=top 78
theorem Ds:aP ["net","k","marks","ring","met"] ["net","k"] (aH Zu):=sK9
theorem tL (k:Kd):wHo k=true↔k=.ho:=by
 cases k
 ·exact⟨fun h=>absurd h (by decide +kernel),fun h=>by cases h⟩
 ·exact⟨fun h=>absurd h (by decide +kernel),fun h=>by cases h⟩
 ·exact⟨fun _=>rfl,fun _=>by decide +kernel⟩
theorem pO (hx:H x=none)(hd:H dx=none):aS H (upd (upd H dx (.own x)) x (.ins C dx [])):=fun b o h=>by
 have n1:b≠x:=fun z=>by rw[z,hx] at h;cases h
 have n2:b≠dx:=fun z=>by rw[z,hd] at h;cases h
 rw[aQ n1,aQ n2];exact h
inductive An (CN:Addr) (K:Frag) (vs:List V) (H:Hp) (Q:VK) (E:XK):Prop where
 |mk (n l g r D:Addr) (H0:Hp) (m b N:Nat) (L:Int) (ds:List RD) (us ys:List V) (X:List (List Mq.Q2)) (Y qs:List Mq.Q2):vs=[.ref n,.ref g,.ref r]->cZ CN K H n l (m:Int) ds->SqL K H g us->Fmd K H0 D H us X->zM m ds N X Y->EqB m b L ds->SqL K H r ys->Fqs K H ys qs->qs.length=X.length->(∀p∈qs,Q01 p)->(∀t zs ps H',H t=none->aS H H'->H' t=some (.lst zs)->Fqs K H' zs (lvS m ps)->qd1 X qs ps->Ovr (bw b (wd m ds)) ps->Q (.ref t) H')->An CN K vs H Q E
inductive Fc (CN:Addr) (K:Frag) (vs:List V) (H:Hp) (Q:VK) (E:XK):Prop where
 |mk (n l:Addr) (m b:Nat) (kb:Nat->Nat) (L:Int) (ds:List RD) (s g:Nat):vs=[.ref n,.int (s:Int),.int (g:Int)]->Cw CN K H n l m b kb L ds->s < m->g < m->(∀t zs hp v H',H t=none->aS H H'->H' t=some (.lst zs)->Fqs K H' zs hp->hp.length=m->jM hp->Ovr (bw b (wd m ds)) hp->qo7 m ds g s v->(∀p,p < m->Mq.val (hp.getD p (0,1))=v p)->Q (.ref t) H')->Fc CN K vs H Q E
abbrev Yd:Stmt:=top 76
theorem qh0:aP ["net","matrix","right"] ["net","matrix","right"] (aH Yd):=sK9
theorem qj9 (s g x:Nat):- dl s g x*Mq.val (1,1)=un g x - un s x:=by
 rw[Hy];unfold dl un
 by_cases a:s=x<;>by_cases b:g=x
 ·rw[if_pos a,if_pos b,if_pos b.symm,if_pos a.symm];grind
 ·rw[if_pos a,if_neg b,if_neg (fun z=>b z.symm),if_pos a.symm];grind
 ·rw[if_neg a,if_pos b,if_pos b.symm,if_neg (fun z=>a z.symm)];grind
 ·rw[if_neg a,if_neg b,if_neg (fun z=>b z.symm),if_neg (fun z=>a z.symm)];grind
theorem qd2 (g s x:Nat):∃a:Int,a.natAbs<=1/\un g x - un s x=(a:Rat) / ((1:Int):Rat):=by
 have one:((1:Int):Rat)=1:=rfl;unfold un
 by_cases a:x=g<;>by_cases b:x=s
 ·exact⟨0,by decide,by rw[if_pos a,if_pos b,one,show ((0:Int):Rat)=0 by rfl];grind⟩
 ·exact⟨1,by decide,by rw[if_pos a,if_neg b,one];grind⟩
 ·exact⟨-1,by decide,by rw[if_neg a,if_pos b,one,show ((-1:Int):Rat)=-1 by rfl];grind⟩
 ·exact⟨0,by decide,by rw[if_neg a,if_neg b,one,show ((0:Int):Rat)=0 by rfl];grind⟩
abbrev Zg:Stmt:=top 75
theorem Rk:aP ["net","start","goal","matrix","right"] ["net","start","goal"] (aH Zg):=sK9
inductive Sh (CN:Addr) (K:Frag) (vs:List V) (H:Hp) (Q:VK) (E:XK):Prop where
 |mk (n l:Addr) (m b:Nat) (kb:Nat->Nat) (L:Int) (ds:List RD) (k:Nat) (d:RD):vs=[.ref n,.int (k:Int)]->Cw CN K H n l m b kb L ds->ds[k]?=some d->d.1=.ho->(∀t zs hp v H',H t=none->aS H H'->H' t=some (.lst zs)->Fqs K H' zs hp->hp.length=m->jM hp->Ovr (bw b (wd m ds)) hp->Sv m ds (un (m+cA (ds.take k))) v->(∀p,p < m->Mq.val (hp.getD p (0,1))=v p)->Q (.ref t) H')->Sh CN K vs H Q E
inductive vH (CN CP CG CF:Addr) (K:Frag) (vs:List V) (H:Hp) (Q:VK) (E:XK):Prop where
 |mk (n l:Addr) (x:V) (m:Nat) (ds:List RD):vs=[.ref n,x]->cZ CN K H n l (m:Int) ds->(∀d∈ds,cT (m:Int) d.2.1 d.2.2.1)->1<=m->m<=20->ds.length<=40->(∀d∈ds,Mq.Low d.2.2.2/\Mq.Bd 30 d.2.2.2)->vX K H x->(iL (ds.length:Int) x=false->E (.ref CP) none H)->(iL (ds.length:Int) x=true->Rfs CG CF K H E m ds/\(rgH ds=[]->dC m ds=[]->(∃(b:Nat) (kb:Nat->Nat) (L:Int),Cw CN K H n l m b kb L ds)/\∀v H',aS H H'->Q v H'))->vH CN CP CG CF K vs H Q E
abbrev Zh:Stmt:=top 80
theorem Jj:aP ["net","k","matrix","right","ahead"] ["net","k"] (aH Zh):=sK9
abbrev Ew:Stmt:=top 79
theorem Il:aP ["net","k","row"] ["net","k"] (aH Ew):=sK9
theorem Cg (hx:H x=none)(hd:H dx=none)(s:cD x (upd (upd H dx (.own x)) x (.ins C dx [])) H'):aS H H':=fun b o h=>by
 have nb:b≠x:=aX h hx;exact s b o (pO (C:=C) hx hd b o h) nb
theorem qa5 (ht:H t=some (.ins C dx fs))(e:cD t H H')(q:Rts K H xs ds):Rts K H' xs ds:=by
 induction q with
 |nil=>exact .nil
 |cons h f _ ih=>exact .cons (cD.seqTI ht e h) (cD.seqTI ht e f) ih
theorem tS (m:Nat)(ps:List Mq.Q2):(lvS m ps).length=1+min (m - 1) ps.length:=by unfold lvS;rw[length_cons,length_take];lia
def uH (CN:Addr)(K:Frag)(H:Hp)(n l:Addr)(m:Nat)(ds:List RD):Prop:=∃(b:Nat) (kb:Nat->Nat) (L:Int),Cw CN K H n l m b kb L ds/\bw b (wd m ds)<=3900/\∀i,∃a:Int,Mq.B b a/\eqR m ds (i+1)=(a:Rat) / (L:Rat)
def qi3 (CA CW:Addr)(K:Frag)(H:Hp)(w:Addr)(lv:List Mq.Q2):Prop:=∃(dx a n:Addr) (fl:List Mq.Q2),H w=some (.ins CW dx (Ci a n))/\Wx CA K H a lv fl
inductive yZ (CA CW:Addr) (K:Frag) (vs:List V) (H:Hp) (Q:VK) (E:XK):Prop where
 |mk (w:Addr) (lv:List Mq.Q2):vs=[.ref w]->qi3 CA CW K H w lv->(∀l xs H',aS H H'->H l=none->H' l=some (.lst xs)->Fqs K H' xs lv->Q (.ref l) H')->yZ CA CW K vs H Q E
inductive sU (CN CA CW CG CF:Addr) (K:Frag) (vs:List V) (H:Hp) (Q:VK) (E:XK):Prop where
 |mk (x dx n l:Addr) (m:Nat) (ds:List RD):vs=[.ref x,.ref n]->H x=some (.ins CW dx [])->cZ CN K H n l (m:Int) ds->(∀d∈ds,cT (m:Int) d.2.1 d.2.2.1)->1<=m->m<=20->ds.length<=40->(∀d∈ds,Mq.Low d.2.2.2/\Mq.Bd 30 d.2.2.2)->Rfs CG CF K H E m ds->(rgH ds=[]->dC m ds=[]->uH CN K H n l m ds/\
 ∀lv H',cD x H H'->lv.head?=some (0,1)->lv.length=m->qi3 CA CW K H' x lv->Q .non H')->sU CN CA CW CG CF K vs H Q E
abbrev Pg:Stmt:=cX (top 81) 2
theorem Yo:aP ["self"] ["self"] (aH Pg):=sK9
abbrev Rs:Stmt:=cX (top 81) 0
theorem qd0:aP ["self","net"] ["self","net"] (aH Rs):=sK9
abbrev Od:Stmt:=top 83
theorem Ov:aP ["_law_script","_law_k","_law_found"] ["_law_script","_law_k"] (aH Od):=sK9
inductive Am (K:Frag) (vs:List V) (H:Hp) (Q:VK) (E:XK):Prop where
 |mk (a:Addr) (ns:List Int) (j:Int) (k:Nat):vs=[.ref a,.int j]->j=(k:Int)->SqL K H a (ns.map V.int)->ns.length<=63->(∀i H',aS H H'->Q (.int i) H')->Am K vs H Q E
abbrev zL:Stmt:=top 84
theorem vV:aP ["_law_cell","_law_turn","_law_many","_law_left","_law_k","_law_by","_law_prime","_law_x"] ["_law_cell","_law_turn","_law_many"] (aH zL):=sK9
inductive Hv (vs:List V) (H:Hp) (Q:VK) (E:XK):Prop where
 |mk (c t m:Int):vs=[.int c,.int t,.int m]->0<=t->t<=9->0 < m->(∀r H',0<=r->r < m->aS H H'->Q (.int r) H')->Hv vs H Q E
theorem ql9 (hp:0 < a0/\0 < a1/\0 < a2/\0 < a3/\0 < a4/\0 < a5/\0 < a6/\0 < a7/\0 < a8/\0 < a9)(hm:a0 < 1000000/\a1 < 1000000/\a2 < 1000000/\a3 < 1000000/\a4 < 1000000/\a5 < 1000000/\a6 < 1000000/\a7 < 1000000/\a8 < 1000000/\a9 < 1000000)(h0:0<=t)(h9:t<=9):
  ∃v,atI [V.int a0,.int a1,.int a2,.int a3,.int a4,.int a5,.int a6,.int a7,.int a8,.int a9] t=some (.int v)/\0 < v/\v < 1000000:=by
 have:t=0\/t=1\/t=2\/t=3\/t=4\/t=5\/t=6\/t=7\/t=8\/t=9:=by lia
 rcases this with rfl | rfl | rfl | rfl | rfl | rfl | rfl | rfl | rfl | rfl
 all_goals exact⟨_,rfl,by lia,by lia⟩
abbrev l48:List Int:=[48271,69621,16807,40692,39373,30269,27183,60013,51749,35969]
abbrev l99:List Int:=[999983,999979,999961,999959,999953,999931,999917,999907,999883,999863]
@[irreducible] def md1:Stmt:=(cU zL).getD 1 (.Pass ⟨0,0,0,0⟩)
@[irreducible] def md2:Stmt:=(cU zL).getD 2 (.Pass ⟨0,0,0,0⟩)
def md0:Stmt:=(cU zL).getD 0 (.Pass ⟨0,0,0,0⟩)
def md3:Stmt:=(cU zL).getD 3 (.Pass ⟨0,0,0,0⟩)
def md4:Stmt:=(cU zL).getD 4 (.Pass ⟨0,0,0,0⟩)
theorem qi4:cU zL=[md0,md1,md2,md3,md4]:=by unfold md1 md2;rfl
theorem Ye:∃(q q2 p2 p3 p:Pos) (l:List (Int × _ × Pos)),md1=.Assign [.Name "_law_by" q] (.Subscript (.List (l.map fun q=>Expr.Constant (.int q.1) q.2.1 q.2.2) p2) (.Name "_law_turn" q2) p3) p/\l.map (fun q=>V.int q.1)=l48.map V.int:=by
 unfold md1;exact⟨_,_,_,_,_,[(48271,_,_),(69621,_,_),(16807,_,_),(40692,_,_),(39373,_,_),(30269,_,_),(27183,_,_),(60013,_,_),(51749,_,_),(35969,_,_)],rfl,rfl⟩
theorem Zz:∃(q q2 p2 p3 p:Pos) (l:List (Int × _ × Pos)),md2=.Assign [.Name "_law_prime" q] (.Subscript (.List (l.map fun q=>Expr.Constant (.int q.1) q.2.1 q.2.2) p2) (.Name "_law_turn" q2) p3) p/\l.map (fun q=>V.int q.1)=l99.map V.int:=by
 unfold md2;exact⟨_,_,_,_,_,[(999983,_,_),(999979,_,_),(999961,_,_),(999959,_,_),(999953,_,_),(999931,_,_),(999917,_,_),(999907,_,_),(999883,_,_),(999863,_,_)],rfl,rfl⟩
abbrev Bj:Stmt:=top 85
theorem pW:aP ["_law_top","_law_bottom","_law_one","_law_other"] ["_law_top","_law_bottom"] (aH Bj):=sK9
abbrev Ha:Stmt:=top 86
theorem Ud:aP ["_law_one","_law_other"] ["_law_one","_law_other"] (aH Ha):=sK9
abbrev Ga:Stmt:=top 87
theorem Vn:aP ["_law_one","_law_other"] ["_law_one","_law_other"] (aH Ga):=sK9
inductive zA (CN:Addr) (K:Frag) (vs:List V) (H:Hp) (Q:VK) (E:XK):Prop where
 |mk (m:Int) (r:Addr) (us:List V) (ds:List RD):vs=[.int m,.ref r]->1<=m->m<=20->SqL K H r us->Rts K H us ds->(∀d∈ds,Mg m d)->ds.length<=40->(∀n l H',aS H H'->H l=none->cZ CN K H' n l m ds->Q (.ref n) H')->zA CN K vs H Q E
abbrev Ep:Stmt:=top 88
theorem zI:aP ["_law_many","_law_rows_here","_law_net_here","_law_row"] ["_law_many","_law_rows_here"] (aH Ep):=sK9
theorem Xl (k:Kd):decide (V.str k.wd=V.str "piece")=decide (k=.pc):=dL k .pc
theorem qh7 (k:Kd):decide (V.str k.wd=V.str "push")=decide (k=.pu):=dL k .pu
theorem qj4 (k:Kd):decide (V.str k.wd=V.str "hold")=decide (k=.ho):=dL k .ho
section
variable {α:Type} {A B:List α} {i:Nat} {a b:α}
theorem Ju (h:A.length=B.length)(ha:A[i]?=some a):(A.take i++B.drop i).set i a=A.take (i+1)++B.drop (i+1):=by
 have hi:i < A.length:=(List.getElem?_eq_some_iff.mp ha).1;have lt:(A.take i).length=i:=by rw[length_take];lia
 rw[set_append_right _ _ (by lia),lt,Nat.sub_self,take_add_one,ha,drop_eq_getElem_cons (show i < B.length by lia)];show _++(a :: B.drop (i+1))=(A.take i++[a])++_;rw[List.append_assoc];rfl
theorem Qs (ha:A[i]?=some a)(hb:B[i]?=some a):A.take i++B.drop i=A.take (i+1)++B.drop (i+1):=by
 have hi:=List.getElem?_eq_some_iff.mp hb;rw[take_add_one,ha,drop_eq_getElem_cons hi.1,hi.2];show _++(a :: B.drop (i+1))=(A.take i++[a])++_;rw[List.append_assoc];rfl
theorem Gy (h:A.length=B.length)(l:i<=j)(hi:i<=A.length):(A.take i++B.drop i)[j]?=B[j]?:=by
 rw[getElem?_append_right (by rw[length_take];lia),length_take,getElem?_drop,Nat.min_eq_left hi,Nat.add_sub_cancel' l]
theorem Zb (l:j < i)(hi:i<=A.length):(A.take i++B.drop i)[j]?=A[j]?:=by
 rw[getElem?_append_left (by rw[length_take];lia),getElem?_take_of_lt l]
end
theorem Xe (h:p < ms.length):(jn ms u v)[p]?=some (if ms.getD p 0=ms.getD v 0 then ms.getD u 0 else ms.getD p 0):=by
 unfold jn;rw[getElem?_map,getElem?_eq_getElem h,getD_eq_getElem?_getD (i:=p),getElem?_eq_getElem h];rfl
theorem Yb (h:p < ls.length):(jnL ms ls u v z)[p]?=some ((jnL ms ls u v z).getD p (0,1)):=by
 rw[getD_eq_getElem?_getD,getElem?_eq_getElem (by rw[pL];exact h)];rfl
theorem uA {ms:List Int}(h:p < ms.length):ms[p]?=some (ms.getD p 0):=by rw[getD_eq_getElem?_getD,getElem?_eq_getElem h];rfl
theorem yW {ls:List Mq.Q2}(h:p < ls.length):ls[p]?=some (ls.getD p (0,1)):=by rw[getD_eq_getElem?_getD,getElem?_eq_getElem h];rfl
inductive zV (K:Frag) (vs:List V) (H:Hp) (Q:VK) (E:XK):Prop where
 |mk (M L z:Addr) (u v n:Nat) (ms:List Int) (ls:List Mq.Q2) (xs:List V) (p:Mq.Q2):vs=[.ref M,.ref L,.int (u:Int),.int (v:Int),.ref z]->H M=some (.lst (ms.map V.int))->H L=some (.lst xs)->M≠L->Fqs K H xs ls->ms.length<=20->ls.length=ms.length->u < ms.length->v < ms.length->ms.getD u 0≠ms.getD v 0->Fq K H z p->LfB 0 p->(∀q∈ls,LfB n q)->n<=19->(∀xs' H',SX [M,L] H H'->H' M=some (.lst ((jn ms u v).map V.int))->H' L=some (.lst xs')->Fqs K H' xs' (jnL ms ls u v p)->Q .non H')->zV K vs H Q E
abbrev Sm:Stmt:=top 90
theorem Ay:aP ["_law_marks","_law_lifts","_law_start","_law_goal","_law_size","_law_more","_law_old","_law_point"] ["_law_marks","_law_lifts","_law_start","_law_goal","_law_size"] (aH Sm):=sK9
def szR (ds:List RD)(n:Nat):Rat:=Mq.val (ds.getD n (.pc,0,0,(0,1))).2.2.2
inductive Wk (K:Frag) (vs:List V) (H:Hp) (Q:VK) (E:XK):Prop where
 |mk (r:Addr) (us:List V) (m:Nat) (ds:List RD):vs=[.ref r,.int (m:Int)]->SqL K H r us->Rts K H us ds->(∀d∈ds,cT (m:Int) d.2.1 d.2.2.1)->m<=20->ds.length<=18->(∀d∈ds,LfB 0 d.2.2.2)->(rgH ds=[]->∀H',aS H H'->Q .non H')->(∀c rr,rgH ds=c :: rr->∀t z p H',aS H H'->SqT K H' t [.int (c.1:Int),.ref z]->Fq K H' z p->Mq.Low p->Mq.val p=(c.2.map fun s=>((s.2:Int):Rat)*szR ds s.1).sum->Q (.ref t) H')->Wk K vs H Q E
abbrev sFR:Stmt:=top 91
theorem Eh:aP ["_law_rows_here","_law_many","_law_marks","_law_lifts","_law_k","_law_word","_law_start","_law_goal","_law_size"] ["_law_rows_here","_law_many"] (aH sFR):=sK9
theorem vZ:(["_law_point","_law_marks"]:List Str).Nodup:=by decide +kernel
theorem qk3 (h:ms.getD u 0=ms.getD v 0):jn ms u v=ms:=by
 unfold jn;rw[h]
 conv=>rhs;rw[<- map_id ms]
 exact map_congr_left fun x _=>by
  by_cases c:x=ms.getD v 0
  ·rw[if_pos c];exact c.symm
  ·rw[if_neg c];rfl
inductive Ui (K:Frag) (vs:List V) (H:Hp) (Q:VK) (E:XK):Prop where
 |mk (r:Addr) (us:List V) (m:Nat) (ds:List RD):vs=[.ref r,.int (m:Int)]->SqL K H r us->Rts K H us ds->(∀d∈ds,cT (m:Int) d.2.1 d.2.2.1)->1<=m->m<=20->ds.length<=18->(∀d∈ds,LfB 0 d.2.2.2)->(∀l H',aS H H'->H l=none->H' l=some (.lst ((dC m ds).map V.int))->Q (.ref l) H')->Ui K vs H Q E
abbrev sAp:Stmt:=top 92
theorem Ej:aP ["_law_rows_here","_law_many","_law_marks","_law_lifts","_law_word","_law_start","_law_goal","_law_size"] ["_law_rows_here","_law_many"] (aH sAp):=sK9
structure D76 (m:Nat) (d:RD):Prop where
 pt:cT (m:Int) d.2.1 d.2.2.1
 sz:∃t b:Int,d.2.2.2=red t b/\1<=b/\b<=12/\-60<=t/\t<=60/\(d.1=.pc->1<=t/\t<=12/\b<=6)
theorem qo1 (h0:0<=r)(h4:r < 4):∃k:Kd,atI [V.str "piece",.str "push",.str "hold",.str "hold"] r=some (.str k.wd):=by
 have:r=0\/r=1\/r=2\/r=3:=by lia
 rcases this with rfl | rfl | rfl | rfl
 ·exact⟨.pc,rfl⟩
 ·exact⟨.pu,rfl⟩
 ·exact⟨.ho,rfl⟩
 ·exact⟨.ho,rfl⟩
inductive Za (K:Frag) (vs:List V) (H:Hp) (Q:VK) (E:XK):Prop where
 |mk (a:Addr) (ns:List Int) (m:Nat):vs=[.ref a,.int (m:Int)]->SqL K H a (ns.map V.int)->ns.length<=63->1<=m->m<=20->(∀r us ds H',aS H H'->H r=none->H' r=some (.lst us)->Rts K H' us ds->(∀d∈ds,D76 m d)->ds.length<=12->Q (.ref r) H')->Za K vs H Q E
abbrev sRw:Stmt:=top 94
theorem Ls:aP ["_law_script","_law_many","_law_rows_here","_law_cell","_law_word","_law_size"] ["_law_script","_law_many"] (aH sRw):=sK9
end
def ExA (H:Hp)(a C:Addr)(od:Option Addr):Prop:=H a=some (jN a (.ref C) od)/\∀dx,od=some dx->∃fs,H dx=some (.xd fs)
theorem ExA.same (s:aS H H')(h:ExA H a C od):ExA H' a C od:=⟨s _ _ h.1,fun dx e=>let ⟨fs,h⟩:=h.2 dx e;⟨fs,s _ _ h⟩⟩
theorem dI:kL X (.builtin "isinstance") (fun xs H Q=>∃a C od c cv b,xs=[.ref a,c]/\ExA H a C od/\wU X.K C/\cC c cv/\(∀u,cC c u->u=cv)/\W.kitOne X.K (.ref C) cv=some b/\Q (.bl b) H):=by
 intro pins s σ H xs us Q I r h;obtain⟨a,C,od,c,cv,b,rfl,⟨ea,ed⟩,ex,rc,ru,k,q⟩:=h
 cases od with
 |none=>exact Kt pins s σ H _ us Q I r ⟨a,C,c,cv,b,rfl,ea,ex,rc,ru,k,q⟩
 |some dx=>
  obtain⟨fs,hd⟩:=ed dx rfl;exact Gq pins s σ H _ us Q I r ⟨a,C,dx,fs,c,cv,b,rfl,ea,hd,ex,rc,ru,k,q⟩
inductive Pbs (K:Frag) (H:Hp):List V->List (Str × Bool)->Prop where
 |nil:Pbs K H [] []
 |cons {t:Addr} {xs:List V} {p:Str × Bool} {ps:List (Str × Bool)} (h:SqT K H t [.str p.1,.bl p.2]) (r:Pbs K H xs ps):Pbs K H (.ref t :: xs) (p :: ps)
theorem Pbs.same (s:aS H H'):∀{xs:List V} {ps:List (Str × Bool)},Pbs K H xs ps->Pbs K H' xs ps
 |_,_,.nil=>.nil
 |_,_,.cons h r=>.cons (s.seqT h) (r.same s)
theorem Pbs.app:∀{xs ys:List V} {ps qs:List (Str × Bool)},Pbs K H xs ps->Pbs K H ys qs->Pbs K H (xs++ys) (ps++qs)
 |_,_,_,_,.nil,h=>h
 |_,_,_,_,.cons h r,g=>.cons h (r.app g)
theorem Pbs.length:∀{xs:List V} {ps:List (Str × Bool)},Pbs K H xs ps->xs.length=ps.length
 |_,_,.nil=>rfl
 |_,_,.cons _ r=>congrArg (· + 1) r.length
theorem Pbs.at:∀{xs:List V} {ps:List (Str × Bool)} {i:Nat} {x:V},Pbs K H xs ps->xs[i]?=some x->∃t p,x=.ref t/\ps[i]?=some p/\SqT K H t [.str p.1,.bl p.2]
 |_,_,0,_,.cons h _,e=>⟨_,_,(Option.some.inj e).symm,rfl,h⟩
 |_,_,i+1,_,.cons _ r,e=>Pbs.at (i:=i) r e
abbrev kNm:List Str:=["NoNumber","NoPoint","NoSize","NoRow","NoWord","NoName","NoStreams","NoRoad","TooMany","Lame","Ring","Floats","Held"]
structure KiC (K:Frag) (mg:Str->Option Value) (C:Addr) (j:Nat):Prop where
 ex:wU K C
 ve:W.kitOne K (.ref C) (.type "ValueError")=some true
 ks:∀i n,kNm[i]?=some n->∃c,mg n=some (.ref c)/\W.kitOne K (.ref C) (.ref c)=some (decide (i=j))
inductive tJ (K:Frag) (mg:Str->Option Value) (vs:List V) (H:Hp) (Q:VK) (E:XK):Prop where
 |mk (a C:Addr) (od:Option Addr) (j:Nat) (n:Str):vs=[.ref a]->ExA H a C od->KiC K mg C j->kNm[j]?=some n->(∀l H',aS H H'->H l=none->H' l=some (.lst [.str n])->Q (.ref l) H')->tJ K mg vs H Q E
theorem oK:(["_law_name","_law_truth"]:List Str).Nodup:=by decide +kernel
theorem Zf (h:kNm[j]?=some n):((((List.range 13).map fun i=>(kNm.getD i "",decide (i=j))).filter fun p=>p.2).map fun p=>V.str p.1)=[.str n]:=by
 have hj:j < 13:=(List.getElem?_eq_some_iff.mp h).1;have:j=0\/j=1\/j=2\/j=3\/j=4\/j=5\/j=6\/j=7\/j=8\/j=9\/j=10\/j=11\/j=12:=by lia
 rcases this with rfl | rfl | rfl | rfl | rfl | rfl | rfl | rfl | rfl | rfl | rfl | rfl | rfl<;>(cases h;rfl)
abbrev sKi:Stmt:=top 89
theorem Gs:aP ["_law_kept","_law_found"] ["_law_kept"] (aH sKi):=sK9
structure OhC (K:Frag) (mg:Str->Option Value) (CP CG CF:Addr):Prop where
 oe:∃CO,mg "OhmError"=some (.ref CO)/\W.exmOne K (.ref CP) (.ref CO)=some true/\W.exmOne K (.ref CG) (.ref CO)=some true/\W.exmOne K (.ref CF) (.ref CO)=some true
structure QRf (CN CG CF:Addr) (K:Frag) (H:Hp) (Q:VK) (n l:Addr) (m:Nat) (ds:List RD):Prop where
 rg:∀c r,rgH ds=c :: r->∀a dx p t us H',aS H H'->H' a=some (jN a (.ref CG) (some dx))->H' dx=some (.xd [("ring",.ref p),("total",.ref t)])->H' p=some (.lst us)->Sts K H' us c.2->Fq K H' t (tot (c.2.map (fV ds)))->Q (.ref a) H'
 fl:rgH ds=[]->dC m ds≠[]->∀a dx p H',aS H H'->H' a=some (jN a (.ref CF) (some dx))->H' dx=some (.xd [("points",.ref p)])->H' p=some (.lst ((dC m ds).map V.int))->Q (.ref a) H'
 ok:rgH ds=[]->dC m ds=[]->uH CN K H n l m ds/\∀H',aS H H'->Q .non H'
inductive rW (CN CP CG CF : Addr) (K : Frag) (vs : List V) (H : Hp) (Q : VK) (E : XK) : Prop where
  | mk (n l : Addr) (x : V) (m : Nat) (ds : List RD) (_ : cZ CN K H n l (m : Int) ds) (_ : (∀ d ∈ ds, cT (m : Int) d.2.1 d.2.2.1)) (_ : 1 <= m) (_ : m <= 20) (_ : ds.length <= 40) (_ : (∀ d ∈ ds, Mq.Low d.2.2.2 /\ Mq.Bd 30 d.2.2.2)) (_ : vX K H x) (wd : Str) : vs = [.str wd, .ref n, x] -> ((wd = "block" /\ (iL (ds.length : Int) x = false -> ∀ a H', aS H H' -> H' a = some (jN a (.ref CP) none) -> Q (.ref a) H') /\ (iL (ds.length : Int) x = true -> ∀ H', aS H H' -> Q .non H')) \/
   (wd = "shape" /\ (iL (ds.length : Int) x = false -> ∀ a H', aS H H' -> H' a = some (jN a (.ref CP) none) -> Q (.ref a) H') /\ (iL (ds.length : Int) x = true -> QRf CN CG CF K H Q n l m ds)) \/
   (wd = "watch" /\ QRf CN CG CF K H Q n l m ds)) -> rW CN CP CG CF K vs H Q E
abbrev Zj:Stmt:=top 95
theorem Iw:aP ["_law_word","_law_net_here","_law_k","_law_kept","e"] ["_law_word","_law_net_here","_law_k"] (aH Zj):=sK9
structure FlC (K:Frag) (CG CF:Addr):Prop where
 hg:W.hasDictIn K CG=true
 hf:W.hasDictIn K CF=true
 nr:W.findIn K (.ref CG) "ring"=some none
 nt:W.findIn K (.ref CG) "total"=some none
 np:W.findIn K (.ref CF) "points"=some none
structure Kpt (CG CF:Addr) (K:Frag) (H:Hp) (x:V) (m:Nat) (ds:List RD):Prop where
 rg:∀c r,rgH ds=c :: r->∃a dx p t us,x=.ref a/\H a=some (jN a (.ref CG) (some dx))/\H dx=some (.xd [("ring",.ref p),("total",.ref t)])/\H p=some (.lst us)/\Sts K H us c.2/\Fq K H t (tot (c.2.map (fV ds)))
 fl:rgH ds=[]->dC m ds≠[]->∃a dx p,x=.ref a/\H a=some (jN a (.ref CF) (some dx))/\H dx=some (.xd [("points",.ref p)])/\H p=some (.lst ((dC m ds).map V.int))
 ok:rgH ds=[]->dC m ds=[]->x=.non
inductive Yq (CG CF:Addr) (K:Frag) (vs:List V) (H:Hp) (Q:VK) (E:XK):Prop where
 |mk (x:V) (r:Addr) (us:List V) (m:Nat) (ds:List RD):vs=[x,.ref r,.int (m:Int)]->SqL K H r us->Rts K H us ds->(∀d∈ds,cT (m:Int) d.2.1 d.2.2.1)->1<=m->m<=20->ds.length<=18->(∀d∈ds,LfB 0 d.2.2.2)->Kpt CG CF K H x m ds->(∀H',aS H H'->Q (.bl true) H')->Yq CG CF K vs H Q E
theorem Iu (h1:SqL K H a [.str n])(h2:SqL K H b [.str n])(hl:(PyData.list [.str n]).canLay0=true)(z:Q (.bl true) H):vL K false (.ref a) (.ref b) H Q:=
 Bm (d:=.list [.str n]) (.lst h1 (.cons (.str _) .nil)) (.lst h2 (.cons (.str _) .nil)) hl (by simp[PyData.depth,PyData.depthAll]) z
theorem Uq (h1:SqT K H a [.int i,.int j])(h2:SqT K H b [.int i,.int j])(z:Q (.bl true) H):vL K false (.ref a) (.ref b) H Q:=
 Bm (d:=.tuple [.int i,.int j]) (.tup h1 (.cons (.int _) (.cons (.int _) .nil))) (.tup h2 (.cons (.int _) (.cons (.int _) .nil))) rfl (by simp[PyData.depth,PyData.depthAll]) z
theorem Ra (hz:∀d∈ds,LfB 0 d.2.2.2)(s:Stp):1<=(fV ds s).2/\Mq.val (fV ds s)=((s.2:Int):Rat)*szR ds s.1:=by
 have lz:Mq.Low (ds.getD s.1 (.pc,0,0,(0,1))).2.2.2:=by
  rw[getD_eq_getElem?_getD]
  cases h:ds[s.1]? with
  |none=>exact LfB.zero.1
  |some d=>exact(hz d (mem_of_getElem? h)).1
 have lr:Mq.Low (red s.2 1):=iV (by decide);unfold fV szR;refine⟨(Mq.xY lr.1 lz.1).1,?_⟩;rw[Mq.Kp lr.1 lz.1,jQ (by decide)];rw[show ((1:Int):Rat)=1 by rfl,Rat.div_def];grind
theorem Qd (hz:∀d∈ds,LfB 0 d.2.2.2)(st:List Stp):Mq.Low (tot (st.map (fV ds)))/\Mq.val (tot (st.map (fV ds)))=(st.map fun s=>((s.2:Int):Rat)*szR ds s.1).sum:=by
 have hp:Mq.Pos (st.map (fV ds)):=fun p h=>by
  obtain⟨s,_,rfl⟩:=mem_map.mp h;exact(Ra hz s).1
 refine⟨Jy hp,?_⟩;rw[Mq.Vv hp];clear hp
 induction st with
 |nil=>rfl
 |cons s r ih=>
  show Mq.val (fV ds s)+Mq.Mn ((r.map (fV ds)).map Mq.val)=_;rw[ih,(Ra hz s).2];rfl
abbrev sOf:Stmt:=top 93
theorem qb1:aP ["_law_kept","_law_rows_here","_law_many","_law_closed","_law_apart_here"] ["_law_kept","_law_rows_here","_law_many"] (aH sOf):=sK9
theorem zB (h1:SqL K H a xs)(f1:Rts K H xs ds)(h2:SqL K H b [])(z:Q (.bl (if neg then !ds.isEmpty else ds.isEmpty)) H):vL K neg (.ref a) (.ref b) H Q:=by
 refine⟨_,_,.lst h1 f1.dat,.lst h2 .nil,Cu ds,rfl,?_,?_⟩
 ·have:(PyData.list []).depth<=1:=by decide
  lia
 ·cases ds<;>exact z
theorem uH.same (s:aS H H')(h:uH CN K H n l m ds):uH CN K H' n l m ds:=by
 obtain⟨b,kb,L,NB,h1,h2⟩:=h;exact⟨b,kb,L,NB.same s,h1,h2⟩
structure NR (CN:Addr) (K:Frag) (H:Hp) (n l r:Addr) (us:List V) (m:Nat) (ds:List RD):Prop where
 nt:cZ CN K H n l (m:Int) ds
 sl:SqL K H r us
 rt:Rts K H us ds
 pt:∀d∈ds,cT (m:Int) d.2.1 d.2.2.1
 m1:1<=m
 m20:m<=20
 ln:ds.length<=18
 lf:∀d∈ds,LfB 0 d.2.2.2
 bd:∀d∈ds,Mq.Low d.2.2.2/\Mq.Bd 30 d.2.2.2
 ok:rgH ds=[]->dC m ds=[]->uH CN K H n l m ds
theorem NR.same (s:aS H H')(h:NR CN K H n l r us m ds):NR CN K H' n l r us m ds:=⟨h.nt.same s,s.seq h.sl,h.rt.same s,h.pt,h.m1,h.m20,h.ln,h.lf,h.bd,fun a b=>(h.ok a b).same s⟩
inductive Rp (CN:Addr) (K:Frag) (vs:List V) (H:Hp) (Q:VK) (E:XK):Prop where
 |mk (n l r:Addr) (us:List V) (m k:Nat) (ds:List RD):vs=[.ref n,.ref r,.int (m:Int),.int (k:Int)]->NR CN K H n l r us m ds->(ds≠[]->k < ds.length)->(∀H',aS H H'->Q (.bl true) H')->Rp CN K vs H Q E
abbrev Zd:Stmt:=top 96
theorem Wv:aP ["_law_net_here","_law_rows_here","_law_many","_law_k","_law_word"] ["_law_net_here","_law_rows_here","_law_many","_law_k"] (aH Zd):=sK9
theorem Xz (F : aV K "_law_all" "_law_all" Zd dV f fd)(G1 : aK P w K mg base CX0 12 g1 gd1 ["_law_word", "_law_net_here", "_law_k"] (rW CN CP CG CF K))(b1 : aL K gd1 ["_law_word", "_law_net_here", "_law_k"] [])(k1 : PySem.W.keepIn K (.ref g1) = true)(m1 : mg "_law_refusal" = some (.ref g1))(G2 : aK P w K mg base CX0 5 g2 gd2 ["_law_kept", "_law_rows_here", "_law_many"] (Yq CG CF K))(b2 : aL K gd2 ["_law_kept", "_law_rows_here", "_law_many"] [])(k2 : PySem.W.keepIn K (.ref g2) = true)(m2 : mg "_law_of_the_net" = some (.ref g2)):
    aK P w K mg base CX 13 f fd ["_law_net_here", "_law_rows_here", "_law_many", "_law_k"] (Rp CN K) := by
  refine F.ok Wv (fun vs H Q E h => ?_) (fun cdv A outer s H vs Q E hr h => ?_)
  · obtain ⟨n, l, r, us, m, k, ds, rfl, A, hk, q⟩ := h
    rfl
  obtain ⟨n, l, r, us, m, k, ds, rfl, A, hk, q⟩ := h;have r5 := hr.mono (show 5 <= 12 by lia);have hu := hr.units;refine ⟨_, (aD (eZ PassesOwn.never rfl (cO (cB (aA bK (aA bK (aA bK aC))))) (aZ (i := 4) Wv.nd rfl (Or.inl rfl))
      (aD (cJ (PW.pt (pC (bA eV (pv 4) bK (bH _)) (lK (bA (lB hu) (pv 1) (cB aC) (bH _))))) (aF rT) bO)
    (aF (cJ (gX (fB (aI G2 r5 rfl m2 k2 b2 .nil aM (aA (aI G1 hr rfl m1 k1 b1 .nil aM (aA (pv 4) (aA (pv 0) (aA (pv 3) aC)))) (aA (pv 1) (aA (pv 2) aC)))))) (aF (aW lW)) bO))))
    (aF (aW (qh2 (gB (lB hu) (pv 1) (cB aC) (bH _)) (nV (Nq (vW (aI G1 hr rfl m1 k1 b1 .nil aM (aA bK (aA (pv 0) (aA (pv 3) aC))))))))))), ?_⟩
  have ask : ∀ (wd : Str) (H1 : Hp) (s1 : aS H H1) (Q1 : VK), (wd = "watch" \/ wd = "shape" /\ ds ≠ []) -> (∀ x H2, aS H1 H2 -> Kpt CG CF K H2 x m ds -> Q1 x H2) -> rW CN CP CG CF K [.str wd, .ref n, .int (k : Int)] H1 Q1 E0 := fun wd H1 s1 Q1 hw go => by
    have A := A.same s1;have rf : QRf CN CG CF K H1 Q1 n l m ds :=
      ⟨fun c rr e a dx p t us' H2 s2 ea ed ep st ft => go _ _ s2 ⟨fun c' rr' e' => by
          obtain rfl : c = c' := by rw [e] at e'; exact (List.cons.inj e').1
          exact ⟨a, dx, p, t, us', rfl, ea, ed, ep, st, ft⟩, fun z => absurd (e.symm.trans z) (by simp), fun z => absurd (e.symm.trans z) (by simp)⟩,
       fun e1 e2 a dx p H2 s2 ea ed ep => go _ _ s2 ⟨fun c rr z => absurd (e1.symm.trans z) (by simp), fun _ _ => ⟨a, dx, p, rfl, ea, ed, ep⟩, fun _ z => absurd z e2⟩,
       fun e1 e2 => ⟨A.ok e1 e2, fun H2 s2 => go _ _ s2 ⟨fun c rr z => absurd (e1.symm.trans z) (by simp), fun _ z => absurd e2 z, fun _ _ => rfl⟩⟩⟩
    skip
    refine ⟨n, l, .int (k : Int), m, ds, A.nt, A.pt, A.m1, A.m20, by have := A.ln; lia, A.bd, .inl ⟨_, rfl⟩, wd, rfl, ?_⟩;rcases hw with rfl | ⟨rfl, ne⟩
    · exact .inr (.inr ⟨rfl, rf⟩)
    · have := hk ne
      have pk : iL (ds.length : Int) (.int (k : Int)) = true := decide_eq_true ⟨by lia, by lia⟩;exact .inr (.inl ⟨rfl, fun z => absurd (pk.symm.trans z) (by simp), fun _ => rf⟩)
  have blk : ∀ (Q1 : VK) (H1 : Hp) (s1 : aS H H1), ds ≠ [] -> (∀ H2, aS H1 H2 -> Q1 .non H2) -> rW CN CP CG CF K [.str "block", .ref n, .int (k : Int)] H1 Q1 E0 := fun Q1 H1 s1 ne go => by
    have A := A.same s1;have := hk ne;have pk : iL (ds.length : Int) (.int (k : Int)) = true := decide_eq_true ⟨by lia, by lia⟩
    skip
    exact ⟨n, l, .int (k : Int), m, ds, A.nt, A.pt, A.m1, A.m20, by have := A.ln; lia, A.bd, .inl ⟨_, rfl⟩, "block", rfl, .inl ⟨rfl, fun z => absurd (pk.symm.trans z) (by simp), fun _ H4 s4 => go H4 s4⟩⟩
  refine ⟨by show 3 <= sizeLine; decide, fun W hW => ?_⟩;have sW := aE hW (.lst [.str "watch", .str "shape", .str "watch"]);have eW : upd H W (.lst [.str "watch", .str "shape", .str "watch"]) W = some (.lst [.str "watch", .str "shape", .str "watch"]) := aB;generalize upd H W (.lst [.str "watch", .str "shape", .str "watch"]) = H1 at sW eW ⊢;refine ⟨W, rfl, ⟨_, SqL.of eW⟩, ?_⟩;refine eK (xs := [.str "watch", .str "shape", .str "watch"]) (fun i σ H' => aS H1 H' /\ ∃ z4, σ = [some (.ref n), some (.ref r), some (.int (m : Int)), some (.int (k : Int)), z4]) ⟨aS.refl _, none, rfl⟩ (fun i σ H' _ h => SqL.of (h.1 _ _ eW)) ?_ ?_
  · rintro i x σ H2 hx ⟨s2, z4, rfl⟩
    have s02 := sW.trans s2;have A2 := A.same s02;obtain ⟨wd, rfl, hwd⟩ : ∃ wd : Str, x = .str wd /\ (wd = "watch" \/ wd = "shape") := by
      match i, hx with
      | 0, e => exact ⟨_, (Option.some.inj e).symm, .inl rfl⟩
      | 1, e => exact ⟨_, (Option.some.inj e).symm, .inr rfl⟩
      | 2, e => exact ⟨_, (Option.some.inj e).symm, .inl rfl⟩
    refine ⟨_, rfl, rfl, _, rfl, ?_⟩;rcases hwd with rfl | rfl
    · refine L2.ifF (by decide +kernel) (L2.ifF rfl ?_)
      refine ⟨_, rfl, _, rfl, _, rfl, ?_⟩;refine ask "watch" H2 s02 _ (.inl rfl) fun x H3 s3 kp => ?_;have A3 := A2.same s3;exact ⟨_, rfl, _, rfl, x, r, us, m, ds, rfl, A3.sl, A3.rt, A3.pt, A3.m1, A3.m20, A3.ln, A3.lf, kp, fun H4 s4 => ⟨_, rfl, L2.ifF rfl ⟨s2.trans (s3.trans s4), _, rfl⟩⟩⟩
    · refine L2.ifT rfl ?_
      refine ⟨_, rfl, by show 0 <= sizeLine; decide, fun e hE => ?_⟩;have s3 := aE hE (.lst []);have e3 : upd H2 e (.lst []) e = some (.lst []) := aB;generalize upd H2 e (.lst []) = H3 at s3 e3 ⊢;have A3 := A2.same s3;refine zB A3.sl A3.rt (SqL.of e3) ⟨_, rfl, ?_⟩
      by_cases hd : ds = []
      · exact L2.ifT (by rw [hd]; rfl) ⟨s2.trans s3, _, rfl⟩
      · refine L2.ifF (by cases hx : ds with | nil => exact absurd hx hd | cons y ys => rfl) ?_
        refine ⟨_, rfl, _, rfl, _, rfl, ?_⟩;refine ask "shape" H3 (s02.trans s3) _ (.inr ⟨rfl, hd⟩) fun x H4 s4 kp => ?_;have A4 := A3.same s4;exact ⟨_, rfl, _, rfl, x, r, us, m, ds, rfl, A4.sl, A4.rt, A4.pt, A4.m1, A4.m20, A4.ln, A4.lf, kp, fun H5 s5 => ⟨_, rfl, L2.ifF rfl ⟨s2.trans (s3.trans (s4.trans s5)), _, rfl⟩⟩⟩
  · rintro σ H2 ⟨s2, z4, rfl⟩
    have s02 := sW.trans s2;have A2 := A.same s02;refine ⟨_, rfl, by show 0 <= sizeLine; decide, fun e hE => ?_⟩;have s3 := aE hE (.lst []);have e3 : upd H2 e (.lst []) e = some (.lst []) := aB;generalize upd H2 e (.lst []) = H3 at s3 e3 ⊢;have A3 := A2.same s3;have s03 := s02.trans s3;refine zB A3.sl A3.rt (SqL.of e3) ⟨_, rfl, ?_⟩
    cases hd : ds with
    | nil => exact gC (q H3 s03)
    | cons d0 dr =>
      refine iA ?_;have ne : ds ≠ [] := by rw [hd]; simp
      have := hk ne;have pk : iL (ds.length : Int) (.int (k : Int)) = true := decide_eq_true ⟨by lia, by lia⟩;refine ⟨_, rfl, _, rfl, ?_⟩;refine blk _ H3 s03 ne fun H4 s4 => ?_;exact q H4 (s03.trans s4)
section
variable {K:Frag} {m:Nat} {d:RD} {ds:List RD}
theorem Xk {b:Int}(h1:1<=b)(h2:b<=12):b ∣ 27720:=by
 have:b=1\/b=2\/b=3\/b=4\/b=5\/b=6\/b=7\/b=8\/b=9\/b=10\/b=11\/b=12:=by lia
 rcases this with rfl | rfl | rfl | rfl | rfl | rfl | rfl | rfl | rfl | rfl | rfl | rfl<;>decide
theorem D76.facts (h:D76 m d):Mq.Low d.2.2.2/\1<=d.2.2.2.2/\d.2.2.2.2<=12/\d.2.2.2.1.natAbs<=60/\(d.1=.pc->1<=d.2.2.2.1/\d.2.2.2.1<=12):=by
 obtain⟨t,b,e,b1,b12,t0,t6,pc⟩:=h.sz;have b0:b≠0:=by lia
 have lo:=iV (t:=t) b0;have le:=rD (t:=t) b0;have p1:=lo.pos;refine⟨e ▸ lo,e ▸ p1,by rw[e];lia,by rw[e];lia,fun k=>?_⟩;obtain⟨t1,t12,_⟩:=pc k;have:=Mq.Tv (t:=t) (b:=b) (by lia) (by lia);rw[e];lia
theorem D76.rd (h:D76 m d):Mg (m:Int) d:=by
 obtain⟨lo,p1,p12,n60,pc⟩:=h.facts;obtain⟨u0,u1,v0,v1⟩:=h.pt;refine⟨u0,u1,v0,v1,lo,fun k=>by have:=pc k;lia,?_,?_⟩
 ·exact Mq.B.mono (n:=6) (show d.2.2.2.1.natAbs < 2 ^ 6 from Nat.lt_of_le_of_lt n60 (by decide)) (by lia)
 ·exact Mq.B.mono (n:=6) (show d.2.2.2.2.natAbs < 2 ^ 6 from Nat.lt_of_le_of_lt (show d.2.2.2.2.natAbs<=12 by lia) (by decide)) (by lia)
theorem D76.fr (h:D76 m d):Mq.Fr 27720 60 (Mq.val d.2.2.2):=by
 obtain⟨lo,p1,p12,n60,pc⟩:=h.facts;exact Mq.Fr.of (by decide) p1 (Xk p1 p12) n60
theorem D76.lf (h:D76 m d):LfB 0 d.2.2.2:=⟨h.facts.1,h.fr⟩
theorem D76.b8 (h:D76 m d):Mq.Bd 8 d.2.2.2:=by
 obtain⟨lo,p1,p12,n60,pc⟩:=h.facts;exact⟨show d.2.2.2.1.natAbs < 2 ^ 8 from Nat.lt_of_le_of_lt n60 (by decide),show d.2.2.2.2.natAbs < 2 ^ 8 from Nat.lt_of_le_of_lt (show d.2.2.2.2.natAbs<=12 by lia) (by decide)⟩
theorem D76.bd (h:D76 m d):Mq.Low d.2.2.2/\Mq.Bd 30 d.2.2.2:=⟨h.facts.1,h.b8.mono (by decide)⟩
theorem Ki:∀n,lH (fun _=>8) n=52*n
 |0=>rfl
 |n+1=>by show lH _ n+(4*8+20)=_;rw[Ki n];lia
theorem Fb:Mq.B 15 27720:=by show (27720:Nat) < 2 ^ 15;decide
theorem Yp (m1:1<=m)(m6:m<=6)(len:ds.length<=17)(D:∀d∈ds,D76 m d)(nt:cZ CN K H n l (m:Int) ds)(hR:rgH ds=[])(hF:dC m ds=[]):uH CN K H n l m ds:=by
 have pt:∀d∈ds,cT (m:Int) d.2.1 d.2.2.1:=fun d hd=>(D d hd).pt;have o:Nof m ds:=⟨m1,pt,fun d hd k=>by
   obtain⟨lo,p1,p12,n60,pc⟩:=(D d hd).facts;have p0:=(pc k).1;unfold Mq.val;rw[Rat.div_def];exact Rat.mul_pos (by exact_mod_cast (show 0 < d.2.2.2.1 by lia)) (Rat.inv_pos.mpr (by exact_mod_cast (show 0 < d.2.2.2.2 by lia))),
  fun p pm=>by
   unfold dC at hF;have:=filter_eq_nil_iff.mp (map_eq_nil_iff.mp hF) p (mem_range.mpr pm);have e:mk m ds p=mk m ds 0:=by
    by_cases c:mk m ds p=mk m ds 0
    ·exact c
    ·exact absurd (decide_eq_true c) this
   exact((Ir pt pm (by lia)).mp e).symm,
  Yz tL pt (by lia) hR⟩
 have hh:cA ds<=17:=Nat.le_trans (length_filter_le _ _) len;have one:=Mq.Fr.one (L:=27720) (by decide);have eM:∀i j,∃a:Int,Mq.B 40 a/\eqM m ds (i+1) (j+1)=(a:Rat) / ((27720:Int):Rat):=fun i j=>by
  have c:∀d∈ds,∀k,Mq.Fr 27720 18 (cM d k (i+1) (j+1)):=fun d hd k=>by
   obtain⟨lo,p1,p12,n60,pc⟩:=(D d hd).facts;unfold cM
   cases hk:d.1 with
   |pu=>exact Mq.Fr.zero.mono (Nat.zero_le _)
   |ho=>
    dsimp only;refine(Mq.Fr.add (Cb (Op one) _ _ _) (N:=1) ?_).mono (by decide);rw[Rat.mul_comm];exact Cb (Op one) _ _ _
   |pc=>
    obtain⟨t1,t12⟩:=pc hk;dsimp only;rw[Rat.mul_assoc];have:1 / Mq.val d.2.2.2=((d.2.2.2.2:Int):Rat) / ((d.2.2.2.1:Int):Rat):=by
     have:=Mq.uX p1;have:=Mq.uX t1;unfold Mq.val;grind
    rw[this];exact(Cb (Cb (Mq.Fr.of (M:=12) (by decide) t1 (Xk t1 t12) (by lia)) _ _ _) _ _ _).mono (by decide)
  refine Mq.Fr.get (m:=9) (n:=15) (Te m c) ?_ Fb (by decide)
  calc ds.length*18<=17*18:=Nat.mul_le_mul_right _ len
   _ < 2 ^ 9:=by decide
 have eR:∀i,∃a:Int,Mq.B 40 a/\eqR m ds (i+1)=(a:Rat) / ((27720:Int):Rat):=fun i=>by
  have c:∀d∈ds,∀k,Mq.Fr 27720 60 (cR d k (i+1)):=fun d hd k=>by
   have f:=(D d hd).fr;unfold cR
   cases hk:d.1 with
   |pc=>exact Mq.Fr.zero.mono (Nat.zero_le _)
   |pu=>
    dsimp only;have e:-dl d.2.1.toNat d.2.2.1.toNat (i+1)*Mq.val d.2.2.2=-(dl d.2.1.toNat d.2.2.1.toNat (i+1)*Mq.val d.2.2.2):=by grind
    rw[e];exact(Cb f _ _ _).neg
   |ho=>
    dsimp only;split
    ·exact f
    ·exact Mq.Fr.zero.mono (Nat.zero_le _)
  refine Mq.Fr.get (m:=10) (n:=15) (Po m c) ?_ Fb (by decide)
  calc ds.length*60<=17*60:=Nat.mul_le_mul_right _ len
   _ < 2 ^ 10:=by decide
 refine⟨40,fun _=>8,27720,⟨nt,fun i d hd=>?_,by lia,by lia,?_,⟨o,?_,by decide,?_,?_,by decide,Fb.mono (by decide),eM⟩⟩,?_,eR⟩
 ·have h:=D d (mem_of_getElem? hd);exact⟨h.rd,h.b8⟩
 ·rw[Ki];lia
 ·show m - 1+cA ds<=26;lia
 ·show 10+40+40*(m - 1+cA ds+1)<=8000;lia
 ·show (40+5)*(m - 1+cA ds+1)+8<=4000;lia
 ·show (40+5)*(m - 1+cA ds+1)+8<=3900;lia
theorem Xm (m1:1<=m)(m6:m<=6)(len:ds.length<=17)(D:∀d∈ds,D76 m d)(nt:cZ CN K H n l (m:Int) ds)(sl:SqL K H r us)(rt:Rts K H us ds):NR CN K H n l r us m ds:=
 ⟨nt,sl,rt,fun d hd=>(D d hd).pt,m1,by lia,by lia,fun d hd=>(D d hd).lf,fun d hd=>(D d hd).bd,fun a b=>Yp m1 m6 len D nt a b⟩
theorem d53 {p:Int}(m1:1<=m)(p0:0<=p)(p1:p < m):D76 m (.pc,p,0,(5,3)):=⟨⟨p0,p1,Int.le_refl 0,by show (0:Int) < m;lia⟩,5,3,(by show ((5,3):Mq.Q2)=red 5 3;decide),by decide,by decide,by decide,by decide,fun _=>by decide⟩
end
theorem Va (m:Nat)(m1:1<=m)(ds:List RD):(dC m ds).length<=m - 1:=by
 obtain⟨k,rfl⟩:∃k,m=k+1:=⟨m - 1,by lia⟩
 unfold dC;rw[length_map,range_succ_eq_map,filter_cons_of_neg (by simp)];have:=length_filter_le (fun p=>decide (mk (k+1) ds p≠mk (k+1) ds 0)) ((List.range k).map Nat.succ);rw[length_map,length_range] at this;lia
theorem Jv (h:x∈dC m ds):∃p:Nat,x=(p:Int)/\p < m:=by
 obtain⟨p,hp,rfl⟩:=mem_map.mp h;exact⟨p,rfl,mem_range.mp (mem_filter.mp hp).1⟩
def pcF (fs:List Int):List RD:=fs.map fun p=>(.pc,p,0,(5,3))
theorem Sb {m:Nat}(m1:1<=m)(pt:∀d∈ds,cT (m:Int) d.2.1 d.2.2.1)(pt2:∀d∈ds++pcF (dC m ds),cT (m:Int) d.2.1 d.2.2.1):dC m (ds++pcF (dC m ds))=[]:=by
 have e:dC m (ds++pcF (dC m ds))=((List.range m).filter fun p=>decide (mk m (ds++pcF (dC m ds)) p≠mk m (ds++pcF (dC m ds)) 0)).map fun (p:Nat)=>(p:Int):=rfl;rw[e,filter_eq_nil_iff.mpr fun p hp=>?_]
 ·rfl
 ·have pm:=mem_range.mp hp;have key:mk m (ds++pcF (dC m ds)) p=mk m (ds++pcF (dC m ds)) 0:=by
   refine(Ir pt2 pm (by lia)).mpr ?_
   by_cases c:mk m ds p=mk m ds 0
   ·exact((Ir pt pm (by lia)).mp c).mono fun d hd=>mem_append.mpr (.inl hd)
   ·have hm:((p:Int))∈dC m ds:=mem_map.mpr ⟨p,mem_filter.mpr ⟨hp,decide_eq_true c⟩,rfl⟩;have hr:((.pc,(p:Int),0,(5,3)):RD)∈ds++pcF (dC m ds):=mem_append.mpr (.inr (mem_map.mpr ⟨_,hm,rfl⟩));exact Cn.row hr (by show Kd.pc≠Kd.pu;decide)
  simp[key]
theorem qc8 (n:Nat)(ht:H t=some (.tup xs))(h0:0<=j)(h6:j < 6):∃x:V,atI [V.int (-1),.int (n:Int),.bl true,.non,.str "0",.ref t] j=some x/\(∀H',aS H H'->vX K H' x)/\iL (n:Int) x=false:=by
 have:j=0\/j=1\/j=2\/j=3\/j=4\/j=5:=by lia
 rcases this with rfl | rfl | rfl | rfl | rfl | rfl
 ·exact⟨_,rfl,fun _ _=>.inl ⟨_,rfl⟩,rfl⟩
 ·exact⟨_,rfl,fun _ _=>.inl ⟨_,rfl⟩,decide_eq_false (by lia)⟩
 ·exact⟨_,rfl,fun _ _=>.inr ⟨_,.bl _,by simp[iI]⟩,rfl⟩
 ·exact⟨_,rfl,fun _ _=>.inr ⟨_,.non,by simp[iI]⟩,rfl⟩
 ·exact⟨_,rfl,fun _ _=>.inr ⟨_,.str _,by simp[iI]⟩,rfl⟩
 ·exact⟨_,rfl,fun H' s=>.inr ⟨_,.tup (s _ _ ht),by simp[iI]⟩,rfl⟩
theorem Vu (h1:SqL K H a [.str n])(h2:SqL K H b [.str n])(hl:(PyData.list [.str n]).canLay0=true)(z:Q (.bl false) H):vL K true (.ref a) (.ref b) H Q:=
 Bm (d:=.list [.str n]) (.lst h1 (.cons (.str _) .nil)) (.lst h2 (.cons (.str _) .nil)) hl (by simp[PyData.depth,PyData.depthAll]) z
inductive Ct (K:Frag) (vs:List V) (H:Hp) (Q:VK) (E:XK):Prop where
 |mk (a:Addr) (ns:List Int):vs=[.ref a]->SqL K H a (ns.map V.int)->ns.length<=63->(∀H',Q (.bl true) H')->Ct K vs H Q E
abbrev yX:Stmt:=top 97
theorem nA:aP ["_law_script","_law_many","_law_rows_here","_law_net_here","_law_cell","_law_odd","_law_word","_law_k","_law_point","_law_heights"] ["_law_script"] (aH yX):=sK9
theorem Ed:∀{cs:List Value},W.kitAny K t cs=some false->∀c∈cs,W.kitOne K t c=some false
 | [],_,c,h=>by cases h
 |d :: r,e,c,h=>by
  unfold W.kitAny at e
  cases hd:W.kitOne K t d with
  |none=>rw[hd] at e;cases e
  |some b=>
   rw[hd] at e
   cases b with
   |true=>cases e
   |false=>
    rcases mem_cons.mp h with z | z
    ·rw[z];exact hd
    ·exact Ed e c z
theorem Vy {mg:Str->Option Value}(h0:mg "NoNumber"=some (.ref n0))(h1:mg "NoPoint"=some (.ref n1))(h2:mg "NoSize"=some (.ref n2))(h3:mg "NoRow"=some (.ref n3))(h4:mg "NoWord"=some (.ref n4))(h5:mg "NoName"=some (.ref n5))(h6:mg "NoStreams"=some (.ref n6))(h7:mg "NoRoad"=some (.ref n7))(h8:mg "TooMany"=some (.ref n8))(h9:mg "Lame"=some (.ref n9))(h10:mg "Ring"=some (.ref n10))(h11:mg "Floats"=some (.ref n11))(h12:mg "Held"=some (.ref n12)):∀(i:Nat) (n:Str),kNm[i]?=some n->∃c,[n0,n1,n2,n3,n4,n5,n6,n7,n8,n9,n10,n11,n12][i]?=some c/\mg n=some (.ref c):=fun i n h=>by
 match i,h with
 |0,h=>cases h;exact⟨_,rfl,h0⟩
 |1,h=>cases h;exact⟨_,rfl,h1⟩
 |2,h=>cases h;exact⟨_,rfl,h2⟩
 |3,h=>cases h;exact⟨_,rfl,h3⟩
 |4,h=>cases h;exact⟨_,rfl,h4⟩
 |5,h=>cases h;exact⟨_,rfl,h5⟩
 |6,h=>cases h;exact⟨_,rfl,h6⟩
 |7,h=>cases h;exact⟨_,rfl,h7⟩
 |8,h=>cases h;exact⟨_,rfl,h8⟩
 |9,h=>cases h;exact⟨_,rfl,h9⟩
 |10,h=>cases h;exact⟨_,rfl,h10⟩
 |11,h=>cases h;exact⟨_,rfl,h11⟩
 |12,h=>cases h;exact⟨_,rfl,h12⟩
theorem Ft {cs:List Addr}(ex:wU K C)(ve:W.kitOne K (.ref C) (.type "ValueError")=some true)(hm:∀(i:Nat) (n:Str),kNm[i]?=some n->∃c,cs[i]?=some c/\mg n=some (.ref c))(hj:cs[j]?=some C)(hf:W.kitAny K (.ref C) ((cs.eraseIdx j).map Value.ref)=some false):KiC K mg C j:=
 ⟨ex,ve,fun i n h=>by
  obtain⟨c,hc,mc⟩:=hm i n h;refine⟨c,mc,?_⟩
  by_cases e:i=j
  ·subst e;rw[hj] at hc;cases hc;rw[decide_eq_true rfl];exact pT _ _
  ·rw[decide_eq_false e];refine Ed hf _ (mem_map.mpr ⟨c,?_,rfl⟩);rw[mem_eraseIdx_iff_getElem?];exact⟨i,e,hc⟩⟩
theorem ql2 (F:aK P w K mg base (CX1 P w) 3 g gd ["some","many"] (Mw K CP)):aK P w K mg base CX0 3 g gd ["some","many"] (qa7 K):=
 F.calm.weak fun vs H Q E h=>by
  obtain⟨l,i,j,m,rfl,hl,i0,i1,j0,j1,q⟩:=h;have e:[V.int i,V.int j].all (iL m)=true:=by
   show (decide (0<=i/\i < m) && (decide (0<=j/\j < m) && true))=true;rw[decide_eq_true ⟨i0,i1⟩,decide_eq_true ⟨j0,j1⟩];rfl
  exact⟨l,_,m,rfl,hl,by simp,fun x hx=>by rcases mem_cons.mp hx with z | z;exact .inl ⟨i,z⟩;exact .inl ⟨j,mem_singleton.mp z⟩,fun _=>q,fun z=>by rw[e] at z;cases z⟩
instance:Inhabited World:=⟨⟨fun _ _=>0,{strHash:=fun _=>0,shareClass:=id,mergeTok:=id,idOf:=fun _=>0,idOfShared:=fun _ _=>0,followText:=fun _=>true,idOfImm:=fun _=>0}⟩⟩
set_option genInjectivity false in
structure CZ where
 P:Program
 w:World
 K:Frag
 mg:Str->Option Value
 (c_Row c_Piece c_Push c_Hold c_Net c_Answer c_Watch c_OhmError c_Ring c_Floats c_Held c_Lame c_NoName c_NoNumber c_NoPoint c_NoRoad c_NoRow c_NoSize c_NoStreams c_NoWord c_TooMany f1 f2 f3 f4 f5 f6 f7 f8 f9 f10 f11 f12 f13 f14 f15 f16 f17 f18 f19 f20 f21 f22 f23 f24 f25 f26 f27 f28 f29 f30 f31 f32 f33 f34 f35 f36 f37 f38 f39 f40 f41 f42 f43 f44 f45 f46 f47 f48 f49 f50 f51 f52 f53 f54 f55 f56 f57 f58 f59 f60 f61 f62 f63 f64 f65 f66 f67 f68 f69 f70 f71 f72 f73 f74 f75 f76 f77 f78 f79 f80 f81 f82:Addr)
 (d1 d2 d3 d4 d5 d7 d8 d9 d10 d11 d12 d13 d14 d15 d16 d17 d18 d19 d20 d21 d22 d23 d24 d25 d26 d27 d28 d29 d30 d31 d32 d33 d34 d35 d36 d37 d38 d39 d41 d42 d43 d44 d45 d46 d47 d48 d49 d50 d51 d52 d53 d54 d55 d56 d57 d58 d59 d60 d61 d62 d63 d64 d65 d66 d67 d68 d69 d70 d71 d72 d73 d74 d75 d76 d77 d78 d79 d80 d81:FuncData)
 (od6 an6:Option Addr)
 sl6:Array (Option Value)
 (oc6 kV6 dc6 pm6 cd6 ct6:Value)
 T6:Addr
 oT6:Value
 dT6:Option Addr
 nT6:Nat
 sT6:Array (Option Value)
 tk6:Tok
 (od40 an40:Option Addr)
 sl40:Array (Option Value)
 (oc40 kV40 dc40 pm40 cd40 ct40:Value)
 T40:Addr
 oT40:Value
 dT40:Option Addr
 nT40:Nat
 sT40:Array (Option Value)
 (od82 an82:Option Addr)
 sl82:Array (Option Value)
 (oc82 kV82 dc82 pm82 cd82 ct82:Value)
 (aO aN aJ:Addr)
 dJ:Option Addr
 nJ:Nat
 sJ:Array (Option Value)
 (tj0 tj1 tM tR:Tok)
 (nG qG:Str)
 NG:Addr
 bsG:List Value
 snG:List Str
 suG:List Value
 abG:Bool
 coG:Option Bool
 ddG:Option Addr
 (k0G k1G k2G k3G k5G:Option Value)
 (nE qE:Str)
 NE:Addr
 bsE:List Value
 snE:List Str
 suE:List Value
 abE:Bool
 coE:Option Bool
 ddE:Option Addr
 (k0E k1E k2E k3E k5E:Option Value)
 hdE:Bool
noncomputable instance:Inhabited CZ:=⟨by constructor<;>exact default⟩
class GZ (c:outParam CZ):Prop where
 mc_Watch:mI9 c.mg "Watch" c.c_Watch
 mc_OhmError:mI9 c.mg "OhmError" c.c_OhmError
 mc_Ring:mI9 c.mg "Ring" c.c_Ring
 mc_Floats:mI9 c.mg "Floats" c.c_Floats
 mc_NoPoint:mI9 c.mg "NoPoint" c.c_NoPoint
 mc_NoRow:mI9 c.mg "NoRow" c.c_NoRow
 i1:W.isFn c.K (.ref c.f1)=true
 F1:aV c.K "__init__" "Floats.__init__" Fi .none c.f1 c.d1
 F2:aV c.K "__init__" "Ring.__init__" Ax .none c.f2 c.d2
 m3:mI9 c.mg "is_whole" c.f3
 F3:aV c.K "is_whole" "is_whole" Gk .none c.f3 c.d3
 m4:mI9 c.mg "greatest_common" c.f4
 F4:aV c.K "greatest_common" "greatest_common" sGc .none c.f4 c.d4
 m5:mI9 c.mg "under" c.f5
 F5:aV c.K "under" "under" Em .none c.f5 c.d5
 m6:mI9 c.mg "fraction" c.f6
 l6:c.K.lookup c.f6=some ⟨c.oc6,c.od6,.func (W.fnOf "fraction" "fraction" (dY lU) (cU lU) (aH lU) (.ref c.T6) c.kV6 c.dc6 c.pm6 c.an6 c.cd6 c.ct6),c.sl6⟩
 c6:W.codeIn c.K c.cd6 "fraction"=true
 k6:kI9 c.K c.f6
 lt6:c.K.lookup c.T6=some ⟨c.oT6,c.dT6,.seq #[.int 1 c.tk6] c.nT6,c.sT6⟩
 m7:mI9 c.mg "minus" c.f7
 F7:aV c.K "minus" "minus" He .none c.f7 c.d7
 m8:mI9 c.mg "plus" c.f8
 F8:aV c.K "plus" "plus" Qt .none c.f8 c.d8
 m9:mI9 c.mg "times" c.f9
 F9:aV c.K "times" "times" Hg .none c.f9 c.d9
 m10:mI9 c.mg "over" c.f10
 F10:aV c.K "over" "over" Nx .none c.f10 c.d10
 m11:mI9 c.mg "total" c.f11
 F11:aV c.K "total" "total" Hb .none c.f11 c.d11
 m12:mI9 c.mg "is_fraction" c.f12
 F12:aV c.K "is_fraction" "is_fraction" Yi .none c.f12 c.d12
 F13:aV c.K "__init__" "Row.__init__" Er .none c.f13 c.d13
 a14_0:W.findIn c.K (.ref c.c_Piece) "word"=some (some (.ref c.f14))
 i14:W.isFn c.K (.ref c.f14)=true
 F14:aV c.K "word" "Piece.word" uR .none c.f14 c.d14
 a15_0:W.findIn c.K (.ref c.c_Push) "word"=some (some (.ref c.f15))
 i15:W.isFn c.K (.ref c.f15)=true
 F15:aV c.K "word" "Push.word" wN .none c.f15 c.d15
 a16_0:W.findIn c.K (.ref c.c_Hold) "word"=some (some (.ref c.f16))
 i16:W.isFn c.K (.ref c.f16)=true
 F16:aV c.K "word" "Hold.word" wC .none c.f16 c.d16
 a17_0:W.findIn c.K (.ref c.c_Piece) "joins"=some (some (.ref c.f17))
 i17:W.isFn c.K (.ref c.f17)=true
 F17:aV c.K "joins" "Piece.joins" rS .none c.f17 c.d17
 a18_0:W.findIn c.K (.ref c.c_Push) "joins"=some (some (.ref c.f18))
 i18:W.isFn c.K (.ref c.f18)=true
 F18:aV c.K "joins" "Push.joins" qR .none c.f18 c.d18
 a19_0:W.findIn c.K (.ref c.c_Hold) "joins"=some (some (.ref c.f19))
 i19:W.isFn c.K (.ref c.f19)=true
 F19:aV c.K "joins" "Hold.joins" rP .none c.f19 c.d19
 a20_0:W.findIn c.K (.ref c.c_Piece) "told"=some (some (.ref c.f20))
 a20_1:W.findIn c.K (.ref c.c_Push) "told"=some (some (.ref c.f20))
 a20_2:W.findIn c.K (.ref c.c_Hold) "told"=some (some (.ref c.f20))
 i20:W.isFn c.K (.ref c.f20)=true
 F20:aV c.K "told" "Row.told" Es .none c.f20 c.d20
 m21:mI9 c.mg "row_of" c.f21
 F21:aV c.K "row_of" "row_of" Gv .none c.f21 c.d21
 a22_0:W.findIn c.K (.ref c.c_Piece) "stream"=some (some (.ref c.f22))
 i22:W.isFn c.K (.ref c.f22)=true
 F22:aV c.K "stream" "Piece.stream" oS .none c.f22 c.d22
 a23_0:W.findIn c.K (.ref c.c_Push) "stream"=some (some (.ref c.f23))
 i23:W.isFn c.K (.ref c.f23)=true
 F23:aV c.K "stream" "Push.stream" oU .none c.f23 c.d23
 a24_0:W.findIn c.K (.ref c.c_Hold) "stream"=some (some (.ref c.f24))
 i24:W.isFn c.K (.ref c.f24)=true
 F24:aV c.K "stream" "Hold.stream" oY .none c.f24 c.d24
 m25:mI9 c.mg "is_piece_size" c.f25
 F25:aV c.K "is_piece_size" "is_piece_size" sPS .none c.f25 c.d25
 m26:mI9 c.mg "is_number_below" c.f26
 F26:aV c.K "is_number_below" "is_number_below" sNB .none c.f26 c.d26
 m27:mI9 c.mg "refuse_size" c.f27
 F27:aV c.K "refuse_size" "refuse_size" sRS .none c.f27 c.d27
 m28:mI9 c.mg "refuse_points" c.f28
 F28:aV c.K "refuse_points" "refuse_points" sRP .none c.f28 c.d28
 F29:aV c.K "__init__" "Net.__init__" El .none c.f29 c.d29
 a30_0:W.findIn c.K (.ref c.c_Net) "many"=some (some (.ref c.f30))
 i30:W.isFn c.K (.ref c.f30)=true
 F30:aV c.K "many" "Net.many" Nj .none c.f30 c.d30
 a31_0:W.findIn c.K (.ref c.c_Net) "told"=some (some (.ref c.f31))
 F31:aV c.K "told" "Net.told" Fj .none c.f31 c.d31
 a32_0:W.findIn c.K (.ref c.c_Net) "add"=some (some (.ref c.f32))
 i32:W.isFn c.K (.ref c.f32)=true
 F32:aV c.K "add" "Net.add" Xv .none c.f32 c.d32
 a33_0:W.findIn c.K (.ref c.c_Net) "rows"=some (some (.ref c.f33))
 i33:W.isFn c.K (.ref c.f33)=true
 F33:aV c.K "rows" "Net.rows" Og .none c.f33 c.d33
 m34:mI9 c.mg "fall_of" c.f34
 F34:aV c.K "fall_of" "fall_of" Ry .none c.f34 c.d34
 m35:mI9 c.mg "joined" c.f35
 F35:aV c.K "joined" "joined" Bh .none c.f35 c.d35
 m36:mI9 c.mg "marks_of" c.f36
 F36:aV c.K "marks_of" "marks_of" Gp .none c.f36 c.d36
 m37:mI9 c.mg "floating" c.f37
 F37:aV c.K "floating" "floating" Gx .none c.f37 c.d37
 m38:mI9 c.mg "steps_from" c.f38
 F38:aV c.K "steps_from" "steps_from" Gb .none c.f38 c.d38
 m39:mI9 c.mg "way_along" c.f39
 F39:aV c.K "way_along" "way_along" Yv .none c.f39 c.d39
 m40:mI9 c.mg "rings" c.f40
 l40:c.K.lookup c.f40=some ⟨c.oc40,c.od40,.func (W.fnOf "rings" "rings" (dY iO) (cU iO) (aH iO) (.ref c.T40) c.kV40 c.dc40 c.pm40 c.an40 c.cd40 c.ct40),c.sl40⟩
 c40:W.codeIn c.K c.cd40 "rings"=true
 k40:kI9 c.K c.f40
 lt40:c.K.lookup c.T40=some ⟨c.oT40,c.dT40,.seq #[.none] c.nT40,c.sT40⟩
 m41:mI9 c.mg "ring_sum" c.f41
 F41:aV c.K "ring_sum" "ring_sum" Ox .none c.f41 c.d41
 m42:mI9 c.mg "raise_at" c.f42
 F42:aV c.K "raise_at" "raise_at" Ho .none c.f42 c.d42
 m43:mI9 c.mg "enter_stream" c.f43
 F43:aV c.K "enter_stream" "enter_stream" Fm .none c.f43 c.d43
 m44:mI9 c.mg "enter_piece" c.f44
 F44:aV c.K "enter_piece" "enter_piece" Bs .none c.f44 c.d44
 m45:mI9 c.mg "enter_push" c.f45
 F45:aV c.K "enter_push" "enter_push" Af .none c.f45 c.d45
 m46:mI9 c.mg "enter_hold" c.f46
 F46:aV c.K "enter_hold" "enter_hold" Bo .none c.f46 c.d46
 m47:mI9 c.mg "equations" c.f47
 F47:aV c.K "equations" "equations" qd5 .none c.f47 c.d47
 m48:mI9 c.mg "in_wholes" c.f48
 F48:aV c.K "in_wholes" "in_wholes" sIW .none c.f48 c.d48
 m49:mI9 c.mg "pivot_place" c.f49
 F49:aV c.K "pivot_place" "pivot_place" qc4 .none c.f49 c.d49
 m50:mI9 c.mg "cleared" c.f50
 F50:aV c.K "cleared" "cleared" Zp .none c.f50 c.d50
 m51:mI9 c.mg "cleared_rows" c.f51
 F51:aV c.K "cleared_rows" "cleared_rows" vO .none c.f51 c.d51
 m52:mI9 c.mg "eliminated" c.f52
 F52:aV c.K "eliminated" "eliminated" Rc .none c.f52 c.d52
 m53:mI9 c.mg "solved" c.f53
 F53:aV c.K "solved" "solved" zH .none c.f53 c.d53
 m54:mI9 c.mg "refuse_unanswered" c.f54
 F54:aV c.K "refuse_unanswered" "refuse_unanswered" Yn .none c.f54 c.d54
 m55:mI9 c.mg "flows_of" c.f55
 F55:aV c.K "flows_of" "flows_of" Gf .none c.f55 c.d55
 F56:aV c.K "__init__" "Answer.__init__" Gd .none c.f56 c.d56
 a57_0:W.findIn c.K (.ref c.c_Answer) "heights"=some (some (.ref c.f57))
 i57:W.isFn c.K (.ref c.f57)=true
 F57:aV c.K "heights" "Answer.heights" Nd .none c.f57 c.d57
 a58_0:W.findIn c.K (.ref c.c_Net) "copy"=some (some (.ref c.f58))
 i58:W.isFn c.K (.ref c.f58)=true
 F58:aV c.K "copy" "Net.copy" Sw .none c.f58 c.d58
 a59_0:W.findIn c.K (.ref c.c_Net) "count"=some (some (.ref c.f59))
 i59:W.isFn c.K (.ref c.f59)=true
 F59:aV c.K "count" "Net.count" Gw .none c.f59 c.d59
 m60:mI9 c.mg "refuse_number" c.f60
 F60:aV c.K "refuse_number" "refuse_number" sRN .none c.f60 c.d60
 m61:mI9 c.mg "block_of" c.f61
 F61:aV c.K "block_of" "block_of" Zu .none c.f61 c.d61
 m62:mI9 c.mg "heights_by" c.f62
 F62:aV c.K "heights_by" "heights_by" Yd .none c.f62 c.d62
 m63:mI9 c.mg "pushed_heights" c.f63
 F63:aV c.K "pushed_heights" "pushed_heights" Zg .none c.f63 c.d63
 m64:mI9 c.mg "held_heights" c.f64
 F64:aV c.K "held_heights" "held_heights" Zh .none c.f64 c.d64
 m65:mI9 c.mg "shape_of" c.f65
 F65:aV c.K "shape_of" "shape_of" Ew .none c.f65 c.d65
 F66:aV c.K "__init__" "Watch.__init__" Rs .none c.f66 c.d66
 a67_0:W.findIn c.K (.ref c.c_Watch) "heights"=some (some (.ref c.f67))
 i67:W.isFn c.K (.ref c.f67)=true
 F67:aV c.K "heights" "Watch.heights" Pg .none c.f67 c.d67
 m68:mI9 c.mg "_law_draw" c.f68
 F68:aV c.K "_law_draw" "_law_draw" Od .none c.f68 c.d68
 m69:mI9 c.mg "_law_mix" c.f69
 F69:aV c.K "_law_mix" "_law_mix" zL .none c.f69 c.d69
 m70:mI9 c.mg "_law_lowest" c.f70
 F70:aV c.K "_law_lowest" "_law_lowest" Bj .none c.f70 c.d70
 m71:mI9 c.mg "_law_plus" c.f71
 F71:aV c.K "_law_plus" "_law_plus" Ha .none c.f71 c.d71
 m72:mI9 c.mg "_law_less" c.f72
 F72:aV c.K "_law_less" "_law_less" Ga .none c.f72 c.d72
 m73:mI9 c.mg "_law_net" c.f73
 F73:aV c.K "_law_net" "_law_net" Ep .none c.f73 c.d73
 m74:mI9 c.mg "_law_kinds" c.f74
 F74:aV c.K "_law_kinds" "_law_kinds" sKi .none c.f74 c.d74
 m75:mI9 c.mg "_law_joined" c.f75
 F75:aV c.K "_law_joined" "_law_joined" Sm .none c.f75 c.d75
 m76:mI9 c.mg "_law_first_ring" c.f76
 F76:aV c.K "_law_first_ring" "_law_first_ring" sFR .none c.f76 c.d76
 m77:mI9 c.mg "_law_apart" c.f77
 F77:aV c.K "_law_apart" "_law_apart" sAp .none c.f77 c.d77
 m78:mI9 c.mg "_law_of_the_net" c.f78
 F78:aV c.K "_law_of_the_net" "_law_of_the_net" sOf .none c.f78 c.d78
 m79:mI9 c.mg "_law_rows" c.f79
 F79:aV c.K "_law_rows" "_law_rows" sRw .none c.f79 c.d79
 m80:mI9 c.mg "_law_refusal" c.f80
 F80:aV c.K "_law_refusal" "_law_refusal" Zj .none c.f80 c.d80
 m81:mI9 c.mg "_law_all" c.f81
 F81:aV c.K "_law_all" "_law_all" Zd .none c.f81 c.d81
 m82:mI9 c.mg "law" c.f82
 l82:c.K.lookup c.f82=some ⟨c.oc82,c.od82,.func (W.fnOf "law" "law" (dY yX) (cU yX) (aH yX) .none c.kV82 c.dc82 c.pm82 c.an82 c.cd82 c.ct82),c.sl82⟩
 c82:W.codeIn c.K c.cd82 "law"=true
 k82:kI9 c.K c.f82
 mv_ONE:mI9 c.mg "ONE" c.aO
 mv_NOUGHT:mI9 c.mg "NOUGHT" c.aN
 mv_JOINING_WORDS:mI9 c.mg "JOINING_WORDS" c.aJ
 mv_MOST_POINTS:c.mg "MOST_POINTS"=some (.int 20 c.tM)
 mv_MOST_ROWS:c.mg "MOST_ROWS"=some (.int 40 c.tR)
 lG:c.K.lookup c.c_Ring=some (excClassObj c.nG c.qG c.c_Ring c.NG c.bsG (.ref c.c_OhmError :: qY) true c.snG c.suG c.abG c.coG c.ddG c.k0G c.k1G c.k2G c.k3G c.k5G "ValueError.__new__")
 lE:c.K.lookup c.c_OhmError=some (excClassObj c.nE c.qE c.c_OhmError c.NE c.bsE qY c.hdE c.snE c.suE c.abE c.coE c.ddE c.k0E c.k1E c.k2E c.k3E c.k5E "ValueError.__new__")
 x1_NoPoint:W.excIn c.K c.c_NoPoint qY "ValueError.__new__"=true
 x1_NoRow:W.excIn c.K c.c_NoRow qY "ValueError.__new__"=true
 tF:W.kitAny c.K (.ref c.c_Floats) [.ref c.c_NoNumber,.ref c.c_NoPoint,.ref c.c_NoSize,.ref c.c_NoRow,.ref c.c_NoWord,.ref c.c_NoName,.ref c.c_NoStreams,.ref c.c_NoRoad,.ref c.c_TooMany,.ref c.c_Lame,.ref c.c_Ring,.ref c.c_Held]=some false
 tG:W.kitAny c.K (.ref c.c_Ring) [.ref c.c_NoNumber,.ref c.c_NoPoint,.ref c.c_NoSize,.ref c.c_NoRow,.ref c.c_NoWord,.ref c.c_NoName,.ref c.c_NoStreams,.ref c.c_NoRoad,.ref c.c_TooMany,.ref c.c_Lame,.ref c.c_Floats,.ref c.c_Held]=some false
 tP:W.kitAny c.K (.ref c.c_NoRow) [.ref c.c_NoNumber,.ref c.c_NoPoint,.ref c.c_NoSize,.ref c.c_NoWord,.ref c.c_NoName,.ref c.c_NoStreams,.ref c.c_NoRoad,.ref c.c_TooMany,.ref c.c_Lame,.ref c.c_Ring,.ref c.c_Floats,.ref c.c_Held]=some false
 vF:W.kitOne c.K (.ref c.c_Floats) (.type "ValueError")=some true
 vG:W.kitOne c.K (.ref c.c_Ring) (.type "ValueError")=some true
 vP:W.kitOne c.K (.ref c.c_NoRow) (.type "ValueError")=some true
 x2_Floats:W.findIn c.K (.ref c.c_Floats) "__getattribute__"=some (some (.builtin "BaseException.__getattribute__"))
 x3_Floats:W.findIn c.K (.ref c.c_Floats) "__getattr__"=some none
 x4_Floats:W.mroIn c.K c.c_Floats (.type "BaseException")=some true
 x5_Floats:W.mroIn c.K c.c_Floats (.type "object")=some true
 x6_Floats:W.findIn c.K (.ref c.c_Floats) "__class__"=some (some (.builtin "object.__class__"))
 x7_Floats:W.specialIn c.K (.builtin "object.__class__") "__get__"=some (some (.builtin "getset_descriptor.__get__"))
 x8_Floats:W.takesIn c.K (.builtin "object.__class__")=some true
 x9_Floats:(W.clsIn c.K c.c_Floats).isSome=true
 x2_Ring:W.findIn c.K (.ref c.c_Ring) "__getattribute__"=some (some (.builtin "BaseException.__getattribute__"))
 x3_Ring:W.findIn c.K (.ref c.c_Ring) "__getattr__"=some none
 x4_Ring:W.mroIn c.K c.c_Ring (.type "BaseException")=some true
 x5_Ring:W.mroIn c.K c.c_Ring (.type "object")=some true
 x6_Ring:W.findIn c.K (.ref c.c_Ring) "__class__"=some (some (.builtin "object.__class__"))
 x7_Ring:W.specialIn c.K (.builtin "object.__class__") "__get__"=some (some (.builtin "getset_descriptor.__get__"))
 x8_Ring:W.takesIn c.K (.builtin "object.__class__")=some true
 x9_Ring:(W.clsIn c.K c.c_Ring).isSome=true
 x2_NoRow:W.findIn c.K (.ref c.c_NoRow) "__getattribute__"=some (some (.builtin "BaseException.__getattribute__"))
 x3_NoRow:W.findIn c.K (.ref c.c_NoRow) "__getattr__"=some none
 x4_NoRow:W.mroIn c.K c.c_NoRow (.type "BaseException")=some true
 x5_NoRow:W.mroIn c.K c.c_NoRow (.type "object")=some true
 x6_NoRow:W.findIn c.K (.ref c.c_NoRow) "__class__"=some (some (.builtin "object.__class__"))
 x7_NoRow:W.specialIn c.K (.builtin "object.__class__") "__get__"=some (some (.builtin "getset_descriptor.__get__"))
 x8_NoRow:W.takesIn c.K (.builtin "object.__class__")=some true
 x9_NoRow:(W.clsIn c.K c.c_NoRow).isSome=true
 lJ:c.K.lookup c.aJ=some ⟨.type "tuple",c.dJ,.seq #[.str "piece" c.tj0,.str "hold" c.tj1] c.nJ,c.sJ⟩
 n_len:c.mg "len"=none
 n_range:c.mg "range"=none
 n_str:c.mg "str"=none
 n_tuple:c.mg "tuple"=none
 n_list:c.mg "list"=none
 n_all:c.mg "all"=none
 n_zip:c.mg "zip"=none
 n_enumerate:c.mg "enumerate"=none
 n_ValueError:c.mg "ValueError"=none
 bl:Bl c.mg
 T:RT c.K c.mg c.c_Row (kd3 c.c_Piece c.c_Push c.c_Hold)
 fN:∀H:Hp,Fq c.K H c.aN (0,1)
 fO:∀H:Hp,Fq c.K H c.aO (1,1)
 NTx:NT c.K c.mg c.c_Net
 ABx:AB c.K c.mg c.c_Answer
 WBx:WB c.K c.mg c.c_Watch
 hm:∀(i:Nat) (n:Str),kNm[i]?=some n->∃ (c0:Addr),[c.c_NoNumber,c.c_NoPoint,c.c_NoSize,c.c_NoRow,c.c_NoWord,c.c_NoName,c.c_NoStreams,c.c_NoRoad,c.c_TooMany,c.c_Lame,c.c_Ring,c.c_Floats,c.c_Held][i]?=some c0 ∧ c.mg n=some (.ref c0)
 oc:OhC c.K c.mg c.c_NoRow c.c_Ring c.c_Floats
 fc:FlC c.K c.c_Ring c.c_Floats
 qIF:kN c.K c.c_Floats c.c_OhmError c.f1
 qIG:kN c.K c.c_Ring c.c_OhmError c.f2
 cI:Nh c.K c.c_OhmError
 qFF:Ae c.K c.c_Floats ("points")
 qGr:Ae c.K c.c_Ring ("ring")
 qGt:Ae c.K c.c_Ring ("total")
 MK:∀k:Kd,Mk c.K (kd3 c.c_Piece c.c_Push c.c_Hold k) c.f13
 MN:Mk c.K c.c_Net c.f29
 MA:Mk c.K c.c_Answer c.f56
 MWa:Mk c.K c.c_Watch c.f66
def OZ (c:CZ)(b:Heap):Prop:=aK c.P c.w c.K c.mg b CX0 14 c.f82 (W.fnOf ("law") ("law") (dY yX) (cU yX) (aH yX) .none c.kV82 c.dc82 c.pm82 c.an82 c.cd82 c.ct82) ["_law_script"] (Ct c.K)
noncomputable def TZ:CZ×Heap:=Classical.epsilon fun x=>GZ x.1/\¬OZ x.1 x.2
@[irreducible] noncomputable def Z:CZ:=TZ.1
@[irreducible] noncomputable def ZB:Heap:=TZ.2
abbrev FZ:=aK Z.P Z.w Z.K Z.mg ZB
abbrev DZ:=D9 Z.P Z.w Z.K Z.mg ZB
section
open Shp
open GZ hiding mk
variable [GZ Z]
theorem b1:aL Z.K Z.d1 ["self","points"] []:=F1.b2 "self" "points" (by intros;rfl)
theorem b2:aL Z.K Z.d2 ["self","ring","total"] []:=F2.b3 "self" "ring" "total" (by intros;rfl)
theorem F6:aV Z.K ("fraction") ("fraction") lU (.ref Z.T6) Z.f6 (W.fnOf ("fraction") ("fraction") (dY lU) (cU lU) (aH lU) (.ref Z.T6) Z.kV6 Z.dc6 Z.pm6 Z.an6 Z.cd6 Z.ct6):=tQ (st:=lU) l6 c6 k6
theorem b6:aL Z.K (W.fnOf ("fraction") ("fraction") (dY lU) (cU lU) (aH lU) (.ref Z.T6) Z.kV6 Z.dc6 Z.pm6 Z.an6 Z.cd6 Z.ct6) ["top","bottom"] []:=fun s us XX hl=>match us,hl with | [_,_],_=>W.binds_K (fd:=W.fnOf "fraction" "fraction" (dY lU) (cU lU) (aH lU) (.ref Z.T6) Z.kV6 Z.dc6 Z.pm6 Z.an6 Z.cd6 Z.ct6) XX rfl lt6 rfl rfl rfl
theorem bd6:aL Z.K (W.fnOf ("fraction") ("fraction") (dY lU) (cU lU) (aH lU) (.ref Z.T6) Z.kV6 Z.dc6 Z.pm6 Z.an6 Z.cd6 Z.ct6) ["top","bottom"] [.int 1 Z.tk6]:=fun s us XX hl=>match us,(show us.length=1 by simp at hl;lia) with | [_],_=>W.binds_K (fd:=W.fnOf "fraction" "fraction" (dY lU) (cU lU) (aH lU) (.ref Z.T6) Z.kV6 Z.dc6 Z.pm6 Z.an6 Z.cd6 Z.ct6) XX rfl lt6 rfl rfl rfl
theorem b13:aL Z.K Z.d13 ["self","start","goal","size"] []:=F13.b4 "self" "start" "goal" "size" (by intros;rfl)
theorem b14:aL Z.K Z.d14 ["self"] []:=F14.b1 "self" (by intros;rfl)
theorem b15:aL Z.K Z.d15 ["self"] []:=F15.b1 "self" (by intros;rfl)
theorem b16:aL Z.K Z.d16 ["self"] []:=F16.b1 "self" (by intros;rfl)
theorem b17:aL Z.K Z.d17 ["self"] []:=F17.b1 "self" (by intros;rfl)
theorem b18:aL Z.K Z.d18 ["self"] []:=F18.b1 "self" (by intros;rfl)
theorem b19:aL Z.K Z.d19 ["self"] []:=F19.b1 "self" (by intros;rfl)
theorem b20:aL Z.K Z.d20 ["self"] []:=F20.b1 "self" (by intros;rfl)
theorem b22:aL Z.K Z.d22 ["self","fall","held"] []:=F22.b3 "self" "fall" "held" (by intros;rfl)
theorem b23:aL Z.K Z.d23 ["self","fall","held"] []:=F23.b3 "self" "fall" "held" (by intros;rfl)
theorem b24:aL Z.K Z.d24 ["self","fall","held"] []:=F24.b3 "self" "fall" "held" (by intros;rfl)
theorem b28:aL Z.K Z.d28 ["some","many"] []:=F28.b2 "some" "many" (by intros;rfl)
theorem b29:aL Z.K Z.d29 ["self","many"] []:=F29.b2 "self" "many" (by intros;rfl)
theorem b30:aL Z.K Z.d30 ["self"] []:=F30.b1 "self" (by intros;rfl)
theorem b31:aL Z.K Z.d31 ["self"] []:=F31.b1 "self" (by intros;rfl)
theorem b32:aL Z.K Z.d32 ["self","row"] []:=F32.b2 "self" "row" (by intros;rfl)
theorem b33:aL Z.K Z.d33 ["self"] []:=F33.b1 "self" (by intros;rfl)
theorem F40:aV Z.K ("rings") ("rings") iO (.ref Z.T40) Z.f40 (W.fnOf ("rings") ("rings") (dY iO) (cU iO) (aH iO) (.ref Z.T40) Z.kV40 Z.dc40 Z.pm40 Z.an40 Z.cd40 Z.ct40):=tQ (st:=iO) l40 c40 k40
theorem b40:aL Z.K (W.fnOf ("rings") ("rings") (dY iO) (cU iO) (aH iO) (.ref Z.T40) Z.kV40 Z.dc40 Z.pm40 Z.an40 Z.cd40 Z.ct40) ["net","words"] []:=fun s us XX hl=>match us,hl with | [_,_],_=>W.binds_K (fd:=W.fnOf "rings" "rings" (dY iO) (cU iO) (aH iO) (.ref Z.T40) Z.kV40 Z.dc40 Z.pm40 Z.an40 Z.cd40 Z.ct40) XX rfl lt40 rfl rfl rfl
theorem bd40:aL Z.K (W.fnOf ("rings") ("rings") (dY iO) (cU iO) (aH iO) (.ref Z.T40) Z.kV40 Z.dc40 Z.pm40 Z.an40 Z.cd40 Z.ct40) ["net","words"] [.none]:=fun s us XX hl=>match us,(show us.length=1 by simp at hl;lia) with | [_],_=>W.binds_K (fd:=W.fnOf "rings" "rings" (dY iO) (cU iO) (aH iO) (.ref Z.T40) Z.kV40 Z.dc40 Z.pm40 Z.an40 Z.cd40 Z.ct40) XX rfl lt40 rfl rfl rfl
theorem b54:aL Z.K Z.d54 ["net"] []:=F54.b1 "net" (by intros;rfl)
theorem b56:aL Z.K Z.d56 ["self","net"] []:=F56.b2 "self" "net" (by intros;rfl)
theorem b57:aL Z.K Z.d57 ["self"] []:=F57.b1 "self" (by intros;rfl)
theorem b58:aL Z.K Z.d58 ["self"] []:=F58.b1 "self" (by intros;rfl)
theorem b59:aL Z.K Z.d59 ["self"] []:=F59.b1 "self" (by intros;rfl)
theorem b60:aL Z.K Z.d60 ["k","count"] []:=F60.b2 "k" "count" (by intros;rfl)
theorem b61:aL Z.K Z.d61 ["net","k"] []:=F61.b2 "net" "k" (by intros;rfl)
theorem b65:aL Z.K Z.d65 ["net","k"] []:=F65.b2 "net" "k" (by intros;rfl)
theorem b66:aL Z.K Z.d66 ["self","net"] []:=F66.b2 "self" "net" (by intros;rfl)
theorem b67:aL Z.K Z.d67 ["self"] []:=F67.b1 "self" (by intros;rfl)
theorem F82:aV Z.K ("law") ("law") yX .none Z.f82 (W.fnOf ("law") ("law") (dY yX) (cU yX) (aH yX) .none Z.kV82 Z.dc82 Z.pm82 Z.an82 Z.cd82 Z.ct82):=tQ (st:=yX) l82 c82 k82
theorem fJ0:∀H:Hp,SqT Z.K H Z.aJ [V.str ("piece"),V.str ("hold")]:=fun H=>.inr ⟨_,_,_,lJ,rfl,rfl,(zl9 2),.cons ⟨_,rfl⟩ (.cons ⟨_,rfl⟩ .nil)⟩
theorem kG:KiC Z.K Z.mg Z.c_Ring 10:=Ft ⟨x2_Ring,x3_Ring,x4_Ring,x5_Ring,x6_Ring,x7_Ring,x8_Ring,x9_Ring⟩ vG hm rfl tG
theorem kF:KiC Z.K Z.mg Z.c_Floats 11:=Ft ⟨x2_Floats,x3_Floats,x4_Floats,x5_Floats,x6_Floats,x7_Floats,x8_Floats,x9_Floats⟩ vF hm rfl tF
theorem kP:KiC Z.K Z.mg Z.c_NoRow 3:=Ft ⟨x2_NoRow,x3_NoRow,x4_NoRow,x5_NoRow,x6_NoRow,x7_NoRow,x8_NoRow,x9_NoRow⟩ vP hm rfl tP
theorem R1:FZ CX0 1 Z.f1 Z.d1 ["self","points"] (zG Z.K Z.c_Floats):=by
 refine F1.ok9 Ue fun cdv A outer s H vs Q E hr h=>?_;obtain⟨x,l,xs,rfl,hx,hS,h1000,q⟩:=h;refine⟨_,(aD (bX (Fp rfl mc_OhmError cI (aA (pv 0) (aA (gP oO rfl n_tuple PyProof.Rows.boot_tuple (aA (pv 1) aC)) aC)))) (aF (Tq (pv 0) (gP gE rfl n_list PyProof.Rows.boot_list (aA (pv 1) aC)) rfl))),?_⟩;refine⟨_,rfl,_,rfl,l,xs,rfl,.inl ⟨hS,fun t ht=>?_⟩⟩;have s1:=aE ht (.tup xs);have nt:t≠x:=fun z=>by rw[z,hx] at ht;cases ht
 generalize upd H t (.tup xs)=H1 at s1 ⊢;refine⟨x,Z.c_Floats,Z.c_OhmError,Z.f1,none,_,rfl,s1 _ _ hx,qIF,?_⟩;refine⟨_,rfl,l,xs,rfl,.inl (s1.seq hS),fun l2 hl2=>?_⟩;have s2:=aE hl2 (.lst xs);have e2:upd H1 l2 (.lst xs) l2=some (.lst xs):=aB;have x1:=s1 _ _ hx;have n2:l2≠x:=fun z=>by rw[z,x1] at hl2;cases hl2
 generalize upd H1 l2 (.lst xs)=H2 at s2 e2 ⊢;have x2:=s2 _ _ x1;refine⟨_,rfl,x,Z.c_Floats,Z.c_OhmError,Z.f1,rfl,x2,qIF,qFF,fun dx hdx=>?_⟩;have nx:dx≠x:=fun z=>by rw[z,x2] at hdx;cases hdx
 have nl:l2≠dx:=fun z=>by rw[z] at e2;rw[e2] at hdx;cases hdx
 have s02:=s1.trans s2;refine q dx l2 _ (s02.free hdx) (s1.free hl2) nx n2 (fun b' o e nb=>?_) aB ?_ ?_
 ·rw[aQ nb,aQ (fun z=>by rw[z,s02.free hdx] at e;cases e)];exact s02 _ _ e
 ·rw[aQ nx,aB]
 ·rw[aQ n2,aQ nl];exact e2
theorem R2:FZ CX0 1 Z.f2 Z.d2 ["self","ring","total"] (wI Z.K Z.c_Ring):=by
 refine F2.ok9 Nu fun _ _ _ s H _ Q E hr h=>?_;obtain⟨x,l,t0,xs,rfl,hx,hS,h1000,q⟩:=h;refine⟨_,(aD (bX (Ec rfl mc_OhmError cI (aA (pv 0) (aA (gP oO rfl n_tuple PyProof.Rows.boot_tuple (aA (pv 1) aC)) (aA (pv 2) aC))))) (aD (Pd (pv 0) (gP gE rfl n_list PyProof.Rows.boot_list (aA (pv 1) aC)) rfl) (aF (Sq (pv 0) (pv 2) rfl)))),?_⟩;refine⟨_,rfl,_,rfl,l,xs,rfl,.inl ⟨hS,fun t ht=>?_⟩⟩;have s1:=aE ht (.tup xs);have nt:t≠x:=fun z=>by rw[z,hx] at ht;cases ht
 generalize upd H t (.tup xs)=H1 at s1 ⊢;refine⟨_,rfl,x,Z.c_Ring,Z.c_OhmError,Z.f2,none,_,_,rfl,s1 _ _ hx,qIG,?_⟩;refine⟨_,rfl,l,xs,rfl,.inl (s1.seq hS),fun l2 hl2=>?_⟩;have s2:=aE hl2 (.lst xs);have e2:upd H1 l2 (.lst xs) l2=some (.lst xs):=aB;have x1:=s1 _ _ hx;have n2:l2≠x:=fun z=>by rw[z,x1] at hl2;cases hl2
 generalize upd H1 l2 (.lst xs)=H2 at s2 e2 ⊢;have x2:=s2 _ _ x1;refine⟨_,rfl,x,Z.c_Ring,Z.c_OhmError,Z.f2,rfl,x2,qIG,qGr,fun dx hdx=>?_⟩;have nx:dx≠x:=fun z=>by rw[z,x2] at hdx;cases hdx
 have nl:l2≠dx:=fun z=>by rw[z] at e2;rw[e2] at hdx;cases hdx
 have s02:=s1.trans s2;refine⟨_,rfl,_,rfl,x,Z.c_Ring,Z.c_OhmError,Z.f2,dx,"ring",.ref l2,rfl,aB,by rw[aQ nx,aB],by decide,qIG,qGt,?_⟩;refine q dx l2 _ (s02.free hdx) (s1.free hl2) nx n2 (fun b' o e nb=>?_) ?_ aB ?_
 ·have nd:b'≠dx:=fun z=>by rw[z,s02.free hdx] at e;cases e
  rw[aQ nd,aQ nb,aQ nd];exact s02 _ _ e
 ·rw[aQ (Ne.symm nx),aB]
 ·rw[aQ nl,aQ n2,aQ nl];exact e2
theorem Y3:DZ 1 Z.f3 Z.d3 ["thing"] (oC Z.K) "is_whole":=by
 refine⟨?_,F3.b1 _ (by intros;rfl),F3.kp,m3⟩
 refine F3.ok9 Tr fun _ _ _ s H _ Q E hr h=>?_;obtain⟨x,rfl,h⟩:=h;refine⟨_,aF (aW (jX (kR (i:=0) rfl (Or.inl rfl) bl.isi bl.int rfl rfl PyProof.Rows.boot_int) (nV (Zl (kR (i:=0) rfl (Or.inl rfl) bl.isi bl.bool rfl rfl PyProof.Rows.boot_bool))))),?_⟩;rcases h with ⟨i,rfl,q⟩ | ⟨t,ty,nw,q⟩
 ·exact⟨_,_,_,rfl,.of (.int i),rfl,_,rfl,gC ⟨_,_,false,rfl,.of (.int i),(by with_unfolding_all rfl),_,rfl,q⟩⟩
 ·rcases nw with rfl | rfl | rfl | rfl | rfl
  ·exact⟨_,_,true,rfl,.of ty,(by with_unfolding_all rfl),_,rfl,gC ⟨_,_,_,rfl,.of ty,rfl,_,rfl,q⟩⟩
  all_goals exact⟨_,_,false,rfl,.of ty,(by with_unfolding_all rfl),_,rfl,iA q⟩
theorem Y4:DZ 1 Z.f4 Z.d4 ["one","other"] Oc "greatest_common":=by
 refine⟨?_,F4.b2 _ _ (by intros;rfl),F4.kp,m4⟩
 refine F4.ok9 Vk fun _ _ _ s H _ Q E hr h=>?_;obtain⟨x,y,rfl,q⟩:=h;refine⟨_,aD (uV PassesOwn.never (bA oQ (pv 1) aG (bH _)) (aD (aR (i:=2) Vk.nd rfl (Or.inl rfl) (bC qA (pv 0) (pv 1)))
  (aD (aR (i:=0) Vk.nd rfl (Or.inl rfl) (pv 1)) (aF (aR (i:=1) Vk.nd rfl (Or.inl rfl) (pv 2))))))
  (aF (aW (bM vC rfl bl.abs PyProof.Rows.boot_abs (aA (pv 0) aC)))),?_⟩
 refine tZ (fun σ H'=>H'=H/\∃u v z,σ=[some (.int u),some (.int v),z]/\gc u v=gc x y) (fun σ _=>match σ with | [_,some (.int v),_]=>v.natAbs | _=>0) ⟨rfl,x,y,none,rfl,rfl⟩ ?_ ?_
 ·rintro σ H' ⟨rfl,u,v,z,rfl,e⟩;refine⟨_,rfl,rfl,_,rfl,?_⟩;refine zP (fun c=>?_) (fun c=>?_)
  ·have hv:v≠0:=by intro q;subst q;simp at c
   refine⟨_,rfl,_,rfl,_,_,rfl,rfl,hv,_,rfl,_,rfl,⟨rfl,v,Int.fmod u v,_,rfl,(Kh u v).trans e⟩,xC hv⟩
  ·have hv:v=0:=by
    simp at c;exact c
   subst hv;refine⟨_,rfl,_,rfl,?_⟩;rw[<- Ka,e];exact q
 ·rintro σ H Q Q' m ⟨v,h1,h2,k,h3,h4⟩;exact⟨v,h1,h2,k,h3,m _ _ h4⟩
theorem Y5:DZ 1 Z.f5 Z.d5 ["one","other"] (zD Z.K) "under":=by
 refine⟨?_,F5.b2 _ _ (by intros;rfl),F5.kp,m5⟩
 refine F5.ok9 Uk fun _ _ _ s H _ Q E hr h=>?_;obtain⟨a,b,p,q,n,m,rfl,ha,hb,bp,bq,hn,z⟩:=h;refine⟨_,aF (aW (gB yT (bC cW (aU aY (pv 0) aG (fun _ _=>rfl)) (aU aY (pv 1) aG (fun _ _=>rfl))) (bC cW (aU aY (pv 1) aG (fun _ _=>rfl)) (aU aY (pv 0) aG (fun _ _=>rfl))) (bH _))),?_⟩;exact eY rfl ha (cQ rfl hb (cV bp.a bq.b (by lia) (by lia) (eY rfl hb (cQ rfl ha (cV bq.a bp.b (by lia) (by lia) ⟨_,_,rfl,rfl,z⟩)))))
theorem Y6:DZ 2 Z.f6 (W.fnOf ("fraction") ("fraction") (dY lU) (cU lU) (aH lU) (.ref Z.T6) Z.kV6 Z.dc6 Z.pm6 Z.an6 Z.cd6 Z.ct6) ["top","bottom"] iR "fraction":=by
 refine⟨?_,b6,F6.kp,m6⟩
 refine F6.ok9 Eu fun _ _ _ s H _ Q E hr h=>?_;obtain⟨t,b,n,rfl,hb,hB,hn,q⟩:=h;refine⟨_,aD (cJ (PW.pt (yB (gX (fB (d9 Y3 hr rfl (aA (pv 0) aC)))) (yB (gX (fB (d9 Y3 hr rfl (aA (pv 1) aC)))) (zU (bA eV (pv 1) aG (bH _)))))) Mj bO)
  (aD (aR (i:=2) Eu.nd rfl (Or.inl rfl) (d9 Y4 hr rfl (aA (pv 0) (aA (pv 1) aC))))
  (aD (cJ (bA yT (pv 1) aG (bH _)) (aF (aR (i:=2) Eu.nd rfl (Or.inl rfl) (Cd wF (pv 2)))) bO)
  (aF (aW (cS (aA (bC jK (pv 0) (pv 2)) (aA (bC jK (pv 1) (pv 2)) aC))))))),?_⟩
 have hd:=rJ (t:=t) hb;have hdB:Mq.B n (dvr t b):=hB.le (Hh hb);have c0:decide (V.int b=V.int 0)=false:=decide_eq_false (fun z=>hb (by cases z;rfl));refine⟨_,rfl,_,rfl,.inl ⟨t,rfl,_,rfl,iA ⟨_,rfl,_,rfl,.inl ⟨b,rfl,_,rfl,iA ⟨_,rfl,rfl,_,rfl,?_⟩⟩⟩⟩⟩;rw[c0];refine iA ⟨_,rfl,_,rfl,t,b,rfl,?_⟩;refine⟨_,rfl,_,_,rfl,rfl,_,rfl,?_⟩;refine zP (fun c=>?_) (fun c=>?_)
 ·have hlt:b < 0:=of_decide_eq_true c;have e:dvr t b=-gc t b:=by unfold dvr;rw[if_pos hlt]
  rw[e] at hd hdB;have q':Dn H Q (t.fdiv (-gc t b),b.fdiv (-gc t b)):=by
   have z:=q;unfold red at z;rw[e] at z;exact z
  refine⟨_,rfl,_,rfl,?_⟩;refine⟨_,rfl,_,rfl,?_⟩;refine fY hd hdB hn ⟨_,rfl,_,rfl,fY hd hdB hn ⟨zl9 2,fun p hp=>?_⟩⟩;exact q' p _ (aE hp _) aB
 ·have hlt:¬b < 0:=fun z=>c (decide_eq_true z);have e:dvr t b=gc t b:=by unfold dvr;rw[if_neg hlt]
  rw[e] at hd hdB;have q':Dn H Q (t.fdiv (gc t b),b.fdiv (gc t b)):=by
   have z:=q;unfold red at z;rw[e] at z;exact z
  refine⟨_,rfl,_,rfl,?_⟩;refine fY hd hdB hn ⟨_,rfl,_,rfl,fY hd hdB hn ⟨zl9 2,fun p hp=>?_⟩⟩;exact q' p _ (aE hp _) aB
theorem Y7:DZ 3 Z.f7 Z.d7 ["one","other"] (iN Z.K Mq.minus) "minus":=by
 refine⟨?_,F7.b2 _ _ (by intros;rfl),F7.kp,m7⟩
 refine F7.ok9 Ua fun _ _ _ s H _ Q E hr h=>?_;obtain⟨a,b,p,q,n,m,rfl,ha,hb,lp,lq,bp,bq,hn,z⟩:=h;refine⟨_,aF (aW (d9 Y6 hr rfl (aA
  (bC lL (bC cW (aU aY (pv 0) aG (fun _ _=>rfl)) (aU aY (pv 1) aG (fun _ _=>rfl))) (bC cW (aU aY (pv 1) aG (fun _ _=>rfl)) (aU aY (pv 0) aG (fun _ _=>rfl))))
  (aA (bC cW (aU aY (pv 0) aG (fun _ _=>rfl)) (aU aY (pv 1) aG (fun _ _=>rfl))) aC)))),?_⟩
 refine eY rfl ha (cQ rfl hb (cV bp.a bq.b (by lia) (by lia) (eY rfl hb (cQ rfl ha (cV bq.a bp.b (by lia) (by lia) ⟨_,_,rfl,rfl,?_⟩)))));refine cQ rfl ha (cQ rfl hb (cV bp.b bq.b (by lia) (by lia) ⟨_,_,n+m,rfl,gU lp lq,bp.b.mul bq.b,by lia,z⟩))
theorem Y8:DZ 3 Z.f8 Z.d8 ["one","other"] (iN Z.K Mq.jO) "plus":=by
 refine⟨?_,F8.b2 _ _ (by intros;rfl),F8.kp,m8⟩
 refine F8.ok9 Zw fun _ _ _ s H _ Q E hr h=>?_;obtain⟨a,b,p,q,n,m,rfl,ha,hb,lp,lq,bp,bq,hn,z⟩:=h;refine⟨_,aF (aW (d9 Y6 hr rfl (aA
  (bC gZ (bC cW (aU aY (pv 0) aG (fun _ _=>rfl)) (aU aY (pv 1) aG (fun _ _=>rfl))) (bC cW (aU aY (pv 1) aG (fun _ _=>rfl)) (aU aY (pv 0) aG (fun _ _=>rfl))))
  (aA (bC cW (aU aY (pv 0) aG (fun _ _=>rfl)) (aU aY (pv 1) aG (fun _ _=>rfl))) aC)))),?_⟩
 refine eY rfl ha (cQ rfl hb (cV bp.a bq.b (by lia) (by lia) (eY rfl hb (cQ rfl ha (cV bq.a bp.b (by lia) (by lia) ⟨_,_,rfl,rfl,?_⟩)))));refine cQ rfl ha (cQ rfl hb (cV bp.b bq.b (by lia) (by lia) ⟨_,_,n+m,rfl,gU lp lq,bp.b.mul bq.b,by lia,z⟩))
theorem Y9:DZ 3 Z.f9 Z.d9 ["one","other"] (iN Z.K Mq.rV) "times":=by
 refine⟨?_,F9.b2 _ _ (by intros;rfl),F9.kp,m9⟩
 refine F9.ok9 Tk fun _ _ _ s H _ Q E hr h=>?_;obtain⟨a,b,p,q,n,m,rfl,ha,hb,lp,lq,bp,bq,hn,z⟩:=h;refine⟨_,aF (aW (d9 Y6 hr rfl (aA
  (bC cW (aU aY (pv 0) aG (fun _ _=>rfl)) (aU aY (pv 1) aG (fun _ _=>rfl)))
  (aA (bC cW (aU aY (pv 0) aG (fun _ _=>rfl)) (aU aY (pv 1) aG (fun _ _=>rfl))) aC)))),?_⟩
 refine eY rfl ha (eY rfl hb (cV bp.a bq.a (by lia) (by lia) ?_));refine cQ rfl ha (cQ rfl hb (cV bp.b bq.b (by lia) (by lia) ⟨_,_,n+m,rfl,gU lp lq,bp.b.mul bq.b,by lia,z⟩))
theorem Y10:DZ 3 Z.f10 Z.d10 ["one","other"] (Bf Z.K) "over":=by
 refine⟨?_,F10.b2 _ _ (by intros;rfl),F10.kp,m10⟩
 refine F10.ok9 Zs fun _ _ _ s H _ Q E hr h=>?_;obtain⟨a,b,p,q,n,m,rfl,ha,hb,lp,lq,h0,bp,bq,hn,z⟩:=h;refine⟨_,(aD (cJ (bA eV (aU aY (pv 1) aG (fun _ _=>rfl)) aG (bH _)) (aF jG) bO)
  (aF (aW (d9 Y6 hr rfl (aA (bC cW (aU aY (pv 0) aG (fun _ _=>rfl)) (aU aY (pv 1) aG (fun _ _=>rfl))) (aA (bC cW (aU aY (pv 0) aG (fun _ _=>rfl)) (aU aY (pv 1) aG (fun _ _=>rfl))) aC)))))),?_⟩
 refine eY rfl hb ⟨rfl,_,rfl,?_⟩;rw[decide_eq_false (fun e=>absurd (show q.1=0 by injection e) (by lia))];refine iA ?_;refine eY rfl ha (cQ rfl hb (cV bp.a bq.b (by lia) (by lia) ?_));exact cQ rfl ha (eY rfl hb (cV bp.b bq.a (by lia) (by lia) ⟨_,_,n+m,rfl,Mq.tO lp (by lia),bp.b.mul bq.a,by lia,z⟩))
theorem Y11:DZ 4 Z.f11 Z.d11 ["some"] (Hj Z.K) "total":=by
 refine⟨?_,F11.b1 _ (by intros;rfl),F11.kp,m11⟩
 refine F11.ok9 tU fun cdv A outer s H vs Q E hr h=>?_;obtain⟨a,xs,ps,w0,rfl,hS,hF,hP,hW,hn,z⟩:=h;refine⟨_,aD (aR (i:=1) tU.nd rfl (Or.inl rfl) (dA (v:=.ref Z.aN) rfl mv_NOUGHT rfl))
  (aD (eZ PassesOwn.never rfl (cO (pv 0)) (aZ (i:=2) tU.nd rfl (Or.inl rfl)) (aF (aR (i:=1) tU.nd rfl (Or.inl rfl) (d9 Y8 hr rfl (aA (pv 1) (aA (pv 2) aC))))))
  (aF (aW (pv 1)))),?_⟩
 have hl:=hF.length;refine⟨_,rfl,a,rfl,⟨_,hS⟩,?_⟩;refine eK (xs:=xs) (fun i σ H'=>aS H H'/\∃r y,σ=[some (.ref a),some (.ref r),y]/\Fq Z.K H' r (tot (ps.take i))) ⟨aS.refl H,Z.aN,none,rfl,fN H⟩ (fun i σ H' _ h=>h.1.seq hS) ?_ ?_
 ·rintro i x σ H' hx ⟨sH,r,y,rfl,er⟩;obtain⟨ap,p,rfl,hp,fp⟩:=hF.get hx;have hi:i < ps.length:=(List.getElem?_eq_some_iff.mp hp).1;have mem:p∈ps:=mem_of_getElem? hp;have pt:Mq.Pos (ps.take i):=fun f hf=>hP f (mem_of_mem_take hf);obtain⟨w',n,hw',bn,hle⟩:=hW.at hp;have bt:=hw'.tot pt;refine⟨_,rfl,_,rfl,r,ap,tot (ps.take i),p,_,n,rfl,er,sH.fq fp,(Jy pt).pos,hP p mem,bt,bn,by lia,fun a1 H1 s1 e1=>?_⟩;refine⟨sH.trans s1,a1,_,rfl,?_⟩;have ee:ps.take (i+1)=ps.take i++[p]:=by rw[take_add_one,hp];rfl
  have et:tot (ps.take (i+1))=Mq.jO (tot (ps.take i)) p:=by
   rw[ee];unfold tot;rw[foldl_append];rfl
  rw[et];exact Fq.of e1
 ·rintro σ H' ⟨sH,r,y,rfl,er⟩;refine⟨_,rfl,?_⟩;refine z r H' sH ?_;rw[hl,take_length] at er;exact er
theorem Y12:DZ 2 Z.f12 Z.d12 ["thing"] (Hl Z.K) "is_fraction":=by
 refine⟨?_,F12.b1 _ (by intros;rfl),F12.kp,m12⟩
 refine F12.ok9 qk9 fun _ _ _ s H _ Q E hr h=>?_;obtain⟨v,o,rfl,hz,q⟩:=h;refine⟨_,(aD (cJ (PW.pt (yB (gX (fB (kR (i:=0) rfl (Or.inl rfl) bl.isi n_tuple rfl rfl PyProof.Rows.boot_tuple))) (zU (bA oQ (bM bU rfl n_len PySem.boot_len (aA (pv 0) aC)) aG (bH _))))) (aF (aW lW)) bO)
  (aD (cJ (PW.pt (yB (gX (fB (d9 Y3 hr rfl (aA (aU aY (pv 0) aG (fun _ _=>rfl)) aC)))) (zU (gX (fB (d9 Y3 hr rfl (aA (aU aY (pv 0) aG (fun _ _=>rfl)) aC))))))) (aF (aW lW)) bO)
  (aF (aW (jX (gB Mu (aU aY (pv 0) aG (fun _ _=>rfl)) aG (bH _)) (nV (gB eV (d9 Y4 hr rfl (aA (aU aY (pv 0) aG (fun _ _=>rfl)) (aA (aU aY (pv 0) aG (fun _ _=>rfl)) aC))) aG (bH _)))))))),?_⟩
 cases hz with
 |fr fa hp=>
  refine⟨_,_,true,rfl,.tup fa,rfl,_,rfl,iA ⟨_,rfl,_,_,rfl,.inr fa,rfl,_,rfl,iA ?_⟩⟩;refine eY rfl fa ⟨_,rfl,.inl ⟨_,rfl,_,rfl,iA (cQ rfl fa ⟨_,rfl,.inl ⟨_,rfl,_,rfl,iA ?_⟩⟩)⟩⟩;have h1:=hp.pos;refine cQ rfl fa ⟨_,_,rfl,rfl,_,rfl,ifT (decide_eq_true (by lia)) (eY rfl fa (cQ rfl fa ⟨_,_,rfl,rfl,?_⟩))⟩;rw[hp.one];exact q
 |ty h n=>exact⟨_,_,false,rfl,h,n,_,rfl,gC q⟩
 |len h=>exact⟨_,_,true,rfl,.tup h,rfl,_,rfl,iA ⟨_,rfl,_,_,rfl,.inr h,rfl,_,rfl,gC q⟩⟩
 |n0 h ty n=>
  refine⟨_,_,true,rfl,.tup h,rfl,_,rfl,iA ⟨_,rfl,_,_,rfl,.inr h,rfl,_,rfl,iA ?_⟩⟩;exact⟨_,rfl,_,_,0,_,rfl,rfl,h,rfl,_,rfl,.inr ⟨_,ty,n,_,rfl,gC q⟩⟩
 |n1 h ty n=>
  refine⟨_,_,true,rfl,.tup h,rfl,_,rfl,iA ⟨_,rfl,_,_,rfl,.inr h,rfl,_,rfl,iA ?_⟩⟩;exact⟨_,rfl,_,_,0,_,rfl,rfl,h,rfl,_,rfl,.inl ⟨_,rfl,_,rfl,iA ⟨_,rfl,_,_,1,_,rfl,rfl,h,rfl,_,rfl,.inr ⟨_,ty,n,_,rfl,gC q⟩⟩⟩⟩
 |fb fa c=>
  refine⟨_,_,true,rfl,.tup fa,rfl,_,rfl,iA ⟨_,rfl,_,_,rfl,.inr fa,rfl,_,rfl,iA ?_⟩⟩;refine eY rfl fa ⟨_,rfl,.inl ⟨_,rfl,_,rfl,iA (cQ rfl fa ⟨_,rfl,.inl ⟨_,rfl,_,rfl,iA ?_⟩⟩)⟩⟩;rcases c with c | ⟨c,d⟩
  ·exact cQ rfl fa ⟨_,_,rfl,rfl,_,rfl,ifF (decide_eq_false (by lia)) q⟩
  ·refine cQ rfl fa ⟨_,_,rfl,rfl,_,rfl,ifT (decide_eq_true c) (eY rfl fa (cQ rfl fa ⟨_,_,rfl,rfl,?_⟩))⟩;rw[decide_eq_false (fun e=>d (by injection e))];exact q
theorem R13:FZ CX0 1 Z.f13 Z.d13 ["self","start","goal","size"] (tT (kd3 Z.c_Piece Z.c_Push Z.c_Hold)):=by
 refine F13.ok9 Uv fun _ _ _ s H _ Q E hr h=>?_;obtain⟨x,dx,k,s,g,z,rfl,hx,q⟩:=h;refine⟨_,(aD (jE (pv 0) (pv 1) rfl) (aD (jE (pv 0) (pv 2) rfl) (aF (jE (pv 0) (pv 3) rfl)))),?_⟩;have l1:=dP ("start":Str) s [];have l2:=dP ("goal":Str) g (dB "start" s []);simp only[length_nil] at l1;refine⟨_,rfl,_,rfl,x,(kd3 Z.c_Piece Z.c_Push Z.c_Hold) k,dx,[],rfl,hx,T.cl k,T.nS k,(by show 0 < 1000;decide),?_⟩;refine⟨_,rfl,_,rfl,x,(kd3 Z.c_Piece Z.c_Push Z.c_Hold) k,dx,_,rfl,aB,T.cl k,T.nG k,by lia,?_⟩;refine⟨_,rfl,_,rfl,x,(kd3 Z.c_Piece Z.c_Push Z.c_Hold) k,dx,_,rfl,aB,T.cl k,T.nZ k,by lia,?_⟩;rw[pU,pU];exact q
theorem R14:FZ CX0 1 Z.f14 Z.d14 ["self"] (jH Kd.pc):=by
 refine F14.ok9 Ko fun _ _ _ s H _ Q E hr h=>?_;obtain⟨x,rfl,q⟩:=h;exact⟨_,(aF (aW bK)),q⟩
theorem R15:FZ CX0 1 Z.f15 Z.d15 ["self"] (jH Kd.pu):=by
 refine F15.ok9 Mc fun _ _ _ s H _ Q E hr h=>?_;obtain⟨x,rfl,q⟩:=h;exact⟨_,(aF (aW bK)),q⟩
theorem R16:FZ CX0 1 Z.f16 Z.d16 ["self"] (jH Kd.ho):=by
 refine F16.ok9 Kk fun _ _ _ s H _ Q E hr h=>?_;obtain⟨x,rfl,q⟩:=h;exact⟨_,(aF (aW bK)),q⟩
theorem GW:∀k:Kd,aK Z.P Z.w Z.K Z.mg ZB CX0 1 (kd3 Z.f14 Z.f15 Z.f16 k) (kd3 Z.d14 Z.d15 Z.d16 k) ["self"] (jH k):=jC (R14) (R15) (R16)
theorem bW:∀k:Kd,aL Z.K (kd3 Z.d14 Z.d15 Z.d16 k) ["self"] []:=jC (b14) (b15) (b16)
theorem mW:∀k:Kd,fM Z.K (kd3 Z.c_Piece Z.c_Push Z.c_Hold k) ("word") (kd3 Z.f14 Z.f15 Z.f16 k):=jC (⟨a14_0,i14,F14.kp⟩) (⟨a15_0,i15,F15.kp⟩) (⟨a16_0,i16,F16.kp⟩)
theorem R17:FZ CX0 1 Z.f17 Z.d17 ["self"] (oA Kd.pc):=by
 refine F17.ok9 Ev fun _ _ _ s H _ Q E hr h=>?_;obtain⟨x,rfl,q⟩:=h;exact⟨_,(aF (aW lW)),q⟩
theorem R18:FZ CX0 1 Z.f18 Z.d18 ["self"] (oA Kd.pu):=by
 refine F18.ok9 Gg fun _ _ _ s H _ Q E hr h=>?_;obtain⟨x,rfl,q⟩:=h;exact⟨_,(aF (aW lW)),q⟩
theorem R19:FZ CX0 1 Z.f19 Z.d19 ["self"] (oA Kd.ho):=by
 refine F19.ok9 Fd fun cdv A outer s H vs Q E hr h=>?_;obtain⟨x,rfl,q⟩:=h;exact⟨_,(aF (aW lW)),q⟩
theorem GJ:∀k:Kd,aK Z.P Z.w Z.K Z.mg ZB CX0 1 (kd3 Z.f17 Z.f18 Z.f19 k) (kd3 Z.d17 Z.d18 Z.d19 k) ["self"] (oA k):=jC (R17) (R18) (R19)
theorem bJ:∀k:Kd,aL Z.K (kd3 Z.d17 Z.d18 Z.d19 k) ["self"] []:=jC (b17) (b18) (b19)
theorem mJ:∀k:Kd,fM Z.K (kd3 Z.c_Piece Z.c_Push Z.c_Hold k) ("joins") (kd3 Z.f17 Z.f18 Z.f19 k):=jC (⟨a17_0,i17,F17.kp⟩) (⟨a18_0,i18,F18.kp⟩) (⟨a19_0,i19,F19.kp⟩)
theorem R20:FZ CX0 2 Z.f20 Z.d20 ["self"] (sQ (kd3 Z.c_Piece Z.c_Push Z.c_Hold)):=by
 refine F20.ok9 Vz fun _ _ _ s H _ Q E hr h=>?_;obtain⟨x,k,s,g,z,rfl,⟨dx,hx⟩,q⟩:=h;refine⟨_,(aF (aW (cS (aA (fH (pv 0) T.cl mW GW hr bW .nil aM) (aA (bZ (pv 0) rfl) (aA (bZ (pv 0) rfl) (aA (bZ (pv 0) rfl) aC))))))),?_⟩;refine⟨_,rfl,k,x,dx,_,rfl,hx,(dM _ _ _ (by decide +kernel) (by decide +kernel) (by decide +kernel)),_,rfl,?_⟩;refine⟨_,rfl,x,(kd3 Z.c_Piece Z.c_Push Z.c_Hold) k,dx,_,_,rfl,hx,T.cl k,T.nS k,dG _ _ _,?_⟩;refine⟨_,rfl,x,(kd3 Z.c_Piece Z.c_Push Z.c_Hold) k,dx,_,_,rfl,hx,T.cl k,T.nG k,dQ _ _ _,?_⟩;refine⟨_,rfl,x,(kd3 Z.c_Piece Z.c_Push Z.c_Hold) k,dx,_,_,rfl,hx,T.cl k,T.nZ k,fX _ _ _,?_⟩;exact⟨zl9 4,q⟩
theorem mT:∀k:Kd,fM Z.K (kd3 Z.c_Piece Z.c_Push Z.c_Hold k) ("told") Z.f20:=jC (⟨a20_0,i20,F20.kp⟩) (⟨a20_1,i20,F20.kp⟩) (⟨a20_2,i20,F20.kp⟩)
theorem Y21:DZ 3 Z.f21 Z.d21 ["told"] (mX Z.K (kd3 Z.c_Piece Z.c_Push Z.c_Hold)) "row_of":=by
 refine⟨?_,F21.b1 _ (by intros;rfl),F21.kp,m21⟩
 refine F21.ok9 Ip fun _ _ _ s H _ Q E hr h=>?_;obtain⟨t,v,s,g,z,rfl,hT,k,rfl,q⟩:=h;refine⟨_,(aD (aR (i:=1) Ip.nd rfl (Or.inl rfl) (aU aY (pv 0) aG (fun _ _=>rfl)))
  (aD (cJ (PW.pt (pC (fB (kR (i:=1) rfl (Or.inl rfl) bl.isi n_str rfl rfl PyProof.Rows.boot_str)) (lK (bA eV (pv 1) bK (bH _))))) (aF (aW (jR (MK .pc) R13 hr rfl (T.mK .pc) b13 .nil aM (aA (aU aY (pv 0) aG (fun _ _=>rfl)) (aA (aU aY (pv 0) aG (fun _ _=>rfl)) (aA (aU aY (pv 0) aG (fun _ _=>rfl)) aC)))))) bO)
  (aD (cJ (PW.pt (pC (fB (kR (i:=1) rfl (Or.inl rfl) bl.isi n_str rfl rfl PyProof.Rows.boot_str)) (lK (bA eV (pv 1) bK (bH _))))) (aF (aW (jR (MK .pu) R13 hr rfl (T.mK .pu) b13 .nil aM (aA (aU aY (pv 0) aG (fun _ _=>rfl)) (aA (aU aY (pv 0) aG (fun _ _=>rfl)) (aA (aU aY (pv 0) aG (fun _ _=>rfl)) aC)))))) bO)
  (aD (cJ (PW.pt (pC (fB (kR (i:=1) rfl (Or.inl rfl) bl.isi n_str rfl rfl PyProof.Rows.boot_str)) (lK (bA eV (pv 1) bK (bH _))))) (aF (aW (jR (MK .ho) R13 hr rfl (T.mK .ho) b13 .nil aM (aA (aU aY (pv 0) aG (fun _ _=>rfl)) (aA (aU aY (pv 0) aG (fun _ _=>rfl)) (aA (aU aY (pv 0) aG (fun _ _=>rfl)) aC)))))) bO)
  (aF jG))))),?_⟩
 cases k
 ·refine Zm (fun _ _=>False) (fun X _=>?_) (fun _ _ h=>h.elim);refine⟨_,rfl,t,_,0,_,rfl,rfl,hT,rfl,?_⟩;exact⟨_,_,true,rfl,.of (.str _),rfl,_,rfl,gC ⟨_,rfl,rfl,_,rfl,ifT (dL .pc .pc) ⟨_,rfl,t,_,1,s,rfl,rfl,hT,rfl,_,rfl,t,_,2,g,rfl,rfl,hT,rfl,_,rfl,t,_,3,z,rfl,rfl,hT,rfl,fun x dx h1 h2 ne=>⟨x,dx,.pc,s,g,z,rfl,aB,rfl,by rw[pU];exact q x _ (Rw.new h1 h2 ne) h1 ⟨dx,aB⟩⟩⟩⟩⟩
 ·refine qo4 (fun _ _=>False) (fun X _=>?_) (fun _ _ h=>h.elim);refine⟨_,rfl,t,_,0,_,rfl,rfl,hT,rfl,?_⟩;exact⟨_,_,true,rfl,.of (.str _),rfl,_,rfl,gC ⟨_,rfl,rfl,_,rfl,ifF (dL .pu .pc) (⟨_,_,true,rfl,.of (.str _),rfl,_,rfl,gC ⟨_,rfl,rfl,_,rfl,ifT (dL .pu .pu) ⟨_,rfl,t,_,1,s,rfl,rfl,hT,rfl,_,rfl,t,_,2,g,rfl,rfl,hT,rfl,_,rfl,t,_,3,z,rfl,rfl,hT,rfl,fun x dx h1 h2 ne=>⟨x,dx,.pu,s,g,z,rfl,aB,rfl,by rw[pU];exact q x _ (Rw.new h1 h2 ne) h1 ⟨dx,aB⟩⟩⟩⟩⟩)⟩⟩
 ·refine qo3 (fun _ _=>False) (fun X _=>?_) (fun _ _ h=>h.elim);refine⟨_,rfl,t,_,0,_,rfl,rfl,hT,rfl,?_⟩;exact⟨_,_,true,rfl,.of (.str _),rfl,_,rfl,gC ⟨_,rfl,rfl,_,rfl,ifF (dL .ho .pc) (⟨_,_,true,rfl,.of (.str _),rfl,_,rfl,gC ⟨_,rfl,rfl,_,rfl,ifF (dL .ho .pu) (⟨_,_,true,rfl,.of (.str _),rfl,_,rfl,gC ⟨_,rfl,rfl,_,rfl,ifT (dL .ho .ho) ⟨_,rfl,t,_,1,s,rfl,rfl,hT,rfl,_,rfl,t,_,2,g,rfl,rfl,hT,rfl,_,rfl,t,_,3,z,rfl,rfl,hT,rfl,fun x dx h1 h2 ne=>⟨x,dx,.ho,s,g,z,rfl,aB,rfl,by rw[pU];exact q x _ (Rw.new h1 h2 ne) h1 ⟨dx,aB⟩⟩⟩⟩⟩)⟩⟩)⟩⟩
theorem R22:FZ CX0 4 Z.f22 Z.d22 ["self","fall","held"] (rL Z.K (kd3 Z.c_Piece Z.c_Push Z.c_Hold) Kd.pc):=by
 refine F22.ok9 Cl fun _ _ _ s H _ Q E hr h=>?_;obtain⟨x,z,a,h,s,g,p,u,v,n,m,rfl,⟨dx,hx⟩,fz,fa,fh,hp,hu,bp,bu,hn,h0,q⟩:=h;refine⟨_,(aF (aW (d9 Y10 hr rfl (aA (pv 1) (aA (bZ (pv 0) rfl) aC))))),?_⟩;exact⟨_,rfl,_,rfl,x,(kd3 Z.c_Piece Z.c_Push Z.c_Hold) .pc,dx,_,_,rfl,hx,T.cl _,T.nZ _,fX _ _ _,a,z,u,p,m,n,rfl,fa,fz,hu,hp,h0 rfl,bu,bp,by lia,fun r H1 s1 e1=>q r H1 s1 (Fq.of e1)⟩
theorem R23:FZ CX0 4 Z.f23 Z.d23 ["self","fall","held"] (rL Z.K (kd3 Z.c_Piece Z.c_Push Z.c_Hold) Kd.pu):=Ad (P:=Z.P) (w:=Z.w) (mg:=Z.mg) (base:=ZB) (CX:=CX0) F23 T
theorem R24:FZ CX0 4 Z.f24 Z.d24 ["self","fall","held"] (rL Z.K (kd3 Z.c_Piece Z.c_Push Z.c_Hold) Kd.ho):=Ao (P:=Z.P) (w:=Z.w) (mg:=Z.mg) (base:=ZB) (CX:=CX0) F24 T
theorem GS:∀k:Kd,aK Z.P Z.w Z.K Z.mg ZB CX0 4 (kd3 Z.f22 Z.f23 Z.f24 k) (kd3 Z.d22 Z.d23 Z.d24 k) ["self","fall","held"] (rL Z.K (kd3 Z.c_Piece Z.c_Push Z.c_Hold) k):=jC (R22) (R23) (R24)
theorem bS:∀k:Kd,aL Z.K (kd3 Z.d22 Z.d23 Z.d24 k) ["self","fall","held"] []:=jC (b22) (b23) (b24)
theorem mS:∀k:Kd,fM Z.K (kd3 Z.c_Piece Z.c_Push Z.c_Hold k) ("stream") (kd3 Z.f22 Z.f23 Z.f24 k):=jC (⟨a22_0,i22,F22.kp⟩) (⟨a23_0,i23,F23.kp⟩) (⟨a24_0,i24,F24.kp⟩)
theorem X1:D9 Z.P Z.w Z.K Z.mg ZB 2 Z.f12 Z.d12 ["thing"] (Jx Z.K) "is_fraction":=⟨Dp Y12.G,Y12.b,F12.kp,m12⟩
theorem Y25:DZ 3 Z.f25 Z.d25 ["thing"] (Xx Z.K) "is_piece_size":=by
 refine⟨?_,F25.b1 _ (by intros;rfl),F25.kp,m25⟩
 refine F25.ok9 qo5 fun _ _ _ s H _ Q E hr h=>?_;obtain⟨a,p,n,rfl,fa,hp,h0,hb,hn,q⟩:=h;have r1:=hr.mono (show 1<=2 by lia);refine⟨_,(aF (aW (jX (d9 X1 hr rfl (aA (pv 0) aC)) (nV (d9 Y5 r1 rfl (aA (dA (v:=.ref Z.aN) rfl mv_NOUGHT rfl) (aA (pv 0) aC))))))),?_⟩;refine⟨_,rfl,a,p,rfl,fa,hp,_,rfl,gC ⟨_,rfl,Z.aN,a,_,p,1,n,rfl,fN _,fa,⟨show (0:Nat) < 2 ^ 1 by decide,show (1:Nat) < 2 ^ 1 by decide⟩,hb,by lia,?_⟩⟩;rw[decide_eq_true (show (0:Int)*p.2 < p.1*1 by lia)];exact q
theorem Y26:DZ 2 Z.f26 Z.d26 ["thing","bound"] (Jp Z.K) "is_number_below":=by
 refine⟨?_,F26.b2 _ _ (by intros;rfl),F26.kp,m26⟩
 refine F26.ok9 qn7 fun _ _ _ s H _ Q E hr h=>?_;obtain⟨x,b',rfl,hx,q⟩:=h;refine⟨_,(aF (aW (jX (d9 Y3 hr rfl (aA (pv 0) aC)) (jX (gB Mu (pv 0) aG (bH _)) (nV (gB yT (pv 0) (pv 1) (bH _))))))),?_⟩;rcases hx with ⟨i,rfl⟩ | hw
 ·have q:Q (.bl (decide (0<=i/\i < b'))) H:=q;refine⟨_,rfl,_,rfl,.inl ⟨i,rfl,_,rfl,gC ⟨_,rfl,_,_,rfl,rfl,_,rfl,?_⟩⟩⟩
  by_cases h0:0<=i
  ·refine L2.ifT (decide_eq_true h0) ⟨_,rfl,_,rfl,_,_,rfl,rfl,?_⟩;show Q (.bl (decide (i < b'))) H;have e:decide (0<=i/\i < b')=decide (i < b'):=by simp[h0]
   rw[<- e];exact q
  ·have e:decide (0<=i/\i < b')=false:=decide_eq_false fun z=>h0 z.1;rw[e] at q;exact L2.ifF (decide_eq_false h0) q
 ·rw[qf1 hw] at q;obtain⟨t,h1,h2⟩:=hw;exact⟨_,rfl,_,rfl,.inr ⟨t,h1,h2,_,rfl,iA q⟩⟩
theorem Y27:DZ 4 Z.f27 Z.d27 ["word","size"] (qb9 Z.K) "refuse_size":=by
 refine⟨?_,F27.b2 _ _ (by intros;rfl),F27.kp,m27⟩
 refine F27.ok9 qm6 fun _ _ _ s H _ Q E hr h=>?_;obtain⟨k,z,p,rfl,fz,hp,h0,hb,q⟩:=h;have r2:=hr.mono (show 2<=3 by lia);refine⟨_,(aD (cJ (gX (fB (d9 X1 r2 rfl (aA (pv 1) aC)))) (aF jG) bO)
  (aF (cJ (PW.pt (pC (bA eV (pv 0) bK (bH _)) (lK (gX (fB (d9 Y25 hr rfl (aA (pv 1) aC))))))) (aF jG) bO))),?_⟩
 refine⟨_,rfl,z,p,rfl,fz,hp,_,rfl,iA ?_⟩
 cases k
 ·exact⟨_,rfl,rfl,_,rfl,ifT (dL .pc .pc) ⟨_,rfl,z,p,_,rfl,fz,hp,h0 rfl,hb,by lia,_,rfl,iA q⟩⟩
 ·exact⟨_,rfl,rfl,_,rfl,ifF (dL .pu .pc) (iA q)⟩
 ·exact⟨_,rfl,rfl,_,rfl,ifF (dL .ho .pc) (iA q)⟩
theorem R28:FZ (CX1 Z.P Z.w) 3 Z.f28 Z.d28 ["some","many"] (Mw Z.K Z.c_NoPoint):=by
 refine F28.okX qn9 (fun vs H Q E h=>?_) fun cdv A outer s H vs Q E hr h=>?_
 ·obtain⟨_,_,_,rfl,_⟩:=h;rfl
 obtain⟨l,xs,m,rfl,hl,h100,hA,q,qE⟩:=h;refine⟨_,(aF (cJ (gX (fB (bM (Oe rfl) rfl n_all PyProof.Rows.boot_all (aA (eQ (nl:=1) (fr:=[1]) (Nc:=["point","many"]) (cl:=[("many",s.heap.objs.size+1)]) rfl ⟨rfl,rfl,by decide +kernel,by decide +kernel,fun x c h=>h,fA rfl,rfl,fun i n h=>match i,h with | 0,h=>by cases h;exact⟨1,rfl,rfl,rfl,rfl,.inl rfl⟩ | k+1,h=>by rw[show 1+(k+1)=k+2 by lia] at h;cases h⟩
    (cO (pv 0)) (fun _ _ _ _ _=>(aZ (i:=0) wX rfl (Or.inl rfl))) (fun _ _ _ _ _=>gD)
    (fun _ _ _ _ _=>(d9 Y26 hr rfl (aA (pv 0) (aA (pv 1) aC))))) aC)))) (aF (Ck gK iW rfl rfl mc_NoPoint x1_NoPoint (aA bK aC))) bO)),?_⟩
 refine⟨_,rfl,l,rfl,⟨_,hl⟩,fun D hD=>?_⟩;have sD:=aE hD (.lst []);refine dW (xs:=xs) (fun k zs H'=>aS H H'/\H' D=some (.lst zs)/\zs=((xs.take k).map (iL m)).map V.bl) ⟨sD,aB,rfl⟩ (fun k zs H' h=>h.2.1) (fun k zs H' _ h=>h.1.seq hl) ?_ ?_
 ·rintro k zs x H1 hx ⟨s1,e1,rfl⟩ C hC;have hk:k < xs.length:=(List.getElem?_eq_some_iff.mp hx).1;refine⟨gF.1,gF.2,gC ?_⟩;refine⟨_,rfl,_,rfl,x,m,rfl,(hA x (mem_of_getElem? hx)).same s1,e1,bB (by rw[length_map,length_map,length_take];lia),hC _ _ ⟨s1.change hD,aB,?_⟩⟩;rw[take_add_one,hx,map_append,map_append];rfl
 ·rintro zs H1 ⟨s1,e1,rfl⟩;rw[take_length] at e1;have ea:(xs.map (iL m)).all id=xs.all (iL m):=by rw[all_map];rfl
  refine⟨D,_,rfl,SqL.of e1,_,rfl,?_⟩;rw[ea]
  cases c:xs.all (iL m) with
  |true=>exact L2.ifF rfl (q c _ s1)
  |false=>exact L2.ifT rfl ⟨zl9 1,qE c _ s1⟩
theorem R29:FZ CX0 2 Z.f29 Z.d29 ["self","many"] (sM Z.c_Net):=by
 refine F29.ok9 Wq fun _ _ _ s H _ Q E hr h=>?_;obtain⟨n,dx,m,rfl,hn,h1,h20,q⟩:=h;refine⟨_,(aD (cJ (PW.pt (yB (gX (fB (d9 Y3 hr rfl (aA (pv 1) aC)))) (yB (bA yT (pv 1) aG (bH _)) (zU (bA Jh (pv 1) (dA (v:=.int 20) rfl mv_MOST_POINTS ⟨_,rfl⟩) (bH _)))))) (aF jG) bO)
  (aD (jE (pv 0) (pv 1) rfl)
  (aF (jE (pv 0) (cB aC) rfl)))),?_⟩
 refine⟨_,rfl,_,rfl,.inl ⟨m,rfl,_,rfl,iA ⟨_,rfl,_,_,rfl,rfl,_,rfl,ifF (decide_eq_false (by lia)) ⟨_,rfl,_,_,rfl,rfl,_,rfl,ifF (decide_eq_false (by lia)) ?_⟩⟩⟩⟩;refine⟨_,rfl,_,rfl,n,Z.c_Net,dx,[],rfl,hn,NTx.cl,NTx.nP,(by show 0 < 1000;decide),?_⟩;refine⟨zl9 0,fun l hl=>?_⟩;have nl:n≠l:=fun z=>by subst z;rw[aB] at hl;cases hl
 have hl0:H l=none:=by rw[aQ (Ne.symm nl)] at hl;exact hl
 have l1:=dP ("point_count":Str) (.int m) [];simp only[length_nil] at l1;refine⟨_,rfl,n,Z.c_Net,dx,dB "point_count" (.int m) [],rfl,by rw[aQ nl];exact aB,NTx.cl,NTx.nK,by lia,?_⟩;refine q l _ hl0 (fun b o e hb=>?_) aB (by rw[aQ (Ne.symm nl)];exact aB);rw[aQ hb,aQ (aX e hl0),aQ hb];exact e
theorem R30:FZ CX0 1 Z.f30 Z.d30 ["self"] (oX Z.c_Net Z.K):=by
 refine F30.ok9 Zo fun _ _ _ s H _ Q E hr h=>?_;obtain⟨n,l,m,ds,rfl,⟨⟨dx,hn⟩,ts,hl,hr'⟩,q⟩:=h;exact⟨_,(aF (aW (bZ (pv 0) rfl))),_,rfl,n,Z.c_Net,dx,_,_,rfl,hn,NTx.cl,NTx.nP,uI _ _,q⟩
theorem R31:FZ CX0 1 Z.f31 Z.d31 ["self"] (Kf Z.c_Net Z.K):=by
 refine F31.ok9 Vx fun _ _ _ s H _ Q E hr h=>?_;obtain⟨n,l,m,ds,rfl,⟨⟨dx,hn⟩,ts,hl,hr'⟩,q⟩:=h;refine⟨_,(aF (aW (gP gE rfl n_list PyProof.Rows.boot_list (aA (bZ (pv 0) rfl) aC)))),_,rfl,n,Z.c_Net,dx,_,_,rfl,hn,NTx.cl,NTx.nK,gO _ _,l,ts,rfl,.inl (SqL.of hl),fun a ha=>?_⟩;have sa:=aE ha (.lst ts);exact q a ts _ sa ha aB (hr'.same sa)
theorem X2:D9 Z.P Z.w Z.K Z.mg ZB 3 Z.f28 Z.d28 ["some","many"] (qa7 Z.K) "refuse_points":=⟨ql2 R28,b28,F28.kp,m28⟩
theorem R32:FZ CX0 5 Z.f32 Z.d32 ["self","row"] (Jw Z.c_Net Z.K (kd3 Z.c_Piece Z.c_Push Z.c_Hold)):=by
 refine F32.ok9 Wu fun _ _ _ s H _ Q E hr h=>?_;obtain⟨n,l,x,z,m,ds,k,i,j,p,rfl,⟨⟨dx,hn⟩,ts,hl,hR⟩,rw,fz,⟨i0,i1,j0,j1,lp,h0,bp⟩,h40,q⟩:=h;have r2:=hr.mono (show 2<=4 by lia);have r3:=hr.mono (show 3<=4 by lia);refine⟨_,(aD (aR (i:=2) Wu.nd rfl (Or.inl rfl) (fH (f:=fun _=>Z.f20) (fd:=fun _=>Z.d20) (sp:=fun _=>sQ (kd3 Z.c_Piece Z.c_Push Z.c_Hold)) (pv 1) T.cl mT (fun _=>R20) r2 (fun _=>b20) .nil aM))
  (aD (bX (d9 X2 r3 rfl (aA (cB (aA (aU aY (pv 2) aG (fun _ _=>rfl)) (aA (aU aY (pv 2) aG (fun _ _=>rfl)) aC))) (aA (bZ (pv 0) rfl) aC))))
  (aD (bX (d9 Y27 hr rfl (aA (aU aY (pv 2) aG (fun _ _=>rfl)) (aA (aU aY (pv 2) aG (fun _ _=>rfl)) aC))))
  (aD (cJ (bA Mu (bM bU rfl n_len PySem.boot_len (aA (bZ (pv 0) rfl) aC)) (dA (v:=.int 40) rfl mv_MOST_ROWS ⟨_,rfl⟩) (bH _)) (aF jG) bO)
  (aD (bX (mB PySem.F.plainAttrs_list PySem.F.slot_list_append PySem.F.type_list_append dU (bZ (pv 0) rfl) (aA (pv 2) aC)))
  (aF (aW (bC lL (bM bU rfl n_len PySem.boot_len (aA (bZ (pv 0) rfl) aC)) aG)))))))),?_⟩
 obtain⟨dr,hx⟩:=id rw;have len:=hR.length;refine⟨_,rfl,k,x,dr,_,rfl,hx,(dM _ _ _ (by decide +kernel) (by decide +kernel) (by decide +kernel)),x,k,_,_,_,rfl,rw,fun t ht=>?_⟩;have st:=aE ht (.tup [.str k.wd,.int i,.int j,.ref z]);have et:SqT Z.K (upd H t (.tup [.str k.wd,.int i,.int j,.ref z])) t [.str k.wd,.int i,.int j,.ref z]:=SqT.of aB;generalize upd H t (.tup [.str k.wd,.int i,.int j,.ref z])=H1a at st et ⊢;have hn1:=st _ _ hn;have hl1:=st _ _ hl;refine⟨_,rfl,t,_,1,_,rfl,rfl,et,rfl,_,rfl,t,_,2,_,rfl,rfl,et,rfl,zl9 2,fun lq hlq=>?_⟩;have sq:=aE hlq (.lst [.int i,.int j]);have eq:upd H1a lq (.lst [.int i,.int j]) lq=some (.lst [.int i,.int j]):=aB;generalize upd H1a lq (.lst [.int i,.int j])=H1b at sq eq ⊢;have hnb:=sq _ _ hn1;refine⟨_,rfl,n,Z.c_Net,dx,_,_,rfl,hnb,NTx.cl,NTx.nP,uI _ _,lq,i,j,m,rfl,SqL.of eq,i0,i1,j0,j1,fun H1 sc=>?_⟩;have sqc:=sq.trans sc;have st:=st.trans sqc;have et:=sqc.seqT et;have hn1:=sqc _ _ hn1;have hl1:=sqc _ _ hl1;refine⟨_,rfl,t,_,0,_,rfl,rfl,et,rfl,_,rfl,t,_,3,_,rfl,rfl,et,rfl,k,z,p,rfl,st.fq fz,lp,h0,bp,?_⟩;refine⟨_,rfl,n,Z.c_Net,dx,_,_,rfl,hn1,NTx.cl,NTx.nK,gO _ _,l,ts,rfl,.inl (SqL.of hl1),_,_,rfl,rfl,_,rfl,ifF (decide_eq_false (by lia)) ?_⟩;refine⟨_,rfl,n,Z.c_Net,dx,_,_,rfl,hn1,NTx.cl,NTx.nK,gO _ _,.inl ⟨rfl,_,SqL.of hl1⟩,_,rfl,l,ts,.ref t,rfl,rfl,hl1,bB (by lia),?_⟩;have nn:n≠l:=fD hn1 hl1 (fun z=>by cases z);have hn2:upd H1 l (.lst (ts++[.ref t])) n=some (.ins Z.c_Net dx (iJ m l)):=by rw[aQ nn];exact hn1
 have hl2:upd H1 l (.lst (ts++[.ref t])) l=some (.lst (ts++[.ref t])):=aB;refine⟨_,rfl,n,Z.c_Net,dx,_,_,rfl,hn2,NTx.cl,NTx.nK,gO _ _,l,_,rfl,.inl (SqL.of hl2),_,_,rfl,rfl,?_⟩;show Q (.int (((ts++[V.ref t]).length:Int) - 1)) _;rw[List.length_append,length_singleton,len,show (((ds.length+1:Nat):Int) - 1)=(ds.length:Int) by lia];refine q _ (st.x.write) ⟨⟨dx,hn2⟩,_,hl2,Rts.upd hl1 ((hR.same st).app (.cons et (st.fq fz) .nil))⟩
theorem R33:FZ CX0 4 Z.f33 Z.d33 ["self"] (kS Z.c_Net Z.K (kd3 Z.c_Piece Z.c_Push Z.c_Hold)):=by
 refine F33.ok9 qc5 fun _ _ _ s H _ Q E hr h=>?_;obtain⟨n,l,m,ds,rfl,⟨⟨dx,hn⟩,ts,hl,hR⟩,h100,q⟩:=h;refine⟨_,(aF (aW (eQ (nl:=1) (fr:=[]) (Nc:=["told"]) (cl:=[]) rfl ⟨rfl,rfl,by decide +kernel,by decide +kernel,fun x c h=>(by cases h),fA rfl,rfl,fun i n h=>(by simp at h)⟩
    (cO (bZ (pv 0) rfl)) (fun _ _ _ _ _=>(aZ (i:=0) Vr rfl (Or.inl rfl))) (fun _ _ _ _ _=>gD)
    (fun _ _ _ _ _=>(d9 Y21 hr rfl (aA (pv 0) aC)))))),?_⟩
 have len:=hR.length;refine⟨_,rfl,n,Z.c_Net,dx,_,_,rfl,hn,NTx.cl,NTx.nK,gO _ _,l,rfl,⟨_,SqL.of hl⟩,fun D hD=>?_⟩;have sD:=aE hD (.lst []);refine dW (xs:=ts) (fun i zs H'=>aS H H'/\H' D=some (.lst zs)/\iB (kd3 Z.c_Piece Z.c_Push Z.c_Hold) Z.K H' zs (ds.take i)) ⟨sD,aB,.nil⟩ (fun i zs H' h=>h.2.1) (fun i zs H' _ h=>h.1.seq (SqL.of hl)) ?_ ?_
 ·rintro i zs x H1 hx ⟨s1,e1,R1⟩ C hC;have hi:i < ds.length:=by
   have:=(List.getElem?_eq_some_iff.mp hx).1;lia
  obtain⟨⟨k,u,v,p⟩,hd⟩:∃d,ds[i]?=some d:=⟨_,getElem?_eq_getElem hi⟩
  obtain⟨t,z,et,ht,fz⟩:=hR.at hd;have ex:x=.ref t:=by rw[et] at hx;exact(Option.some.inj hx).symm
  subst ex;have lz:=R1.length;rw[length_take] at lz;refine⟨gF.1,gF.2,gC ?_⟩;refine⟨_,rfl,t,_,_,_,_,rfl,s1.seqT ht,k,rfl,fun y H2 s2 ny rw=>?_⟩;have e2:=s2 _ _ e1;refine⟨e2,bB (by lia),hC _ _ ⟨(s1.trans s2).change hD,aB,?_⟩⟩;rw[take_add_one,hd];exact iB.upd e2 ((R1.same s2).app (.cons rw ((s1.trans s2).fq fz) .nil))
 ·rintro zs H1 ⟨s1,e1,R1⟩;rw[len,take_length] at R1;exact q D zs H1 s1 hD e1 R1
theorem Y34:DZ 4 Z.f34 Z.d34 ["row","heights"] (Aj Z.K (kd3 Z.c_Piece Z.c_Push Z.c_Hold)) "fall_of":=by
 refine⟨?_,F34.b2 _ _ (by intros;rfl),F34.kp,m34⟩
 refine F34.ok9 Yh fun cdv A outer s H vs Q E hr h=>?_;obtain⟨x,a,⟨k,i,j,p⟩,z,xs,hp,n,rfl,rw,st,pt,q⟩:=h;refine⟨_,(aF (aW (d9 Y7 hr rfl (aA (aU bL (pv 1) (bZ (pv 0) rfl) (fun _ _=>rfl)) (aA (aU bL (pv 1) (bZ (pv 0) rfl) (fun _ _=>rfl)) aC))))),?_⟩;obtain⟨dx,hx⟩:=id rw;obtain⟨i0,i1,j0,j1⟩:cT (n:Int) i j:=pt;have hl:=st.l;have ai:=Dc (ps:=hp) (j:=i.toNat) (by lia);have aj:=Dc (ps:=hp) (j:=j.toNat) (by lia);obtain⟨u,eu,fu⟩:=st.f.at ai;obtain⟨v,ev,fv⟩:=st.f.at aj;have ti:atI xs i=some (.ref u):=by
  have:=bQ eu
  rwa [show ((i.toNat:Nat):Int)=i by lia] at this
 have tj:atI xs j=some (.ref v):=by
  have:=bQ ev
  rwa [show ((j.toNat:Nat):Int)=j by lia] at this
 refine⟨_,rfl,_,rfl,x,(kd3 Z.c_Piece Z.c_Push Z.c_Hold) _,_,_,_,rfl,hx,T.cl _,T.nS _,dG _ _ _,a,xs,_,_,rfl,rfl,st.s,ti,?_⟩;refine⟨_,rfl,_,rfl,x,(kd3 Z.c_Piece Z.c_Push Z.c_Hold) _,_,_,_,rfl,hx,T.cl _,T.nG _,dQ _ _ _,a,xs,_,_,rfl,rfl,st.s,tj,?_⟩;have bi:=st.b _ (mem_of_getElem? ai);have bj:=st.b _ (mem_of_getElem? aj);exact⟨u,v,_,_,3900,3900,rfl,fu,fv,bi.1.pos,bj.1.pos,bi.2,bj.2,by lia,q⟩
theorem Y35:DZ 1 Z.f35 Z.d35 ["marks","row"] (uK Z.K (kd3 Z.c_Piece Z.c_Push Z.c_Hold)) "joined":=by
 refine⟨?_,F35.b2 _ _ (by intros;rfl),F35.kp,m35⟩
 refine F35.ok9 wK fun _ _ _ s H _ Q E hr h=>?_;obtain⟨a,x,ms,k,s0,g0,z,rfl,hS,rw,hs,hg,h100,q⟩:=h;refine⟨_,(aD (aR (i:=2) wK.nd rfl (Or.inr rfl) (aU bL (pv 0) (bZ (pv 1) rfl) (fun _ _=>rfl)))
  (aD (aR (i:=3) wK.nd rfl (Or.inr rfl) (aU bL (pv 0) (bZ (pv 1) rfl) (fun _ _=>rfl)))
  (aF (aW (eQ (nl:=1) (fr:=[3,2]) (Nc:=["mark","lost","kept"]) (cl:=[("lost",s.heap.objs.size+2),("kept",s.heap.objs.size+1)]) rfl ⟨rfl,rfl,by decide +kernel,by decide +kernel,(dR rfl (dR rfl (kY))),fA rfl,rfl,fun i n h=>match i,h with | 0,h=>by cases h;exact⟨3,rfl,rfl,rfl,rfl,.inl rfl⟩ | 1,h=>by cases h;exact⟨2,rfl,rfl,rfl,rfl,.inl rfl⟩ | k+2,h=>by rw[show 1+(k+2)=k+3 by lia] at h;cases h⟩
    (cO (pv 0)) (fun _ _ _ _ _=>(aZ (i:=0) qC rfl (Or.inl rfl))) (fun _ _ _ _ _=>gD)
    (fun _ _ _ _ _=>(pS (bA eV (pv 0) (pv 1) (bH _)) (pv 2) (pv 0)))))))),?_⟩
 obtain⟨dx,hx⟩:=id rw;have gi:∀{j:Nat},j < ms.length->atI (ms.map V.int) (j:Int)=some (.int (ms.getD j 0)):=fun h=>bQ (by rw[getElem?_map,getElem?_eq_getElem h,getD_eq_getElem?_getD,getElem?_eq_getElem h];rfl);refine⟨_,rfl,_,rfl,x,(kd3 Z.c_Piece Z.c_Push Z.c_Hold) _,_,_,_,rfl,hx,T.cl _,T.nS _,dG _ _ _,a,_,_,_,rfl,rfl,hS,gi hs,?_⟩;refine⟨_,rfl,_,rfl,x,(kd3 Z.c_Piece Z.c_Push Z.c_Hold) _,_,_,_,rfl,hx,T.cl _,T.nG _,dQ _ _ _,a,_,_,_,rfl,rfl,hS,gi hg,?_⟩;refine⟨_,rfl,a,rfl,⟨_,hS⟩,fun D hD=>?_⟩;have sD:=aE hD (.lst []);refine dW (xs:=ms.map V.int) (fun i zs H'=>aS H H'/\H' D=some (.lst zs)/\zs=((jn ms s0 g0).take i).map V.int) ⟨sD,aB,rfl⟩ (fun i zs H' h=>h.2.1) (fun i zs H' _ h=>h.1.seq hS) ?_ ?_
 ·rintro i zs x H1 hx' ⟨s1,e1,rfl⟩ C hC;rw[getElem?_map] at hx';obtain⟨c,hc,rfl⟩:=Option.map_eq_some_iff.mp hx';have hi:i < ms.length:=(List.getElem?_eq_some_iff.mp hc).1;have ej:(jn ms s0 g0)[i]?=some (if c=ms.getD g0 0 then ms.getD s0 0 else c):=by unfold jn;rw[getElem?_map,hc];rfl
  have lj:(jn ms s0 g0).length=ms.length:=by unfold jn;rw[length_map]
  refine⟨gF.1,gF.2,gC ?_⟩;refine⟨_,rfl,_,rfl,rfl,_,rfl,?_⟩
  by_cases h:c=ms.getD g0 0
  ·rw[if_pos h] at ej;refine ifT (decide_eq_true (by rw[h])) ⟨_,rfl,e1,bB (by rw[length_map,length_take];lia),hC _ _ ⟨s1.change hD,aB,?_⟩⟩;rw[take_add_one,ej,map_append];rfl
  ·rw[if_neg h] at ej;refine ifF (decide_eq_false (fun z=>h (by injection z))) ⟨_,rfl,e1,bB (by rw[length_map,length_take];lia),hC _ _ ⟨s1.change hD,aB,?_⟩⟩;rw[take_add_one,ej,map_append];rfl
 ·rintro zs H1 ⟨s1,e1,rfl⟩;have lj:(jn ms s0 g0).length=ms.length:=by unfold jn;rw[length_map]
  rw[length_map,<- lj,take_length] at e1;exact q D H1 s1 hD e1
theorem X3:fM Z.K Z.c_Net "many" Z.f30:=⟨a30_0,i30,F30.kp⟩
theorem X4:fM Z.K Z.c_Net "rows" Z.f33:=⟨a33_0,i33,F33.kp⟩
theorem Y36:DZ 5 Z.f36 Z.d36 ["net"] (Ak Z.c_Net Z.K) "marks_of":=by
 refine⟨?_,F36.b1 _ (by intros;rfl),F36.kp,m36⟩
 refine F36.ok9 tI fun _ _ _ s H _ Q E hr h=>?_;obtain⟨n,l,m,ds,rfl,nt,pt,hm,h100,q⟩:=h;have r1:=hr.mono (show 1<=4 by lia);refine⟨_,(aD (aR (i:=1) tI.nd rfl (Or.inl rfl) (iX rfl rfl n_list rfl n_range (aA (dD (pv 0) NTx.cl X3 R30 r1 b30 .nil aM) aC)))
  (aD (eZ PassesOwn.never rfl (cO (dD (pv 0) NTx.cl X4 R33 hr b33 .nil aM)) (aZ (i:=2) tI.nd rfl (Or.inl rfl))
   (aF (cJ (fB (fH (pv 2) T.cl mJ GJ r1 bJ .nil aM)) (aF (aR (i:=1) tI.nd rfl (Or.inl rfl) (d9 Y35 r1 rfl (aA (pv 1) (aA (pv 2) aC))))) bO)))
  (aF (aW (pv 1))))),?_⟩
 obtain⟨dx,hn⟩:=nt.ob;refine⟨_,rfl,n,dx,_,rfl,hn,dE _ _ (by decide +kernel) (by decide +kernel),n,l,_,ds,rfl,nt,m,rfl,by lia,fun D hD=>?_⟩;have sD:=aE hD (.lst ((List.range m).map fun (i:Nat)=>V.int (i:Int)));have eD:upd H D (.lst ((List.range m).map fun (i:Nat)=>V.int (i:Int))) D=some (.lst ((mks m (ds.take 0)).map V.int)):=by
  rw[aB];show some (HO.lst _)=some (HO.lst ((Mr m).map V.int));unfold Mr;rw[map_map];rfl
 generalize upd H D (.lst ((List.range m).map fun (i:Nat)=>V.int (i:Int)))=H1 at sD eD ⊢;refine⟨_,rfl,n,dx,_,rfl,sD _ _ hn,dE _ _ (by decide +kernel) (by decide +kernel),n,l,_,ds,rfl,nt.same sD,h100,fun a xs H2 s2 na ea Rb=>?_⟩;have lxs:=Rb.length;refine⟨a,rfl,⟨_,SqL.of ea⟩,?_⟩;refine eK (xs:=xs) (fun i σ H'=>aS H2 H'/\∃(c:Addr) (z:Option V),σ=[some (.ref n),some (.ref c),z]/\H c=none/\H' c=some (.lst ((mks m (ds.take i)).map V.int))) ⟨aS.refl _,D,none,rfl,hD,s2 _ _ eD⟩ (fun i σ H' _ h=>h.1.seq (SqL.of ea)) ?_ ?_
 ·rintro i x σ H3 hx ⟨s3,c,z,rfl,nc,ec⟩;have hi:i < ds.length:=by
   have:=(List.getElem?_eq_some_iff.mp hx).1;lia
  obtain⟨⟨k,u,v,p⟩,hd⟩:∃d,ds[i]?=some d:=⟨_,getElem?_eq_getElem hi⟩
  obtain⟨y,z',ey,rw,fz⟩:=Rb.at hd;have ex:x=.ref y:=by rw[ey] at hx;exact(Option.some.inj hx).symm
  subst ex;have rw3:=rw.same s3;obtain⟨dr,hy⟩:=id rw3;have et:ds.take (i+1)=ds.take i++[(k,u,v,p)]:=by rw[take_add_one,hd];rfl
  obtain⟨u0,u1,v0,v1⟩:cT (m:Int) u v:=pt _ (mem_of_getElem? hd);refine⟨_,rfl,k,y,dr,_,rfl,hy,(dM _ _ _ (by decide +kernel) (by decide +kernel) (by decide +kernel)),_,rfl,_,rfl,?_⟩
  by_cases hk:k=.pu
  ·refine ifF (decide_eq_false (fun z=>z hk)) ⟨s3,c,_,rfl,nc,?_⟩;rw[et,kJ];unfold iC;rw[if_pos hk];exact ec
  ·refine ifT (decide_eq_true hk) ⟨_,rfl,_,rfl,c,y,mks m (ds.take i),k,u.toNat,v.toNat,.ref z',rfl,SqL.of ec,?_,by rw[gL];lia,by rw[gL];lia,by rw[gL];lia,fun c' H4 s4 nc' ec'=>⟨s3.trans s4,c',_,rfl,?_,?_⟩⟩
   ·rw[show ((u.toNat:Nat):Int)=u by lia,show ((v.toNat:Nat):Int)=v by lia];exact rw3
   ·exact((sD.trans s2).trans s3).free nc'
   ·rw[et,kJ];unfold iC;rw[if_neg hk];exact ec'
 ·rintro σ H3 ⟨s3,c,z,rfl,nc,ec⟩;rw[show ds.take xs.length=ds by rw[lxs,take_length]] at ec;exact⟨_,rfl,q c H3 ((sD.trans s2).trans s3) nc ec⟩
theorem Y37:DZ 6 Z.f37 Z.d37 ["net"] (zJ Z.c_Net Z.K) "floating":=by
 refine⟨?_,F37.b1 _ (by intros;rfl),F37.kp,m37⟩
 refine F37.ok9 Ke fun _ _ _ s H _ Q E hr h=>?_;obtain⟨n,l,m,ds,rfl,nt,pt,h1,hm,h100,q⟩:=h;refine⟨_,(aD (aR (i:=1) Ke.nd rfl (Or.inr rfl) (d9 Y36 hr rfl (aA (pv 0) aC)))
  (aF (aW (eQ (nl:=2) (fr:=[1]) (Nc:=["point","mark","marks"]) (cl:=[("marks",s.heap.objs.size+1)]) (g:=(Ac Z.K 2 (iM (hV 0) (iM (hV 1) zS)))) rfl ⟨rfl,rfl,by decide +kernel,by decide +kernel,fun x c h=>h,fA rfl,rfl,fun i n h=>match i,h with | 0,h=>by cases h;exact⟨1,rfl,rfl,rfl,rfl,.inl rfl⟩ | k+1,h=>by rw[show 2+(k+1)=k+3 by lia] at h;cases h⟩
    (tY rfl n_enumerate rfl (aA (pv 1) aC)) (fun _ _ _ _ _=>(jD rfl (cE (aZ (i:=0) iU rfl (Or.inl rfl)) (cE (aZ (i:=1) iU rfl (Or.inl rfl)) gR)))) (fun _ _ _ _ _=>(nX (bA oQ (pv 1) (aU (iK (K:=Z.K) rfl) (pv 2) aG (fun _ _=>rfl)) (bH _))))
    (fun _ _ _ _ _=>(pv 0)))))),?_⟩
 refine⟨_,rfl,n,l,m,ds,rfl,nt,pt,hm,h100,fun M H1 s1 nM eM=>?_⟩;have mlen:=gL m ds;have hS:SqL Z.K H1 M ((mks m ds).map V.int):=SqL.of eM;refine⟨_,rfl,M,rfl,⟨_,hS⟩,fun D hD=>?_⟩;have sD:=aE hD (.lst []);refine rO (xs:=(mks m ds).map V.int) (fun i zs H'=>aS H1 H'/\H' D=some (.lst zs)/\zs=(((List.range i).filter fun p=>decide (mk m ds p≠mk m ds 0)).map fun (p:Nat)=>V.int (p:Int))) ⟨sD,aB,rfl⟩ (fun i zs H' h=>h.2.1) (fun i zs H' _ h=>h.1.seq hS) ?_ ?_
 ·rintro i zs x H2 T2 hx ⟨s2,e2,rfl⟩ hT C hC;rw[getElem?_map] at hx;obtain⟨c,hc,rfl⟩:=Option.map_eq_some_iff.mp hx;have hi:i < m:=by have:=(List.getElem?_eq_some_iff.mp hc).1;lia
  have ec:c=mk m ds i:=by unfold mk;rw[getD_eq_getElem?_getD,hc];rfl
  have g0:atI ((mks m ds).map V.int) 0=some (.int (mk m ds 0)):=bQ (j:=0) (by unfold mk;rw[getElem?_map,getElem?_eq_getElem (by lia),getD_eq_getElem?_getD,getElem?_eq_getElem (by lia)];rfl);have ll:(((List.range i).filter fun p=>decide (mk m ds p≠mk m ds 0)).map fun (p:Nat)=>V.int (p:Int)).length<=20:=by
   rw[length_map];have:=length_filter_le (fun p=>decide (mk m ds p≠mk m ds 0)) (List.range i);rw[length_range] at this;lia
  have sT:=aE hT (.tup [.int (i:Int),.int c]);refine⟨T2,_,rfl,SqT.of aB,rfl,_,_,rfl,_,_,rfl,rfl,iT.1,iT.2,?_⟩;generalize upd H2 T2 (.tup [.int (i:Int),.int c])=H3 at sT ⊢;have s3:=s2.trans sT;have e3:=sT _ _ e2;refine⟨_,rfl,_,rfl,M,_,_,_,rfl,rfl,s3.seq hS,g0,rfl,_,rfl,?_⟩;subst ec
  by_cases h:mk m ds i=mk m ds 0
  ·refine ifF (by rw[h];simp) (hC _ _ ⟨s3,e3,?_⟩);rw[range_succ,filter_append,filter_cons_of_neg (by simp[h])];simp
  ·refine ifT (by simp[h]) ⟨_,rfl,e3,bB (by lia),hC _ _ ⟨s3.change hD,aB,?_⟩⟩;rw[range_succ,filter_append,filter_cons_of_pos (by simp[h]),map_append];rfl
 ·rintro zs H2 ⟨s2,e2,rfl⟩;refine q D H2 (s1.trans s2) (s1.free hD) ?_;rw[length_map,mlen] at e2;rw[e2];unfold dC;rw[map_map];rfl
theorem Y38:DZ 1 Z.f38 Z.d38 ["rows","numbers","point"] (Ba Z.K (kd3 Z.c_Piece Z.c_Push Z.c_Hold)) "steps_from":=by
 refine⟨?_,F38.b3 _ _ _ (by intros;rfl),F38.kp,m38⟩
 refine F38.ok9 sS fun _ _ _ s H _ Q E hr h=>?_;obtain⟨a,b,xs,ds,es,p,rfl,hA,Rb,hB,hE,h100,q⟩:=h;refine⟨_,(aD (aR (i:=3) sS.nd rfl (Or.inl rfl) (cB aC))
  (aD (eZ PassesOwn.never rfl (cO (pv 1)) (aZ (i:=4) sS.nd rfl (Or.inl rfl))
   (aD (aR (i:=5) sS.nd rfl (Or.inl rfl) (aU bL (pv 0) (pv 4) (fun _ _=>rfl)))
  (aF (cJ (bA eV (bZ (pv 5) rfl) (pv 2) (bH _)) (aF (bX (mB PySem.F.plainAttrs_list PySem.F.slot_list_append PySem.F.type_list_append dU (pv 3) (aA (cS (aA (cS (aA (pv 4) (aA aG aC))) (aA (bZ (pv 5) rfl) aC))) aC)))) (aF (cJ (bA eV (bZ (pv 5) rfl) (pv 2) (bH _)) (aF (bX (mB PySem.F.plainAttrs_list PySem.F.slot_list_append PySem.F.type_list_append dU (pv 3) (aA (cS (aA (cS (aA (pv 4) (aA (Cd wF aG) aC))) (aA (bZ (pv 5) rfl) aC))) aC)))) bO))))))
  (aF (aW (pv 3))))),?_⟩
 refine⟨zl9 0,fun l hl=>?_⟩;have s1:=aE hl (.lst []);have e1:upd H l (.lst []) l=some (.lst []):=aB;generalize upd H l (.lst [])=H1 at s1 e1 ⊢;refine⟨_,rfl,b,rfl,⟨_,s1.seq hB⟩,?_⟩;refine eK (xs:=es.map fun (e:Br)=>V.int ((e.1:Nat):Int)) (fun i σ H'=>aS H H'/\∃(ys:List V) (z4 z5:Option V),σ=[some (.ref a),some (.ref b),some (.int (p:Int)),some (.ref l),z4,z5]/\H' l=some (.lst ys)/\Sds Z.K H' ys (stF (es.take i) p)) ⟨s1,[],none,none,rfl,e1,.nil⟩ (fun i σ H' _ h=>h.1.seq hB) ?_ ?_
 ·rintro i x σ H2 hx ⟨s2,ys,z4,z5,rfl,e2,S2⟩;rw[getElem?_map] at hx;obtain⟨e,he,rfl⟩:=Option.map_eq_some_iff.mp hx;have hi:i < es.length:=(List.getElem?_eq_some_iff.mp he).1;obtain⟨⟨k,u,v,q'⟩,hd,eu,ev⟩:=hE e (mem_of_getElem? he);have eu:u=(e.2.1:Int):=eu;have ev:v=(e.2.2:Int):=ev;subst eu;subst ev;obtain⟨y,z,ey,rw0,fz⟩:=Rb.at hd;have rw2:=rw0.same s2;obtain⟨dx,hx2⟩:=id rw2;have at_:atI xs (e.1:Int)=some (.ref y):=bQ ey;have ly:ys.length<=es.length:=by
   have h1:=S2.length;have h2:(stF (es.take i) p).length<=(es.take i).length:=length_filterMap_le _ _;rw[length_take] at h2;lia
  refine⟨_,rfl,_,rfl,a,xs,_,_,rfl,rfl,s2.seq hA,at_,?_⟩;refine⟨_,rfl,y,(kd3 Z.c_Piece Z.c_Push Z.c_Hold) _,_,_,_,rfl,hx2,T.cl _,T.nS _,dG _ _ _,_,rfl,rfl,_,rfl,?_⟩
  by_cases c1:e.2.1=p
  ·have tk:stF (es.take (i+1)) p=stF (es.take i) p++[((e.1,1),e.2.2)]:=by
    unfold stF;rw[take_add_one,he,filterMap_append];show _++[e].filterMap _=_;rw[filterMap_cons,if_pos c1];rfl
   refine ifT (decide_eq_true (by rw[c1])) ?_;refine⟨_,rfl,.inl ⟨rfl,_,SqL.of e2⟩,_,rfl,zl9 2,fun u hu'=>?_⟩;have su:=aE hu' (.tup [.int (e.1:Int),.int (1)]);have eu:SqT Z.K (upd H2 u (.tup [.int (e.1:Int),.int (1)])) u [.int (e.1:Int),.int (1)]:=SqT.of aB;generalize upd H2 u (.tup [.int (e.1:Int),.int (1)])=H3 at su eu ⊢;obtain⟨dx3,hx3⟩:=id (rw2.same su);refine⟨_,rfl,y,(kd3 Z.c_Piece Z.c_Push Z.c_Hold) _,_,_,_,rfl,hx3,T.cl _,T.nG _,dQ _ _ _,zl9 2,fun t ht=>?_⟩;rw[show (k,(e.2.1:Int),(e.2.2:Int),q').2.2.1=(e.2.2:Int) from rfl];have st:=aE ht (.tup [.ref u,.int (e.2.2:Int)]);have et:SqT Z.K (upd H3 t (.tup [.ref u,.int (e.2.2:Int)])) t [.ref u,.int (e.2.2:Int)]:=SqT.of aB;generalize upd H3 t (.tup [.ref u,.int (e.2.2:Int)])=H4 at st et ⊢;have s24:=su.trans st;have e4:=s24 _ _ e2;refine⟨l,_,_,rfl,rfl,e4,bB (by lia),⟨(s2.trans s24).change hl,_,_,_,rfl,aB,?_⟩⟩;rw[tk];exact Sds.upd e4 ((S2.same s24).app (.cons et (st.seqT eu) .nil))
  ·refine ifF (decide_eq_false (fun z=>c1 (by have:(e.2.1:Int)=(p:Int):=(by injection z);lia))) ?_;refine⟨_,rfl,y,(kd3 Z.c_Piece Z.c_Push Z.c_Hold) _,_,_,_,rfl,hx2,T.cl _,T.nG _,dQ _ _ _,_,rfl,rfl,_,rfl,?_⟩
   by_cases c2:e.2.2=p
   ·have tk:stF (es.take (i+1)) p=stF (es.take i) p++[((e.1,-1),e.2.1)]:=by
     unfold stF;rw[take_add_one,he,filterMap_append];show _++[e].filterMap _=_;rw[filterMap_cons,if_neg c1,if_pos c2];rfl
    refine ifT (decide_eq_true (by rw[c2])) ?_;refine⟨_,rfl,.inl ⟨rfl,_,SqL.of e2⟩,_,rfl,_,rfl,zl9 2,fun u hu'=>?_⟩;have su:=aE hu' (.tup [.int (e.1:Int),.int (-1)]);have eu:SqT Z.K (upd H2 u (.tup [.int (e.1:Int),.int (-1)])) u [.int (e.1:Int),.int (-1)]:=SqT.of aB;generalize upd H2 u (.tup [.int (e.1:Int),.int (-1)])=H3 at su eu ⊢;obtain⟨dx3,hx3⟩:=id (rw2.same su);refine⟨_,rfl,y,(kd3 Z.c_Piece Z.c_Push Z.c_Hold) _,_,_,_,rfl,hx3,T.cl _,T.nS _,dG _ _ _,zl9 2,fun t ht=>?_⟩;rw[show (k,(e.2.1:Int),(e.2.2:Int),q').2.1=(e.2.1:Int) from rfl];have st:=aE ht (.tup [.ref u,.int (e.2.1:Int)]);have et:SqT Z.K (upd H3 t (.tup [.ref u,.int (e.2.1:Int)])) t [.ref u,.int (e.2.1:Int)]:=SqT.of aB;generalize upd H3 t (.tup [.ref u,.int (e.2.1:Int)])=H4 at st et ⊢;have s24:=su.trans st;have e4:=s24 _ _ e2;refine⟨l,_,_,rfl,rfl,e4,bB (by lia),⟨(s2.trans s24).change hl,_,_,_,rfl,aB,?_⟩⟩;rw[tk];exact Sds.upd e4 ((S2.same s24).app (.cons et (st.seqT eu) .nil))
   ·have tk:stF (es.take (i+1)) p=stF (es.take i) p:=by
     unfold stF;rw[take_add_one,he,filterMap_append];show _++[e].filterMap _=_;rw[filterMap_cons,if_neg c1,if_neg c2];simp
    refine ifF (decide_eq_false (fun z=>c2 (by have:(e.2.2:Int)=(p:Int):=(by injection z);lia))) ⟨s2,ys,_,_,rfl,e2,?_⟩;rw[tk];exact S2
 rintro σ H2 ⟨s2,ys,z4,z5,rfl,e2,S2⟩;rw[length_map,take_length] at S2;exact⟨_,rfl,q l ys H2 s2 hl e2 S2⟩
theorem Y39:DZ 2 Z.f39 Z.d39 ["rows","numbers","begin","end"] (Pk Z.K (kd3 Z.c_Piece Z.c_Push Z.c_Hold)) "way_along":=by
 refine⟨?_,F39.b4 _ _ _ _ (by intros;rfl),F39.kp,m39⟩
 refine F39.ok9 Dr fun _ _ _ s H _ Q E hr h=>?_;obtain⟨a,b,xs,ds,es,m,f,t,rfl,hA,Rb,hB,hE,h100,hm,h20,hf,qN,qS⟩:=h;refine⟨_,(aD (aR (i:=4) Dr.nd rfl (Or.inl rfl) (Ig (mP (pv 2) (cB aC) Jc) rfl rfl (by simp) (by decide)))
  (aD (aR (i:=5) Dr.nd rfl (Or.inl rfl) (cB (aA (pv 2) aC)))
  (aD (uV PassesOwn.never (bA Jh (bM bU rfl n_len PySem.boot_len (aA (pv 5) aC)) aG (bH _))
   (aD (aR (i:=6) Dr.nd rfl (Or.inl rfl) (qa4 PySem.F.plainAttrs_list PySem.F.slot_list_pop PySem.F.type_list_pop qd4 (pv 5)))
   (aF (eZ PassesOwn.never rfl (cO (d9 Y38 hr rfl (aA (pv 0) (aA (pv 1) (aA (pv 6) aC))))) (aZ (i:=7) Dr.nd rfl (Or.inl rfl))
    (aF (cJ (qK (Mh (Cf hr) (aU aY (pv 7) aG (fun _ _=>rfl)) (pv 4)))
     (aD (Tn (Cf hr) (pv 4) (aU aY (pv 7) aG (fun _ _=>rfl)) (bC kA (sY (Cf hr) (pv 4) (pv 6) (fun _ _=>rfl)) (cB (aA (aU aY (pv 7) aG (fun _ _=>rfl)) aC))) rfl)
     (aF (bX (mB PySem.F.plainAttrs_list PySem.F.slot_list_append PySem.F.type_list_append dU (pv 5) (aA (aU aY (pv 7) aG (fun _ _=>rfl)) aC)))))
     bO))))))
  (aF (aW (Sj (Cf hr) (pv 4) (pv 3) ⟨rfl,rfl,rfl,rfl⟩)))))),?_⟩
 refine fun D hD=>?_;have sD:=aE hD (.dK []);have eD:upd H D (.dK []) D=some (.dK []):=aB;generalize upd H D (.dK [])=H1 at sD eD ⊢;refine⟨_,rfl,zl9 0,fun L hL=>?_⟩;have nLD:L≠D:=Ne.symm (aX eD hL);have nL:H L=none:=sD.free hL;have sL:=aE hL (.lst []);have eL:upd H1 L (.lst []) L=some (.lst []):=aB;generalize upd H1 L (.lst [])=H2 at sL eL ⊢;refine⟨sL _ _ eD,[((Sum.inl (f:Int):Key),V.ref L)],rfl,by show 1<=15;decide,?_⟩;have s3:aS H (upd H2 D (.dK (jV [] [((Sum.inl (f:Int):Key),V.ref L)]))):=(sD.trans sL).change hD;have e3:upd H2 D (.dK (jV [] [((Sum.inl (f:Int):Key),V.ref L)])) D=some (.dK [((Sum.inl (f:Int):Key),V.ref L)]):=aB;have eL3:upd H2 D (.dK (jV [] [((Sum.inl (f:Int):Key),V.ref L)])) L=some (.lst []):=by rw[aQ nLD];exact eL
 generalize upd H2 D (.dK (jV [] [((Sum.inl (f:Int):Key),V.ref L)]))=H3 at s3 e3 eL3 ⊢;refine⟨_,rfl,zl9 1,fun W hW=>?_⟩;have nLW:L≠W:=aX eL3 hW;have nDW:D≠W:=aX e3 hW;have nW:H W=none:=s3.free hW;have sW:=aE hW (.lst [.int (f:Int)]);have eW:upd H3 W (.lst [.int (f:Int)]) W=some (.lst [.int (f:Int)]):=aB;generalize upd H3 W (.lst [.int (f:Int)])=H4 at sW eW ⊢;have s4:=s3.trans sW;have w4:Wys Z.K H W H4 [((Sum.inl (f:Int):Key),V.ref L)] (cG es f 0).1:=.cons nL nLW (sW _ _ eL3) .nil .nil;refine tZ (fun σ H'=>aS H H'/\∃(i:Nat) (kvs:List (Key × V)) (z6 z7:Option V),σ=[some (.ref a),some (.ref b),some (.int (f:Int)),some (.int (t:Int)),some (.ref D),some (.ref W),z6,z7]/\H' D=some (.dK kvs)/\H' W=some (.lst ((cG es f i).2.map fun (p:Nat)=>V.int (p:Int)))/\Wys Z.K H W H' kvs (cG es f i).1/\i<=40) muW ⟨s4,0,_,none,none,rfl,sW _ _ e3,eW,w4,by lia⟩ ?_ ?_
 ·rintro σ H5 ⟨s5,i,kvs,z6,z7,rfl,e5,q5,w5,hi⟩;have lk:=w5.length;have wi:=jT es f i;have le20:=Se hm hf wi.nd wi.pt;refine⟨_,rfl,W,_,rfl,.inl (SqL.of q5),_,_,rfl,rfl,_,rfl,?_⟩
  by_cases hq:(cG es f i).2=[]
  ·-- it ends
   rw[hq] at q5;refine ifF (by rw[hq];rfl) ?_;have e60:=Wj hq (by lia);refine⟨_,rfl,D,rfl,.inl ⟨kvs,.inl e5⟩,_,rfl,_,kI.k (k:=Sum.inl (t:Int)) e5,?_⟩
   by_cases c:t∈cF (cG es f i).1
   ·obtain⟨l,ys,st,ev,eg,nl,_,hl,f'⟩:=w5.some_ c;rw[ev];refine qS st ?_ l ys H5 s5 nl hl f';unfold kW;rw[e60];exact eg
   ·rw[(w5.none_ c).1];refine qN ?_ H5 s5;unfold kW;rw[e60];exact rB c
  ·have mu0:=Sa (a:=some (.ref a)) (b:=some (.ref b)) (c:=some (.int (f:Int))) (d:=some (.int (t:Int))) (e:=z6) (f:=z7) e5 q5;have hi39:i+muF (cG es f i)<=39:=by
    rcases rC hm hf h20 i with z | z
    ·exact absurd z hq
    ·exact z
   have stp:cG es f (i+1)=(stF es ((cG es f i).2.getLastD 0)).foldl (inF ((cG es f i).2.getLastD 0)) ((cG es f i).1,(cG es f i).2.dropLast):=by
    show lQ es (cG es f i)=_;unfold lQ;rw[if_neg hq]
   have iC:=Ji hm hf h20 wi hq;have iC:muF (cG es f (i+1))+1<=muF (cG es f i):=iC;have wj0:=wD wi hq;have pk:=wj0.kp;obtain⟨ml1,ml2⟩:=Qn hq;generalize hp:(cG es f i).2.getLastD 0=p at *
   have ll:0 < ((cG es f i).2.map fun (p:Nat)=>V.int (p:Int)).length:=by rw[length_map];exact length_pos_iff.mpr hq
   refine ifT (by show decide (0 < ((((cG es f i).2.map fun (p:Nat)=>V.int (p:Int)).length:Nat):Int))=true;exact decide_eq_true (by lia)) ?_;refine⟨_,rfl,.inl ⟨rfl,_,SqL.of q5⟩,W,_,_,rfl,rfl,q5,ml1,?_⟩;rw[ml2];have s6:aS H (upd H5 W (.lst ((cG es f i).2.dropLast.map fun (p:Nat)=>V.int (p:Int)))):=s5.change nW;have e6:upd H5 W (.lst ((cG es f i).2.dropLast.map fun (p:Nat)=>V.int (p:Int))) D=some (.dK kvs):=by rw[aQ nDW];exact e5
   have q6:upd H5 W (.lst ((cG es f i).2.dropLast.map fun (p:Nat)=>V.int (p:Int))) W=some (.lst ((cG es f i).2.dropLast.map fun (p:Nat)=>V.int (p:Int))):=aB;have w6:=w5.updW (o:=.lst ((cG es f i).2.dropLast.map fun (p:Nat)=>V.int (p:Int))) q5;generalize upd H5 W (.lst ((cG es f i).2.dropLast.map fun (p:Nat)=>V.int (p:Int)))=H6 at s6 e6 q6 w6 ⊢;refine⟨_,rfl,_,rfl,_,rfl,a,b,xs,ds,es,p,rfl,s6.seq hA,Rb.same s6,s6.seq hB,hE,h100,fun l ys H7 s7 nl el S7=>?_⟩;have s07:=s6.trans s7;have nlW:l≠W:=Ne.symm (aX q6 nl);have nlD:l≠D:=Ne.symm (aX e6 nl);have nlH:H l=none:=s6.free nl;have lys:=S7.length;refine⟨l,rfl,⟨_,SqL.of el⟩,?_⟩;refine eK (xs:=ys) (fun j σ H'=>aS H H'/\H' l=some (.lst ys)/\Sds Z.K H' ys (stF es p)/\∃(kvs:List (Key × V)) (z7:Option V),σ=[some (.ref a),some (.ref b),some (.int (f:Int)),some (.int (t:Int)),some (.ref D),some (.ref W),some (.int (p:Int)),z7]/\H' D=some (.dK kvs)/\H' W=some (.lst ((((stF es p).take j).foldl (inF p) ((cG es f i).1,(cG es f i).2.dropLast)).2.map fun (p:Nat)=>V.int (p:Int)))/\Wys Z.K H W H' kvs (((stF es p).take j).foldl (inF p) ((cG es f i).1,(cG es f i).2.dropLast)).1) ⟨s07,el,S7,kvs,z7,rfl,s7 _ _ e6,s7 _ _ q6,w6.same s7⟩ (fun j σ H' _ h=>SqL.of h.2.1) ?_ ?_
   ·rintro j x σ H8 hx ⟨s8,el8,S8,kv8,z7',rfl,e8,q8,w8⟩;obtain⟨tt,u,s,rfl,es',hT,hU⟩:=S8.get hx;have hj:j < (stF es p).length:=(List.getElem?_eq_some_iff.mp es').1;have gs:pD es s.1 p s.2:=mZ (mem_of_getElem? es');have wj:=Bq ((stF es p).take j) [] wj0 fun z hz=>mZ (mem_of_mem_take hz);have fold1:((stF es p).take (j+1)).foldl (inF p) ((cG es f i).1,(cG es f i).2.dropLast)=inF p (((stF es p).take j).foldl (inF p) ((cG es f i).1,(cG es f i).2.dropLast)) s:=by
     rw[take_add_one,es',foldl_append];rfl
    rw[fold1];have wj':=Jo wj gs;have le8:=Se hm hf wj.nd wj.pt;have lS:=qc1 hm hf h20 wj0 (j:=j) (T:=stF es p) (fun z hz=>mZ hz);have mb:=Db hq;generalize ((stF es p).take j).foldl (inF p) ((cG es f i).1,(cG es f i).2.dropLast)=S at q8 w8 wj wj' le8 lS ⊢;have lS2:S.2.length<=100:=by lia
    have lk8:=w8.length;obtain⟨⟨sn,sw⟩,sx⟩:=s;have hT:SqT Z.K H8 tt [.ref u,.int (sx:Int)]:=hT;refine⟨_,rfl,tt,_,1,_,rfl,rfl,hT,rfl,_,rfl,D,_,rfl,kI.k (k:=Sum.inl (sx:Int)) e8,_,rfl,?_⟩
    by_cases c:sx∈cF S.1
    ·refine ifF (by rw[w8.isSome,decide_eq_true c];rfl) ⟨s8,el8,S8,kv8,_,rfl,e8,?_,?_⟩
     ·show H8 W=some (.lst ((inF p S ((sn,sw),sx)).2.map fun (p:Nat)=>V.int (p:Int)));unfold inF;rw[if_pos c];exact q8
     ·show Wys Z.K H W H8 kv8 (inF p S ((sn,sw),sx)).1;unfold inF;rw[if_pos c];exact w8
    ·refine ifT (by rw[w8.isSome,decide_eq_false c];rfl) ?_;obtain⟨ap,xp,sp,ev,eg,nap,nwp,hap,fp⟩:=w8.some_ wj.kp;have lsp:=fp.length;have lsp2:sp.length<=20:=by
      obtain⟨pts,pt1,pt2⟩:=wj.pt p sp (gQ eg);exact Ys hm hf h20 wj.nd wj.pt pt1 pt2
     refine⟨_,rfl,_,rfl,D,.ref ap,rfl,(by have:=kI.k (k:=Sum.inl (p:Int)) e8;rw[ev] at this;exact this),?_⟩;refine⟨_,rfl,tt,_,0,_,rfl,rfl,hT,rfl,zl9 1,fun L1 hL1=>?_⟩;have s9:=aE hL1 (.lst [.ref u]);have e9:upd H8 L1 (.lst [.ref u]) L1=some (.lst [.ref u]):=aB;generalize upd H8 L1 (.lst [.ref u])=H9 at s9 e9 ⊢;refine⟨ap,L1,_,_,rfl,rfl,s9 _ _ hap,e9,by rw[sizeLine_eq];simp only[length_cons,length_nil];lia,fun C hC=>?_⟩;have nC8:H8 C=none:=s9.free hC;have sA:=aE hC (.lst (xp++[.ref u]));have eA:upd H9 C (.lst (xp++[.ref u])) C=some (.lst (xp++[.ref u])):=aB;generalize upd H9 C (.lst (xp++[.ref u]))=HA at sA eA ⊢;have s8A:=s9.trans sA;have nCW:C≠W:=Ne.symm (aX q8 nC8);have nCD:C≠D:=Ne.symm (aX e8 nC8);have eDA:=s8A _ _ e8;refine⟨_,rfl,_,rfl,tt,_,1,_,rfl,rfl,s8A.seqT hT,rfl,D,_,rfl,Qe.k (k:=Sum.inl (sx:Int)) eDA (by rw[sizeLine_eq];lia),?_⟩;have put:mC kv8 (Sum.inl (sx:Int)) (.ref C)=kv8++[(Sum.inl (sx:Int),.ref C)]:=by unfold mC;rw[if_neg (by rw[(w8.none_ c).2];simp)]
     rw[put];have eB:upd HA D (.dK (kv8++[(Sum.inl (sx:Int),.ref C)])) D=some (.dK (kv8++[(Sum.inl (sx:Int),.ref C)])):=aB;have qB:upd HA D (.dK (kv8++[(Sum.inl (sx:Int),.ref C)])) W=some (.lst (S.2.map fun (p:Nat)=>V.int (p:Int))):=by rw[aQ (Ne.symm nDW)];exact s8A _ _ q8
     have sB:aS H (upd HA D (.dK (kv8++[(Sum.inl (sx:Int),.ref C)]))):=(s8.trans s8A).change hD;have wB:Wys Z.K H W (upd HA D (.dK (kv8++[(Sum.inl (sx:Int),.ref C)]))) (kv8++[(Sum.inl (sx:Int),.ref C)]) (S.1++[(sx,sp++[(sn,sw)])]):=
      Wys.snoc (s8.free nC8) nCW (by rw[aQ nCD];exact eA) (((fp.same s8A).app (.cons (s8A.seqT hU) .nil)).updD eDA) ((w8.same s8A).updD eDA)
     have elB:upd HA D (.dK (kv8++[(Sum.inl (sx:Int),.ref C)])) l=some (.lst ys):=by rw[aQ nlD];exact s8A _ _ el8
     have SB:=(S8.same s8A).updD (o:=.dK (kv8++[(Sum.inl (sx:Int),.ref C)])) eDA;have hTB:=SqT.updD (o:=.dK (kv8++[(Sum.inl (sx:Int),.ref C)])) (s8A.seqT hT) eDA;generalize upd HA D (.dK (kv8++[(Sum.inl (sx:Int),.ref C)]))=HB at eB qB sB wB elB SB hTB ⊢;refine⟨_,rfl,.inl ⟨rfl,_,SqL.of qB⟩,_,rfl,tt,_,1,_,rfl,rfl,hTB,rfl,W,_,_,rfl,rfl,qB,bB (by rw[length_map];lia),?_⟩;have inE:inF p S ((sn,sw),sx)=(S.1++[(sx,sp++[(sn,sw)])],S.2++[sx]):=by
      unfold inF;rw[if_neg c,eg];rfl
     rw[inE];refine⟨sB.change nW,by rw[aQ nlW];exact elB,SB.upd qB,_,_,rfl,by rw[aQ nDW];exact eB,?_,wB.updW qB⟩;rw[aB,map_append];rfl
   ·rintro σ H8 ⟨s8,el8,S8,kv8,z7',rfl,e8,q8,w8⟩;rw[lys,take_length,<- stp] at q8 w8;have lk8:=w8.length;refine⟨⟨s8,i+1,kv8,_,_,rfl,e8,q8,w8,by lia⟩,?_⟩;rw[mu0,Sa e8 q8,length_map,length_map,lk,lk8];unfold muF at iC;lia
 ·rintro σ H Q Q' mono ⟨v,h1,p',ys,h2,h3,i,j,h4,h5,k,h6,h7⟩;exact⟨v,h1,p',ys,h2,h3,i,j,h4,h5,k,h6,mono _ _ h7⟩
theorem Y40:DZ 5 Z.f40 (W.fnOf ("rings") ("rings") (dY iO) (cU iO) (aH iO) (.ref Z.T40) Z.kV40 Z.dc40 Z.pm40 Z.an40 Z.cd40 Z.ct40) ["net","words"] (tH Z.c_Net Z.K) "rings":=by
 refine⟨?_,b40,F40.kp,m40⟩
 refine F40.ok9 jS fun _ _ _ s H _ Q E hr h=>?_;obtain⟨n,l,v,m,ds,W,rfl,nt,pt,h20,h40,hW,q⟩:=h;have r1:=hr.mono (show 1<=4 by lia);have r2:=hr.mono (show 2<=4 by lia);refine⟨_,(aD (aR (i:=2) jS.nd rfl (Or.inl rfl) (pS (qK (vW (pv 1))) (dA (v:=.ref Z.aJ) rfl mv_JOINING_WORDS rfl) (pv 1)))
  (aD (aR (i:=3) jS.nd rfl (Or.inl rfl) (dD (pv 0) NTx.cl X4 R33 hr b33 .nil aM))
  (aD (aR (i:=4) jS.nd rfl (Or.inl rfl) (cB aC))
  (aD (aR (i:=5) jS.nd rfl (Or.inl rfl) (cB aC))
  (aD (eZ PassesOwn.never rfl (tY rfl n_enumerate rfl (aA (pv 3) aC)) (jD rfl (cE (aZ (i:=6) jS.nd rfl (Or.inl rfl)) (cE (aZ (i:=7) jS.nd rfl (Or.inl rfl)) gR)))
   (aF (cJ (bA xQ (fH (pv 7) T.cl mW GW r1 bW .nil aM) (pv 2) rfl) (aD (aR (i:=8) jS.nd rfl (Or.inl rfl) (d9 Y39 r2 rfl (aA (pv 3) (aA (pv 4) (aA (bZ (pv 7) rfl) (aA (bZ (pv 7) rfl) aC))))))
  (aF (cJ (qK (vW (pv 8))) (aF (bX (mB PySem.F.plainAttrs_list PySem.F.slot_list_append PySem.F.type_list_append dU (pv 4) (aA (pv 6) aC)))) (aF (bX (mB PySem.F.plainAttrs_list PySem.F.slot_list_append PySem.F.type_list_append dU (pv 5) (aA (bC kA (cB (aA (cS (aA (pv 6) (aA aG aC))) aC)) (pv 8)) aC))))))) bO)))
  (aF (aW (pv 5)))))))),?_⟩
 refine qV (fun σ' H'=>H'=H/\∃wv,σ'=[some (.ref n),some v,some wv,none,none,none,none,none,none]/\WdA Z.K H wv W) (fun X hX=>?_) ?_
 ·cases hW with
  |non=>exact⟨_,rfl,_,rfl,ifT rfl (hX _ _ ⟨rfl,_,rfl,Z.aJ,_,rfl,.inr (fJ0 H),rfl,qg9⟩)⟩
  | @seq a ws h Z.f40=>exact⟨_,rfl,_,rfl,ifF rfl ⟨_,rfl,hX _ _ ⟨rfl,_,rfl,a,_,rfl,.inl h,Z.f40,fun _=>rfl⟩⟩⟩
 rintro σ' H' ⟨hH',wv,rfl,hw⟩;subst hH';obtain⟨dx,hn⟩:=nt.ob;refine⟨_,rfl,n,dx,_,rfl,hn,dE _ _ (by decide +kernel) (by decide +kernel),n,l,_,ds,rfl,nt,by lia,fun a xs H1 s1 na ea Rb=>?_⟩;have lxs:=Rb.length;refine⟨zl9 0,fun B hB=>?_⟩;have nB:H' B=none:=s1.free hB;have sB:=aE hB (.lst []);have eB:upd H1 B (.lst []) B=some (.lst []):=aB;generalize upd H1 B (.lst [])=H2 at sB eB ⊢;refine⟨zl9 0,fun F40 hF=>?_⟩;have nF:H' F40=none:=(s1.trans sB).free hF;have nBF:B≠F40:=aX eB hF;have sF:=aE hF (.lst []);have eF:upd H2 F40 (.lst []) F40=some (.lst []):=aB;generalize upd H2 F40 (.lst [])=H3 at sF eF ⊢;have s3:=s1.trans (sB.trans sF);have ea3:=(sB.trans sF) _ _ ea;have naB:a≠B:=aX ea hB;have naF:a≠F40:=aX (sB _ _ ea) hF;have sk:=oV ds;have slt:=Di pt;have s13:=sB.trans sF;refine⟨_,rfl,a,rfl,⟨_,SqL.of ea3⟩,?_⟩;have nB1:H1 B=none:=hB;have nF1:H1 F40=none:=sB.free hF;refine Rt (xs:=xs) (fun i σ HH=>aS H1 HH/\∃(us:List V) (z6 z7 z8:Option V),σ=[some (.ref n),some v,some wv,some (.ref a),some (.ref B),some (.ref F40),z6,z7,z8]/\HH B=some (.lst ((bY W (skl ds) i).1.map fun (e:Br)=>V.int ((e.1:Nat):Int)))/\HH F40=some (.lst us)/\Rgs Z.K H' HH us ((bY W (skl ds) i).2.map (·.2))/\∀x∈us,x≠.ref F40/\x≠.ref B) ⟨s13,[],none,none,none,rfl,sF _ _ eB,eF,.nil,fun x hx=>(by cases hx)⟩ (fun i σ HH _ h=>h.1.seq (SqL.of ea)) ?_ ?_
 ·rintro i x σ H4 T2 hx ⟨s4,us,z6,z7,z8,rfl,eB4,eF4,G4,nx4⟩ hT;have hi:i < ds.length:=by
   have:=(List.getElem?_eq_some_iff.mp hx).1;lia
  obtain⟨⟨k0,u,v0,p0⟩,hd⟩:∃d,ds[i]?=some d:=⟨_,getElem?_eq_getElem hi⟩
  obtain⟨y,z,ey,rw0,fz0⟩:=Rb.at hd;have ex:x=.ref y:=by rw[ey] at hx;exact(Option.some.inj hx).symm
  subst ex;obtain⟨u0,u1,v1,v2⟩:cT (m:Int) u v0:=pt _ (mem_of_getElem? hd);obtain⟨uN,rfl⟩:∃n:Nat,u=(n:Int):=⟨u.toNat,by lia⟩
  obtain⟨vN,rfl⟩:∃n:Nat,v0=(n:Int):=⟨v0.toNat,by lia⟩
  have skd:(skl ds)[i]?=some (k0,uN,vN):=by
   have:=Xd hd
   rwa [show ((k0,(uN:Int),(vN:Int),p0):RD).2.1.toNat=uN from Int.toNat_natCast uN,show ((k0,(uN:Int),(vN:Int),p0):RD).2.2.1.toNat=vN from Int.toNat_natCast vN] at this
  have ri:=jA (W:=W) slt i (by lia);have bo:=Uy pt ri;have bl':=Qx (W:=W) (sk:=skl ds) i;have gl:=G4.l;rw[length_map] at gl;have rl:=ri.rl;have succ:=gN (W:=W) skd;generalize bY W (skl ds) i=S at eB4 G4 ri bo bl' gl rl succ;have sT:=aE hT (.tup [.int (i:Int),.ref y]);refine⟨T2,_,rfl,SqT.of aB,rfl,_,_,rfl,_,_,rfl,rfl,?_⟩;have nT1:H1 T2=none:=s4.free hT;generalize upd H4 T2 (.tup [.int (i:Int),.ref y])=H5 at sT ⊢;have s5:=s4.trans sT;have eB5:=sT _ _ eB4;have eF5:=sT _ _ eF4;have G5:=G4.same sT;obtain⟨dr,hy⟩:=id (rw0.same s5);obtain⟨pw,ws,ew,hws,fl,hinv⟩:=hw.same (s1.trans s5);refine⟨_,rfl,k0,y,dr,_,rfl,hy,(dM _ _ _ (by decide +kernel) (by decide +kernel) (by decide +kernel)),_,rfl,_,rfl,pw,ws,ew,hws,rfl,fl,_,rfl,?_⟩;have hin:inV (.str k0.wd) ws=W k0:=hinv k0
  by_cases hk:W k0=true
  ·refine ifT (by show (if false=true then _ else inV (V.str k0.wd) ws)=true;rw[if_neg (by decide),hin];exact hk) ?_;refine⟨_,rfl,_,rfl,_,rfl,y,(kd3 Z.c_Piece Z.c_Push Z.c_Hold) _,_,_,_,rfl,hy,T.cl _,T.nG _,dQ _ _ _,_,rfl,y,(kd3 Z.c_Piece Z.c_Push Z.c_Hold) _,_,_,_,rfl,hy,T.cl _,T.nS _,dG _ _ _,a,B,xs,ds,S.1,m,vN,uN,rfl,s5.seq (SqL.of ea),Rb.same s5,SqL.of eB5,bo,by lia,ri.pt,h20,by lia,fun hnone H6 s6=>?_,fun st hst l' ys H6 s6 nl el S6=>?_⟩
   ·refine⟨_,rfl,_,rfl,ifT rfl ?_⟩;have eB6:=s6 _ _ eB5;have s06:=s5.trans s6;refine⟨_,rfl,.inl ⟨rfl,_,SqL.of eB6⟩,_,rfl,B,_,_,rfl,rfl,eB6,bB (by rw[length_map];lia),?_⟩;have eS:fP W S i (k0,uN,vN)=(S.1++[(i,uN,vN)],S.2):=by
     unfold fP;rw[if_pos hk,hnone]
    rw[succ,eS];refine⟨s06.change nB1,us,_,_,_,rfl,?_,by rw[aQ (Ne.symm nBF)];exact s6 _ _ eF5,(G5.same s6).updO eB6 (fun x hx=>(nx4 x hx).2),nx4⟩;rw[aB,map_append];rfl
   ·refine⟨_,rfl,_,rfl,ifF rfl ?_⟩;have eF6:=s6 _ _ eF5;have s06:=s5.trans s6;refine⟨_,rfl,.inl ⟨rfl,_,SqL.of eF6⟩,_,rfl,zl9 2,fun t ht=>?_⟩;have st7:=aE ht (.tup [.int (i:Int),.int 1]);have et:SqT Z.K (upd H6 t (.tup [.int (i:Int),.int 1])) t [.int (i:Int),.int 1]:=SqT.of aB;generalize upd H6 t (.tup [.int (i:Int),.int 1])=H7 at st7 et ⊢;refine⟨zl9 1,fun L1 hL1=>?_⟩;have s8:=aE hL1 (.lst [.ref t]);have e8:upd H7 L1 (.lst [.ref t]) L1=some (.lst [.ref t]):=aB;generalize upd H7 L1 (.lst [.ref t])=H8 at s8 e8 ⊢;have lst':=yE ri.pt (show vN < m by lia) hst;have lys:=S6.length;refine⟨_,rfl,L1,l',_,_,rfl,rfl,e8,(st7.trans s8) _ _ el,by rw[sizeLine_eq];simp only[length_cons,length_nil];lia,fun C hC=>?_⟩;have nC8:H8 C=none:=hC;have s9:=aE hC (.lst ([.ref t]++ys));have e9:upd H8 C (.lst ([.ref t]++ys)) C=some (.lst ([.ref t]++ys)):=aB;generalize upd H8 C (.lst ([.ref t]++ys))=H9 at s9 e9 ⊢;have s69:=st7.trans (s8.trans s9);have eF9:=s69 _ _ eF6;have s09:=s06.trans s69;have nCF:C≠F40:=Ne.symm (aX ((st7.trans s8) _ _ eF6) nC8);have nCB:C≠B:=Ne.symm (aX ((st7.trans s8) _ _ (s6 _ _ eB5)) nC8);refine⟨F40,_,_,rfl,rfl,eF9,bB (by lia),?_⟩;have eS:fP W S i (k0,uN,vN)=(S.1,S.2++[(i,(i,1) :: st)]):=by
     unfold fP;rw[if_pos hk,hst]
    rw[succ,eS];have SC:Sts Z.K H9 ([.ref t]++ys) ((i,1) :: st):=.cons ((s8.trans s9).seqT et) (S6.same s69);refine⟨s09.change nF1,us++[.ref C],_,_,_,rfl,by rw[aQ nBF];exact s69 _ _ (s6 _ _ eB5),aB,?_,fun x hx=>?_⟩
    ·rw[map_append];have G9:=((G5.same s6).same s69).snoc (((s1.trans s06).trans (st7.trans s8)).free nC8) e9 SC;refine G9.updO eF9 fun x hx=>?_;rcases mem_append.mp hx with z | z
     ·exact(nx4 x z).1
     ·have:x=.ref C:=by simpa using z
      rw[this];exact fun z=>nCF (by injection z)
    ·rcases mem_append.mp hx with z | z
     ·exact nx4 x z
     ·have:x=.ref C:=by simpa using z
      rw[this];exact⟨fun z=>nCF (by injection z),fun z=>nCB (by injection z)⟩
  ·refine ifF (by show (if false=true then _ else inV (V.str k0.wd) ws)=false;rw[if_neg (by decide),hin];simpa using hk) ?_;have eS:fP W S i (k0,uN,vN)=S:=by
    unfold fP;rw[if_neg hk]
   rw[succ,eS];exact⟨s5,us,_,_,_,rfl,eB5,eF5,G5,nx4⟩
 rintro σ H4 ⟨s4,us,z6,z7,z8,rfl,eB4,eF4,G4,nx4⟩;rw[lxs] at G4;exact⟨_,rfl,q F40 us H4 (s1.trans s4) nF eF4 G4 fun x hx=>(nx4 x hx).1⟩
theorem X5:bV [.int 1] ([.int 1 Z.tk6]):=.cons ⟨_,rfl⟩ .nil
theorem Y41:DZ 5 Z.f41 Z.d41 ["net","ring"] (Gu Z.c_Net Z.K) "ring_sum":=by
 refine⟨?_,F41.b2 _ _ (by intros;rfl),F41.kp,m41⟩
 refine F41.ok9 Qr fun cdv A outer s H vs Q E hr h=>?_;obtain⟨n,l,b,m,ds,xs,st,rfl,nt,h100,hK,hB,hS,h21,hst,q⟩:=h;have r2:=hr.mono (show 2<=4 by lia);have r3:=hr.mono (show 3<=4 by lia);refine⟨_,(aD (aR (i:=2) Qr.nd rfl (Or.inr rfl) (dD (pv 0) NTx.cl X4 R33 hr b33 .nil aM))
  (aF (aW (aI Y11.G hr rfl m11 F11.kp Y11.b .nil aM (aA (eQ (nl:=2) (fr:=[2]) (Nc:=["number","way","rows"]) (cl:=[("rows",s.heap.objs.size+1)]) (g:=(Ac Z.K 2 (iM (hV 0) (iM (hV 1) zS)))) rfl ⟨rfl,rfl,by decide +kernel,by decide +kernel,fun x c h=>h,fA rfl,rfl,fun i n h=>match i,h with | 0,h=>by cases h;exact⟨2,rfl,rfl,rfl,rfl,.inl rfl⟩ | k+1,h=>by rw[show 2+(k+1)=k+3 by lia] at h;cases h⟩
    (cO (pv 1)) (fun _ _ _ _ _=>(jD rfl (cE (aZ (i:=0) iZ rfl (Or.inl rfl)) (cE (aZ (i:=1) iZ rfl (Or.inl rfl)) gR)))) (fun _ _ _ _ _=>gD)
    (fun _ _ _ _ _=>(aI Y9.G r3 rfl m9 F9.kp Y9.b .nil aM (aA (aI Y6.G r2 rfl m6 F6.kp bd6 X5 aM (aA (pv 1) aC)) (aA (Ub (K:=Z.K) rfl (aU (iK (K:=Z.K) rfl) (pv 2) (pv 0) (fun _ _=>rfl)) rfl) aC))))) aC))))),?_⟩
 obtain⟨dx,hn⟩:=nt.ob;refine⟨_,rfl,n,dx,_,rfl,hn,dE _ _ (by decide +kernel) (by decide +kernel),n,l,_,ds,rfl,nt,h100,fun a ys H1 s1 na ea Rb=>?_⟩;have lx:=hS.length;refine⟨_,rfl,b,rfl,⟨_,s1.seq hB⟩,fun D hD=>?_⟩;have sD:=aE hD (.lst []);refine dW (xs:=xs) (fun i zs H'=>aS H1 H'/\H' D=some (.lst zs)/\Fqs Z.K H' zs ((st.take i).map (fV ds))) ⟨sD,aB,.nil⟩ (fun i zs H' h=>h.2.1) (fun i zs H' _ h=>(s1.trans h.1).seq hB) ?_ ?_
 ·rintro i zs x H2 hx ⟨s2,e2,F2⟩ C hC;obtain⟨tt,s,rfl,es,hT⟩:=(hS.same (s1.trans s2)).get hx;have hi:i < st.length:=(List.getElem?_eq_some_iff.mp es).1;obtain⟨hlt,hw⟩:=hst s (mem_of_getElem? es);have hd:ds[s.1]?=some ds[s.1]:=getElem?_eq_getElem hlt;obtain⟨y,z,ey,rw0,fz⟩:=Rb.at hd;obtain⟨dr,hy⟩:=id (rw0.same s2);have at_:atI ys (s.1:Int)=some (.ref y):=bQ ey;obtain⟨er,lw,bw⟩:=Ws hw;obtain⟨lp,bp⟩:=hK _ (mem_of_getElem? hd);have lz:=F2.length;rw[length_map,length_take] at lz;refine⟨tt,_,rfl,hT,rfl,_,_,rfl,_,_,rfl,rfl,iT.1,iT.2,gC ?_⟩;refine⟨_,rfl,s.2,1,1,rfl,by decide,by show (1:Nat) < 2 ^ 1;decide,by lia,fun u H3 s3 e3=>?_⟩;rw[er] at e3;refine⟨_,rfl,_,rfl,a,ys,_,_,rfl,rfl,SqL.of ((s2.trans s3) _ _ ea),at_,?_⟩;obtain⟨dr3,hy3⟩:=id (rw0.same (s2.trans s3));refine⟨y,(kd3 Z.c_Piece Z.c_Push Z.c_Hold) _,_,_,_,rfl,hy3,T.cl _,T.nZ _,fX _ _ _,u,z,(s.2,1),_,1,30,rfl,Fq.of e3,(s2.trans s3).fq fz,lw.pos,lp.pos,bw,bp,by lia,fun v H4 s4 e4=>?_⟩;have s24:=s3.trans s4;have e24:=s24 _ _ e2;refine⟨e24,bB (by lia),hC _ _ ⟨(s2.trans s24).change hD,aB,?_⟩⟩;have ee:(st.take (i+1)).map (fV ds)=(st.take i).map (fV ds)++[rV (s.2,1) ds[s.1].2.2.2]:=by
   rw[take_add_one,es,map_append];show _++[fV ds s]=_;unfold fV;rw[er,getD_eq_getElem?_getD,hd];rfl
  rw[ee];exact((F2.same s24).app (.cons (Fq.of e4) .nil)).upd e24
 rintro zs H2 ⟨s2,e2,F2⟩;rw[lx,take_length] at F2;refine⟨D,zs,_,41*st.length,rfl,SqL.of e2,F2,Kw hK hst,Dz hK hst,by lia,fun r H3 s3 f3=>q r H3 (s1.trans (s2.trans s3)) f3⟩
theorem Y42:DZ 4 Z.f42 Z.d42 ["line","column","amount"] (pJ Z.K) "raise_at":=by
 refine⟨?_,F42.b3 _ _ _ (by intros;rfl),F42.kp,m42⟩
 refine F42.ok9 Uc fun _ _ _ s H _ Q E hr h=>?_;obtain⟨l,z,j,xs,ps,a,n,m,rfl,hl,hF,hj,p1,bp,fz,a1,ba,hn,q⟩:=h;refine⟨_,(aF (mD (d9 Y8 hr rfl (aA (aU bL (pv 0) (pv 1) (fun _ _=>rfl)) (aA (pv 2) aC))) (pB (pv 0) (pv 1) jJ))),?_⟩;have lx:=hF.length;obtain⟨u,eu,fu⟩:=hF.at (Dc hj);refine⟨_,rfl,_,rfl,l,xs,_,_,rfl,rfl,SqL.of hl,bQ eu,_,rfl,u,z,_,a,n,m,rfl,fu,fz,p1,a1,bp,ba,hn,fun v H1 s1 e1=>?_⟩;exact⟨_,rfl,_,rfl,l,xs,_,j,rfl,rfl,s1 _ _ hl,kZ (by lia),q v H1 s1 (Fq.of e1)⟩
theorem Y43:DZ 5 Z.f43 Z.d43 ["matrix","row","column","amount"] (sX Z.K (kd3 Z.c_Piece Z.c_Push Z.c_Hold)) "enter_stream":=by
 refine⟨?_,F43.b4 _ _ _ _ (by intros;rfl),F43.kp,m43⟩
 refine F43.ok9 Ur fun _ _ _ s H _ Q E hr h=>?_;obtain⟨D,x,z,zz,as,M,⟨k0,u,v,p⟩,w,n,k,c,a,rfl,mx,mb,rw,pt,hc,fz,la,ba,hn,q⟩:=h;have r3:=hr.mono (show 3<=4 by lia);refine⟨_,(aD (bX (aI Y42.G hr rfl m42 F42.kp Y42.b .nil aM (aA (aU bL (pv 0) (bZ (pv 1) rfl) (fun _ _=>rfl)) (aA (pv 2) (aA (pv 3) aC)))))
  (aF (bX (aI Y42.G hr rfl m42 F42.kp Y42.b .nil aM (aA (aU bL (pv 0) (bZ (pv 1) rfl) (fun _ _=>rfl)) (aA (pv 2) (aA (aI Y7.G r3 rfl m7 F7.kp Y7.b .nil aM (aA (dA (v:=.ref Z.aN) rfl mv_NOUGHT rfl) (aA (pv 3) aC))) aC))))))),?_⟩
 obtain⟨i0,i1,j0,j1⟩:cT (w:Int) u v:=pt;obtain⟨uN,rfl⟩:∃uN:Nat,u=(uN:Int):=⟨u.toNat,by lia⟩
 obtain⟨vN,rfl⟩:∃vN:Nat,v=(vN:Int):=⟨v.toNat,by lia⟩
 have hu':uN < w:=by lia
 have hv':vN < w:=by lia
 obtain⟨ln,bn,_⟩:=mE la ba;obtain⟨dx,hx⟩:=id rw;obtain⟨e1,m42,w1⟩:=mb.row hu';obtain⟨e2,l2,Y7.b⟩:=mb.at hu' hc;have lam:=mx.la;obtain⟨a1,ha1⟩:∃a1,as[uN]?=some a1:=⟨_,getElem?_eq_getElem (by rw[lam,mb.h];exact hu')⟩
 obtain⟨xs,hxs,hF⟩:=mx.r uN a1 _ ha1 e1;have at1:atI (as.map V.ref) (uN:Int)=some (.ref a1):=bQ (by rw[getElem?_map,ha1];rfl);refine⟨_,rfl,_,rfl,x,(kd3 Z.c_Piece Z.c_Push Z.c_Hold) _,_,_,_,rfl,hx,T.cl _,T.nS _,dG _ _ _,D,_,_,_,rfl,rfl,SqL.of mx.d,at1,_,rfl,_,rfl,a1,z,c,xs,_,a,n,k,rfl,hxs,hF,by rw[w1];exact hc,l2.pos,Y7.b,fz,la.pos,ba,by lia,fun v1 H1 s1 f1=>?_⟩;obtain⟨mx2,sx2⟩:=mx.set (j:=c) ha1 e1 hxs hF s1 f1;have mb2:=mb.rz hu' hc la ba;generalize upd H1 a1 (.lst (xs.set c (.ref v1)))=H2 at mx2 sx2 ⊢;have mx2:Mx Z.K H2 D as (rz M uN c a):=mx2;have ls:=mx.lsts;have fz2:Fq Z.K H2 z a:=sx2.seqT ls fz;obtain⟨dx2,hx2⟩:=id (sx2.rw ls rw);obtain⟨e3,m3,w3⟩:=mb2.row hv';obtain⟨e4,l4,b4⟩:=mb2.at hv' hc;obtain⟨a2,ha2⟩:∃a2,as[vN]?=some a2:=⟨_,getElem?_eq_getElem (by rw[lam,mb.h];exact hv')⟩
 obtain⟨xs2,hxs2,hF2⟩:=mx2.r vN a2 _ ha2 e3;have at2:atI (as.map V.ref) (vN:Int)=some (.ref a2):=bQ (by rw[getElem?_map,ha2];rfl);have b01:Mq.Bd 1 (0,1):=⟨show (0:Nat) < 2 ^ 1 by decide,show (1:Nat) < 2 ^ 1 by decide⟩
 refine⟨_,rfl,_,rfl,x,(kd3 Z.c_Piece Z.c_Push Z.c_Hold) _,_,_,_,rfl,hx2,T.cl _,T.nG _,dQ _ _ _,D,_,_,_,rfl,rfl,SqL.of mx2.d,at2,_,rfl,_,rfl,Z.aN,z,(0,1),a,1,k,rfl,fN _,fz2,by decide,la.pos,b01,ba,by lia,fun v3 H3 s3 e5=>?_⟩;refine⟨a2,v3,c,xs2,_,_,n+k+1,k+2,rfl,s3 _ _ hxs2,hF2.same s3,by rw[w3];exact hc,l4.pos,b4,Fq.of e5,ln.pos,bn,by lia,fun v4 H4 s4 f4=>?_⟩;obtain⟨mx3,sx3⟩:=(mx2.same s3).set (j:=c) ha2 e3 (s3 _ _ hxs2) (hF2.same s3) s4 f4;exact q _ (sx2.trans (s3.sx.trans sx3)) mx3
theorem Y44:DZ 6 Z.f44 Z.d44 ["matrix","row"] (vD Z.K (kd3 Z.c_Piece Z.c_Push Z.c_Hold)) "enter_piece":=by
 refine⟨?_,F44.b2 _ _ (by intros;rfl),F44.kp,m44⟩
 refine F44.ok9 Cv fun _ _ _ s H _ Q E hr h=>?_;obtain⟨D,x,zz,as,M,⟨k0,u,v,p⟩,w,n,k,rfl,mx,mb,rw,fp,pt,lp,p0,bp,hn,q⟩:=h;have r3:=hr.mono (show 3<=5 by lia);refine⟨_,(aD (aR (i:=2) Cv.nd rfl (Or.inl rfl) (d9 Y10 r3 rfl (aA (dA (v:=.ref Z.aO) rfl mv_ONE rfl) (aA (bZ (pv 1) rfl) aC))))
  (aD (bX (d9 Y43 hr rfl (aA (pv 0) (aA (pv 1) (aA (bZ (pv 1) rfl) (aA (pv 2) aC))))))
  (aF (bX (d9 Y43 hr rfl (aA (pv 0) (aA (pv 1) (aA (bZ (pv 1) rfl) (aA (d9 Y7 r3 rfl (aA (dA (v:=.ref Z.aN) rfl mv_NOUGHT rfl) (aA (pv 2) aC))) aC))))))))),?_⟩
 have lp:Mq.Low p:=lp;have p0:0 < p.1:=p0;have bp:Mq.Bd k p:=bp;have fp:Fq Z.K H zz p:=fp;obtain⟨i0,i1,j0,j1⟩:cT (w:Int) u v:=pt;obtain⟨uN,rfl⟩:∃uN:Nat,u=(uN:Int):=⟨u.toNat,by lia⟩
 obtain⟨vN,rfl⟩:∃vN:Nat,v=(vN:Int):=⟨v.toNat,by lia⟩
 obtain⟨ls,bs,_⟩:=Dm lp p0 bp;obtain⟨ln,bn,_⟩:=mE ls bs;have pt':cT (w:Int) (uN:Int) (vN:Int):=⟨i0,i1,j0,j1⟩
 obtain⟨dx,hx⟩:=id rw;refine⟨_,rfl,x,(kd3 Z.c_Piece Z.c_Push Z.c_Hold) _,_,_,_,rfl,hx,T.cl _,T.nZ _,fX _ _ _,Z.aO,zz,(1,1),p,1,k,rfl,fO _,fp,h11,lp.pos,p0,iD,bp,by lia,fun s' H1 s1 e1=>?_⟩;have fs:Fq Z.K H1 s' (rA (1,1) p):=Fq.of e1;have rw1:=rw.same s1;obtain⟨dx1,hx1⟩:=id rw1;have mx1:=mx.same s1;refine⟨_,rfl,_,rfl,_,rfl,x,(kd3 Z.c_Piece Z.c_Push Z.c_Hold) _,_,_,_,rfl,hx1,T.cl _,T.nS _,dG _ _ _,_,rfl,D,x,s',_,as,M,(k0,(uN:Int),(vN:Int),p),w,n,k+1,uN,_,rfl,mx1,mb,rw1,pt',by lia,fs,ls,bs,by lia,fun H2 sx2 mx2=>?_⟩;have lst:=mx1.lsts;have fs2:Fq Z.K H2 s' (rA (1,1) p):=sx2.seqT lst fs;have rw2:=sx2.rw lst rw1;obtain⟨dx2,hx2⟩:=id rw2;obtain⟨mb2,_⟩:=Cj (d:=(k0,(uN:Int),(vN:Int),p)) mb pt' (c:=uN) (by lia) ls bs;have b01:Mq.Bd 1 (0,1):=⟨show (0:Nat) < 2 ^ 1 by decide,show (1:Nat) < 2 ^ 1 by decide⟩
 refine⟨_,rfl,_,rfl,_,rfl,x,(kd3 Z.c_Piece Z.c_Push Z.c_Hold) _,_,_,_,rfl,hx2,T.cl _,T.nG _,dQ _ _ _,_,rfl,Z.aN,s',(0,1),_,1,k+1,rfl,fN _,fs2,by decide,ls.pos,b01,bs,by lia,fun v3 H3 s3 e3=>?_⟩;refine⟨D,x,v3,_,as,_,(k0,(uN:Int),(vN:Int),p),w,n+2*(k+1)+4,k+3,vN,_,rfl,mx2.same s3,mb2,rw2.same s3,pt',by lia,Fq.of e3,ln,bn,by lia,fun H4 sx4 mx4=>?_⟩;exact q H4 (s1.sx.trans (sx2.trans (s3.sx.trans sx4))) mx4
theorem Y45:DZ 5 Z.f45 Z.d45 ["right","row"] (pI Z.K (kd3 Z.c_Piece Z.c_Push Z.c_Hold)) "enter_push":=by
 refine⟨?_,F45.b2 _ _ (by intros;rfl),F45.kp,m45⟩
 refine F45.ok9 Nf fun _ _ _ s H _ Q E hr h=>?_;obtain⟨R,x,zz,ys,rs,⟨k0,u,v,p⟩,w,n,k,rfl,eR,hF,lb,rw,fp,pt,lp,bp,hn,q⟩:=h;have r3:=hr.mono (show 3<=4 by lia);refine⟨_,(aD (bX (d9 Y42 hr rfl (aA (pv 0) (aA (bZ (pv 1) rfl) (aA (d9 Y7 r3 rfl (aA (dA (v:=.ref Z.aN) rfl mv_NOUGHT rfl) (aA (bZ (pv 1) rfl) aC))) aC)))))
  (aF (bX (d9 Y42 hr rfl (aA (pv 0) (aA (bZ (pv 1) rfl) (aA (bZ (pv 1) rfl) aC))))))),?_⟩
 have lp:Mq.Low p:=lp;have bp:Mq.Bd k p:=bp;have fp:Fq Z.K H zz p:=fp;obtain⟨i0,i1,j0,j1⟩:cT (w:Int) u v:=pt;obtain⟨uN,rfl⟩:∃uN:Nat,u=(uN:Int):=⟨u.toNat,by lia⟩
 obtain⟨vN,rfl⟩:∃vN:Nat,v=(vN:Int):=⟨v.toNat,by lia⟩
 obtain⟨ln,bn,_⟩:=mE lp bp;obtain⟨dx,hx⟩:=id rw;obtain⟨_,l1,b1⟩:=lb.at (j:=uN) (by lia);have b01:Mq.Bd 1 (0,1):=⟨show (0:Nat) < 2 ^ 1 by decide,show (1:Nat) < 2 ^ 1 by decide⟩
 refine⟨_,rfl,_,rfl,x,(kd3 Z.c_Piece Z.c_Push Z.c_Hold) _,_,_,_,rfl,hx,T.cl _,T.nS _,dG _ _ _,_,rfl,x,(kd3 Z.c_Piece Z.c_Push Z.c_Hold) _,_,_,_,rfl,hx,T.cl _,T.nZ _,fX _ _ _,Z.aN,zz,(0,1),p,1,k,rfl,fN _,fp,by decide,lp.pos,b01,bp,by lia,fun v1 H1 s1 e1=>?_⟩;refine⟨R,v1,uN,ys,rs,_,n,k+2,rfl,s1 _ _ eR,hF.same s1,by rw[lb.w];lia,l1.pos,b1,Fq.of e1,ln.pos,bn,by lia,fun v2 H2 s2 f2=>?_⟩;have s12:=s1.trans s2;have eR2:=s12 _ _ eR;have F3:=(Fqs.set f2 uN (hF.same s12)).upd (o:=.lst (ys.set uN (.ref v2))) eR2;have e3:upd H2 R (.lst (ys.set uN (.ref v2))) R=some (.lst (ys.set uN (.ref v2))):=aB;have sx3:SX [R] H (upd H2 R (.lst (ys.set uN (.ref v2)))):=s12.sx.write (by simp);have fp3:Fq Z.K (upd H2 R (.lst (ys.set uN (.ref v2)))) zz p:=SqT.upd (s12.fq fp) eR2;have rw3:=(rw.same s12).upd (o:=.lst (ys.set uN (.ref v2))) eR2;generalize upd H2 R (.lst (ys.set uN (.ref v2)))=H3 at F3 e3 sx3 fp3 rw3 ⊢;have lb3:=lb.rz (j:=uN) (by lia) ln bn;have F3:Fqs Z.K H3 (ys.set uN (.ref v2)) (rzl rs uN (Mq.minus (0,1) p)):=F3;obtain⟨_,l4,b4⟩:=lb3.at (j:=vN) (by lia);obtain⟨dx3,hx3⟩:=id rw3;refine⟨_,rfl,_,rfl,x,(kd3 Z.c_Piece Z.c_Push Z.c_Hold) _,_,_,_,rfl,hx3,T.cl _,T.nG _,dQ _ _ _,_,rfl,x,(kd3 Z.c_Piece Z.c_Push Z.c_Hold) _,_,_,_,rfl,hx3,T.cl _,T.nZ _,fX _ _ _,R,zz,vN,_,_,p,n+(k+2)+1,k,rfl,e3,F3,by rw[lb3.w];lia,l4.pos,b4,fp3,lp.pos,bp,by lia,fun v5 H5 s5 f5=>?_⟩;refine q _ _ (sx3.trans (s5.sx.write (by simp))) aB ?_;exact(Fqs.set f5 vN (F3.same s5)).upd (s5 _ _ e3)
theorem Y46:DZ 6 Z.f46 Z.d46 ["matrix","right","row","column"] (uS Z.K (kd3 Z.c_Piece Z.c_Push Z.c_Hold)) "enter_hold":=by
 refine⟨?_,F46.b4 _ _ _ _ (by intros;rfl),F46.kp,m46⟩
 refine F46.ok9 Qg fun _ _ _ s H _ Q E hr h=>?_;obtain⟨D,R,x,zz,as,M,ys,rs,⟨k0,u,v,p⟩,w,n,c,rfl,mx,mb,eR,hFR,lr,nRD,nRa,rw,fp,pt,hc,hn,q⟩:=h;have r3:=hr.mono (show 3<=5 by lia);have r4:=hr.mono (show 4<=5 by lia);refine⟨_,(aD (bX (aI Y43.G hr rfl m43 F43.kp Y43.b .nil aM (aA (pv 0) (aA (pv 2) (aA (pv 3) (aA (dA (v:=.ref Z.aO) rfl mv_ONE rfl) aC))))))
  (aD (bX (aI Y42.G r4 rfl m42 F42.kp Y42.b .nil aM (aA (aU bL (pv 0) (pv 3) (fun _ _=>rfl)) (aA (bZ (pv 2) rfl) (aA (dA (v:=.ref Z.aO) rfl mv_ONE rfl) aC)))))
  (aD (bX (aI Y42.G r4 rfl m42 F42.kp Y42.b .nil aM (aA (aU bL (pv 0) (pv 3) (fun _ _=>rfl)) (aA (bZ (pv 2) rfl) (aA (aI Y7.G r3 rfl m7 F7.kp Y7.b .nil aM (aA (dA (v:=.ref Z.aN) rfl mv_NOUGHT rfl) (aA (dA (v:=.ref Z.aO) rfl mv_ONE rfl) aC))) aC)))))
  (aF (mD (bZ (pv 2) rfl) (pB (pv 1) (pv 3) jJ)))))),?_⟩
 have fp:Fq Z.K H zz p:=fp;obtain⟨i0,i1,j0,j1⟩:cT (w:Int) u v:=pt;obtain⟨uN,rfl⟩:∃uN:Nat,u=(uN:Int):=⟨u.toNat,by lia⟩
 obtain⟨vN,rfl⟩:∃vN:Nat,v=(vN:Int):=⟨v.toNat,by lia⟩
 have pt':cT (w:Int) (uN:Int) (vN:Int):=⟨i0,i1,j0,j1⟩
 obtain⟨ln,bn,_⟩:=mE gY iD;have lam:=mx.la;refine⟨_,rfl,_,rfl,_,rfl,D,x,Z.aO,_,as,M,(k0,(uN:Int),(vN:Int),p),w,n,1,c,(1,1),rfl,mx,mb,rw,pt',hc,fO _,gY,iD,by lia,fun H1 sx1 mx1=>?_⟩;have lst:=mx.lsts;have rw1:=sx1.rw lst rw;have fp1:Fq Z.K H1 zz p:=sx1.seqT lst fp;have eR1:=sx1 _ _ eR nRa;have FR1:=SX.fqs lst sx1 hFR;obtain⟨mb1,_⟩:=Cj (d:=(k0,(uN:Int),(vN:Int),p)) mb pt' hc gY iD;generalize hM1:en M (k0,(uN:Int),(vN:Int),p) c (1,1)=M1 at mx1 mb1;obtain⟨ac,hac⟩:∃ac,as[c]?=some ac:=⟨_,getElem?_eq_getElem (by rw[lam,mb.h];exact hc)⟩
 have atc:atI (as.map V.ref) (c:Int)=some (.ref ac):=bQ (by rw[getElem?_map,hac];rfl);obtain⟨e1,m43,w1⟩:=mb1.row hc;obtain⟨_,l2,Y42.b⟩:=mb1.at hc (j:=uN) (by lia);obtain⟨xs,hxs,hF⟩:=mx1.r c ac _ hac e1;obtain⟨dx1,hx1⟩:=id rw1;refine⟨_,rfl,_,rfl,D,_,_,_,rfl,rfl,SqL.of mx1.d,atc,_,rfl,x,(kd3 Z.c_Piece Z.c_Push Z.c_Hold) _,_,_,_,rfl,hx1,T.cl _,T.nS _,dG _ _ _,ac,Z.aO,uN,xs,_,(1,1),n+2*1+4,1,rfl,hxs,hF,by rw[w1];lia,l2.pos,Y42.b,fO _,h11,iD,by lia,fun v1 H2 s2 f2=>?_⟩;obtain⟨mx3,sx3⟩:=mx1.set (j:=uN) hac e1 hxs hF s2 f2;have lst1:=mx1.lsts;generalize upd H2 ac (.lst (xs.set uN (.ref v1)))=H3 at mx3 sx3 ⊢;have mb3:=mb1.rz hc (j:=uN) (by lia) gY iD;have mx3:Mx Z.K H3 D as (rz M1 c uN (1,1)):=mx3;have rw3:=sx3.rw lst1 rw1;have fp3:Fq Z.K H3 zz p:=sx3.seqT lst1 fp1;have eR3:=sx3 _ _ eR1 nRa;have FR3:=SX.fqs lst1 sx3 FR1;generalize hM3:rz M1 c uN (1,1)=M3 at mx3 mb3;obtain⟨e3,m7,w3⟩:=mb3.row hc;obtain⟨_,l4,b4⟩:=mb3.at hc (j:=vN) (by lia);obtain⟨xs3,hxs3,hF3⟩:=mx3.r c ac _ hac e3;obtain⟨dx3,hx3⟩:=id rw3;refine⟨_,rfl,_,rfl,D,_,_,_,rfl,rfl,SqL.of mx3.d,atc,_,rfl,x,(kd3 Z.c_Piece Z.c_Push Z.c_Hold) _,_,_,_,rfl,hx3,T.cl _,T.nG _,dQ _ _ _,Z.aN,Z.aO,(0,1),(1,1),1,1,rfl,fN _,fO _,by decide,h11,⟨show (0:Nat) < 2 ^ 1 by decide,show (1:Nat) < 2 ^ 1 by decide⟩,iD,by lia,fun v4 H4 s4 e4=>?_⟩;refine⟨ac,v4,vN,xs3,_,_,n+2*1+4+1+1,1+2,rfl,s4 _ _ hxs3,hF3.same s4,by rw[w3];lia,l4.pos,b4,Fq.of e4,ln.pos,bn,by lia,fun v5 H5 s5 f5=>?_⟩;obtain⟨mx6,sx6⟩:=(mx3.same s4).set (j:=vN) hac e3 (s4 _ _ hxs3) (hF3.same s4) s5 f5;have sx36:=(aS.sx (as:=as) s4).trans sx6;have lst3:=mx3.lsts;generalize upd H5 ac (.lst (xs3.set vN (.ref v5)))=H6 at mx6 sx6 sx36 ⊢;have mx6:Mx Z.K H6 D as (rz M3 c vN (Mq.minus (0,1) (1,1))):=mx6;have rw6:=sx36.rw lst3 rw3;have fp6:Fq Z.K H6 zz p:=sx36.seqT lst3 fp3;have eR6:=sx36 _ _ eR3 nRa;have FR6:=SX.fqs lst3 sx36 FR3;obtain⟨dx6,hx6⟩:=id rw6;have ly:=FR6.length;refine⟨_,rfl,x,(kd3 Z.c_Piece Z.c_Push Z.c_Hold) _,_,_,_,rfl,hx6,T.cl _,T.nZ _,fX _ _ _,_,rfl,_,rfl,R,ys,_,c,rfl,rfl,eR6,kZ (by lia),?_⟩;have eM:hM M (k0,(uN:Int),(vN:Int),p) c=rz M3 c vN (Mq.minus (0,1) (1,1)):=by rw[<- hM3,<- hM1];rfl
 have mx7:=mx6.other (o:=.lst (ys.set c (.ref zz))) eR6 nRD nRa;rw[<- eM] at mx7;refine q _ _ ?_ mx7 aB ((Fqs.set fp6 c FR6).upd eR6);refine SX.write (SX.mono (sx1.trans (sx3.trans sx36)) fun x hx=>mem_cons_of_mem _ hx) (by simp)
theorem Y47:DZ 7 Z.f47 Z.d47 ["net"] (vI Z.c_Net Z.K) "equations":=by
 refine⟨?_,F47.b1 _ (by intros;rfl),F47.kp,m47⟩
 refine F47.ok9 qD fun _ _ _ s H _ Q E hr h=>?_;obtain⟨n,l,m,kb,ds,rfl,nt,hK,hm1,hm20,h40,hbig,q⟩:=h;have r1:=hr.mono (show 1<=6 by lia);have r4:=hr.mono (show 4<=6 by lia);have r5:=hr.mono (show 5<=6 by lia);refine⟨_,(aD (aR (i:=1) qD.nd rfl (Or.inl rfl) (dD (pv 0) NTx.cl X4 R33 r4 b33 .nil aM))
  (aD (aR (i:=2) qD.nd rfl (Or.inl rfl) (dD (pv 0) NTx.cl X3 R30 r1 b30 .nil aM))
  (aD (aR (i:=3) qD.nd rfl (Or.inr rfl) (bC gZ (pv 2) (bM bU rfl n_len PySem.boot_len (aA (eQ (nl:=1) (fr:=[]) (Nc:=["row"]) (cl:=[]) rfl ⟨rfl,rfl,by decide +kernel,by decide +kernel,fun x c h=>(by cases h),fA rfl,rfl,fun i n h=>(by simp at h)⟩
    (cO (pv 1)) (fun _ _ _ _ _=>(aZ (i:=0) Nt rfl (Or.inl rfl))) (fun _ _ _ _ _=>(nX (bA eV (fH (pv 0) T.cl mW GW r1 bW .nil aM) bK (bH _))))
    (fun _ _ _ _ _=>(pv 0))) aC))))
  (aD (Ar (i:=4) (nl:=1) (fr:=[3]) (Nc:=["line","width"]) (cl:=[("width",s.heap.objs.size+1)]) qD.nd rfl rfl rfl ⟨rfl,rfl,by decide +kernel,by decide +kernel,fun x c h=>h,fA rfl,rfl,fun i n h=>match i,h with | 0,h=>by cases h;exact⟨3,rfl,rfl,rfl,rfl,.inl rfl⟩ | k+1,h=>by rw[show 1+(k+1)=k+2 by lia] at h;cases h⟩
    (iY rfl n_range (aA (pv 3) aC)) (fun _ _ _ _ _=>(aZ (i:=0) wO rfl (Or.inl rfl))) (fun _ _ _ _ _=>gD)
    (fun _ _ _ _ _=>(bC qO (cB (aA (dA (v:=.ref Z.aN) rfl mv_NOUGHT rfl) aC)) (pv 1))) rfl)
  (aD (aR (i:=5) qD.nd rfl (Or.inl rfl) (bC qO (cB (aA (dA (v:=.ref Z.aN) rfl mv_NOUGHT rfl) aC)) (pv 3)))
  (aD (aR (i:=6) qD.nd rfl (Or.inl rfl) (pv 2))
  (aD (eZ PassesOwn.never rfl (cO (pv 1)) (aZ (i:=7) qD.nd rfl (Or.inl rfl))
   (aF (cJ (bA eV (fH (pv 7) T.cl mW GW r1 bW .nil aM) bK (bH _)) (aF (bX (d9 Y44 hr rfl (aA (pv 4) (aA (pv 7) aC))))) (aF (cJ (bA eV (fH (pv 7) T.cl mW GW r1 bW .nil aM) bK (bH _)) (aF (bX (d9 Y45 r5 rfl (aA (pv 5) (aA (pv 7) aC))))) (aD (bX (d9 Y46 hr rfl (aA (pv 4) (aA (pv 5) (aA (pv 7) (aA (pv 6) aC))))))
  (aF (Gn (i:=6) qD.nd rfl (Or.inl rfl) aG Go))))))))
  (aF (aW (cS (aA (eQ (nl:=1) (fr:=[]) (Nc:=["line"]) (cl:=[]) rfl ⟨rfl,rfl,by decide +kernel,by decide +kernel,fun x c h=>(by cases h),fA rfl,rfl,fun i n h=>(by simp at h)⟩
    (cO (gJ iH (pv 4) (gM aG) jP)) (fun _ _ _ _ _=>(aZ (i:=0) Vt rfl (Or.inl rfl))) (fun _ _ _ _ _=>gD)
    (fun _ _ _ _ _=>(gJ (Kl (K:=Z.K) rfl) (pv 0) (gM aG) jP))) (aA (gJ iH (pv 5) (gM aG) jP) aC)))))))))))),?_⟩
 obtain⟨dx,hn⟩:=nt.ob;refine⟨_,rfl,n,dx,_,rfl,hn,dE _ _ (by decide +kernel) (by decide +kernel),n,l,_,ds,rfl,nt,by lia,fun a xs H1 s1 na ea Rb=>?_⟩;have lxs:=Rb.length;obtain⟨dx1,hn1⟩:=(nt.same s1).ob;refine⟨_,rfl,n,dx1,_,rfl,hn1,dE _ _ (by decide +kernel) (by decide +kernel),n,l,_,ds,rfl,nt.same s1,?_⟩;refine⟨_,rfl,_,rfl,a,rfl,⟨_,SqL.of ea⟩,fun C0 hC0=>?_⟩;have sC0:=aE hC0 (.lst []);refine dW (xs:=xs) (fun i zs H'=>aS H1 H'/\H' C0=some (.lst zs)/\zs.length=cA (ds.take i)) ⟨sC0,aB,rfl⟩ (fun i zs H' h=>h.2.1) (fun i zs H' _ h=>h.1.seq (SqL.of ea)) ?_ ?_
 ·rintro i zs x H2 hx ⟨s2,e2,lz⟩ C hC;have hi:i < ds.length:=by
   have:=(List.getElem?_eq_some_iff.mp hx).1;lia
  obtain⟨⟨k0,u,v,p⟩,hd⟩:∃d,ds[i]?=some d:=⟨_,getElem?_eq_getElem hi⟩
  obtain⟨y,z,ey,rw,fz⟩:=Rb.at hd;have ex:x=.ref y:=by rw[ey] at hx;exact(Option.some.inj hx).symm
  subst ex;obtain⟨dr,hy⟩:=id (rw.same s2);have et:ds.take (i+1)=ds.take i++[(k0,u,v,p)]:=by rw[take_add_one,hd];rfl
  have lh:=Ff (ds:=ds) i;have lh2:cA ds<=ds.length:=length_filter_le _ _;refine⟨gF.1,gF.2,?_⟩;refine⟨_,rfl,k0,y,dr,_,rfl,hy,(dM _ _ _ (by decide +kernel) (by decide +kernel) (by decide +kernel)),_,rfl,rfl,_,rfl,?_⟩
  by_cases hk:k0=.ho
  ·refine ifT (by show decide (V.str k0.wd=V.str Kd.ho.wd)=true;rw[dL];exact decide_eq_true hk) ⟨_,rfl,e2,bB (by lia),hC _ _ ⟨s2.change hC0,aB,?_⟩⟩;rw[et,gA,List.length_append,lz];show _+1=_+cL k0;unfold cL;rw[if_pos hk]
  ·refine ifF (by show decide (V.str k0.wd=V.str Kd.ho.wd)=false;rw[dL];exact decide_eq_false hk) (hC _ _ ⟨s2,e2,?_⟩);rw[et,gA,lz];show _=_+cL k0;unfold cL;rw[if_neg hk];rfl
 rintro zs0 H2 ⟨s2,e2,lz0⟩;rw[lxs,take_length] at lz0;refine⟨C0,zs0,rfl,.inl (SqL.of e2),_,_,rfl,rfl,?_⟩;obtain⟨W,hW⟩:∃W:Nat,W=m+cA ds:=⟨_,rfl⟩
 have lh2:cA ds<=ds.length:=length_filter_le _ _;have eW:(m:Int)+(zs0.length:Int)=(W:Int):=by rw[lz0,hW];lia
 show jU _ _ _ [some (.ref n),some (.ref a),some (.int (m:Int)),some (.int ((m:Int)+(zs0.length:Int))),none,none,none,none] H2;rw[eW];have hW60:W<=60:=by lia
 have hmW:m<=W:=by lia
 have s12:=s2;clear e2 sC0;refine⟨_,rfl,(W:Int),rfl,by lia,by lia,fun D hD=>?_⟩;rw[Int.toNat_natCast];have sD:=aE hD (.lst []);refine uZ (n:=W) (fun i zs H'=>aS H2 H'/\H' D=some (.lst zs)/\∃as:List Addr,zs=as.map V.ref/\as.length=i/\as.Nodup/\D∉as/\(∀b∈as,H2 b=none)/\∀b∈as,H' b=some (.lst (replicate W (.ref Z.aN)))) ⟨sD,aB,[],rfl,rfl,nodup_nil,(by simp),(fun b hb=>by cases hb),(fun b hb=>by cases hb)⟩ (fun i zs H' h=>h.2.1) ?_ ?_
 ·rintro i zs H3 hi ⟨s3,e3,as,rfl,la,nd,nD,fr,al⟩ C hC;refine⟨gF.1,gF.2,gC ?_⟩;refine⟨zl9 1,fun l1 hl1=>?_⟩;have s4:=aE hl1 (.lst [.ref Z.aN]);have e4:upd H3 l1 (.lst [.ref Z.aN]) l1=some (.lst [.ref Z.aN]):=aB;generalize upd H3 l1 (.lst [.ref Z.aN])=H4 at s4 e4 ⊢;refine⟨_,rfl,l1,(W:Int),[.ref Z.aN],rfl,rfl,e4,by lia,by lia,?_,fun b hb=>?_⟩
  ·rw[Int.toNat_natCast,sizeLine_eq];simp only[length_cons,length_nil];lia
  rw[Int.toNat_natCast,mY];have s5:=aE hb (.lst (replicate W (.ref Z.aN)));have e5:upd H4 b (.lst (replicate W (.ref Z.aN))) b=some (.lst (replicate W (.ref Z.aN))):=aB;generalize upd H4 b (.lst (replicate W (.ref Z.aN)))=H5 at s5 e5 ⊢;have s35:=s4.trans s5;have e35:=s35 _ _ e3;have nbD:b≠D:=Ne.symm (aX (s4 _ _ e3) hb);have nba:b∉as:=fun z=>by rw[s4 _ _ (al b z)] at hb;cases hb
  refine⟨e35,bB (by rw[length_map];lia),hC _ _ ⟨(s3.trans s35).change hD,aB,as++[b],by rw[map_append];rfl,by rw[List.length_append,la];rfl,?_,?_,fun c hc=>?_,fun c hc=>?_⟩⟩
  ·rw[nodup_append];refine⟨nd,by simp,fun x hx y hy z=>?_⟩;have:y=b:=by simpa using hy
   exact nba (by rw[<- this,<- z];exact hx)
  ·intro z;rcases mem_append.mp z with z | z
   ·exact nD z
   ·have:D=b:=by simpa using z
    exact nbD this.symm
  ·rcases mem_append.mp hc with z | z
   ·exact fr c z
   ·have:c=b:=by simpa using z
    rw[this];exact(s3.trans s4).free hb
  ·rcases mem_append.mp hc with z | z
   ·rw[aQ (fun y=>nD (by rw[<- y];exact z))];exact s35 _ _ (al c z)
   ·have:c=b:=by simpa using z
    rw[this,aQ nbD];exact e5
 rintro zs3 H3 ⟨s3,e3,as,rfl,la,nd,nD,fr,al⟩;have mx3:Mx Z.K H3 D as (replicate W (replicate W (0,1))):=⟨e3,nd,nD,by rw[la,length_replicate],fun i b ps h1 h2=>by
  rw[eq_of_mem_replicate (mem_of_getElem? h2)];exact⟨_,al b (mem_of_getElem? h1),jB (fN _) W⟩⟩
 have nDH:H2 D=none:=hD;refine⟨zl9 1,fun l1 hl1=>?_⟩;have s4:=aE hl1 (.lst [.ref Z.aN]);have e4:upd H3 l1 (.lst [.ref Z.aN]) l1=some (.lst [.ref Z.aN]):=aB;generalize upd H3 l1 (.lst [.ref Z.aN])=H4 at s4 e4 ⊢;refine⟨_,rfl,l1,(W:Int),[.ref Z.aN],rfl,rfl,e4,by lia,by lia,?_,fun R hR=>?_⟩
 ·rw[Int.toNat_natCast,sizeLine_eq];simp only[length_cons,length_nil];lia
 rw[Int.toNat_natCast,mY];have s5:=aE hR (.lst (replicate W (.ref Z.aN)));have e5:upd H4 R (.lst (replicate W (.ref Z.aN))) R=some (.lst (replicate W (.ref Z.aN))):=aB;generalize upd H4 R (.lst (replicate W (.ref Z.aN)))=H5 at s5 e5 ⊢;have s25:=s3.trans (s4.trans s5);have nRH:H2 R=none:=(s3.trans s4).free hR;have nRD:R≠D:=Ne.symm (aX ((s4) _ _ mx3.d) hR);have nRa:R∉as:=fun z=>by rw[s4 _ _ (al R z)] at hR;cases hR
 have mx5:=(mx3.same s4).same s5;have allN:∀b∈R :: as,H2 b=none:=fun b hb=>by
  rcases mem_cons.mp hb with z | z
  ·rw[z];exact nRH
  ·exact fr b z
 have F5:Fqs Z.K H5 (replicate W (.ref Z.aN)) (replicate W (0,1)):=jB (fN _) W;refine⟨_,rfl,?_⟩;have eaH:=s12 _ _ ea;have Rb2:=Rb.same s12;refine⟨_,rfl,a,rfl,⟨_,SqL.of (s25 _ _ eaH)⟩,?_⟩;refine eK (xs:=xs) (fun i σ H'=>aS H2 H'/\∃(M:List (List Mq.Q2)) (ys:List V) (rs:List Mq.Q2) (z7:Option V),σ=[some (.ref n),some (.ref a),some (.int (m:Int)),some (.int (W:Int)),some (.ref D),some (.ref R),some (.int ((m+cA (ds.take i):Nat):Int)),z7]/\Mx Z.K H' D as M/\MxB M W W (lH kb i+1)/\H' R=some (.lst ys)/\Fqs Z.K H' ys rs/\LnB rs W (lH kb i+1)/\(∀x y,Mq.val (kB M x y)=eqM m (ds.take i) x y)/\∀x,Mq.val (rs.getD x (0,1))=eqR m (ds.take i) x) ⟨s25,_,_,_,none,rfl,mx5,Vb W,e5,F5,zC W,fun x y=>by rw[Pj,Mq.pF];rfl,fun x=>by rw[qZ,Mq.pF];rfl⟩ (fun i σ H' _ h=>h.1.seq (SqL.of eaH)) ?_ ?_
 ·rintro i x σ H6 hx ⟨s6,M,ys,rs,z7,rfl,mx,mb,eR,FR,lb,vM,vR⟩;have hi:i < ds.length:=by
   have:=(List.getElem?_eq_some_iff.mp hx).1;lia
  obtain⟨⟨k0,u,v,p⟩,hd⟩:∃d,ds[i]?=some d:=⟨_,getElem?_eq_getElem hi⟩
  obtain⟨y,z,ey,rw0,fz0⟩:=Rb2.at hd;have ex:x=.ref y:=by rw[ey] at hx;exact(Option.some.inj hx).symm
  subst ex;obtain⟨rd,bp⟩:=hK i _ hd;have lp:Mq.Low p:=rd.2.2.2.2.1;have bp:Mq.Bd (kb i) p:=bp;have ptm:cT (m:Int) u v:=⟨rd.1,rd.2.1,rd.2.2.1,rd.2.2.2.1⟩
  have ptW:cT (W:Int) u v:=⟨rd.1,by have:=rd.2.1;show u < (W:Int);have h2:u < (m:Int):=this;lia,rd.2.2.1,by have h2:v < (m:Int):=rd.2.2.2.1;show v < (W:Int);lia⟩
  have rw6:=rw0.same s6;have fz6:Fq Z.K H6 z p:=s6.fq fz0;obtain⟨dr,hy⟩:=id rw6;have et:ds.take (i+1)=ds.take i++[(k0,u,v,p)]:=by rw[take_add_one,hd];rfl
  have hh:=Ff (ds:=ds) (i+1);rw[et,gA] at hh;have hh:cA (ds.take i)+cL k0<=cA ds:=hh;have eN:lH kb (i+1)+1=(lH kb i+1)+(4*kb i+20):=by show lH kb i+(4*kb i+20)+1=_;lia
  have leN:lH kb i+(4*kb i+20)<=lH kb ds.length:=xV kb (i:=i+1) hi;have eM:∀x y,eqM m (ds.take (i+1)) x y=eqM m (ds.take i) x y+cM (k0,u,v,p) (m+cA (ds.take i)) x y:=fun x y=>by rw[et,Ei]
  have eRr:∀x,eqR m (ds.take (i+1)) x=eqR m (ds.take i) x+cR (k0,u,v,p) (m+cA (ds.take i)) x:=fun x=>by rw[et,Cs]
  have eH:cA (ds.take (i+1))=cA (ds.take i)+cL k0:=by rw[et,gA]
  rw[eN,eH];have lst:=mx.lsts
  cases k0 with
  |pc=>
   have p0:0 < p.1:=rd.2.2.2.2.2.1 rfl;refine⟨_,rfl,Kd.pc,y,dr,_,rfl,hy,(dM _ _ _ (by decide +kernel) (by decide +kernel) (by decide +kernel)),_,rfl,rfl,_,rfl,ifT (by show decide (V.str Kd.pc.wd=V.str Kd.pc.wd)=true;rw[dL];rfl) ?_⟩;refine⟨_,rfl,_,rfl,D,y,z,as,M,(.pc,u,v,p),W,lH kb i+1,kb i,rfl,mx,mb,rw6,fz6,ptW,lp,p0,bp,by lia,fun H7 sx7 mx7=>?_⟩;obtain⟨mb7,v7⟩:=qi8 (d:=(.pc,u,v,p)) (h:=m+cA (ds.take i)) mb ptm hmW rfl lp p0 bp;have eR7:=sx7 _ _ eR nRa;refine⟨SX.same s6 sx7 fr,_,ys,rs,_,rfl,mx7,mb7.mono (by lia),eR7,SX.fqs lst sx7 FR,lb.mono (by lia),fun x y=>by rw[v7,vM,eM],fun x=>?_⟩;rw[vR,eRr];show _=_+(0:Rat)
   rw[Rat.add_zero]
  |pu=>
   refine⟨_,rfl,Kd.pu,y,dr,_,rfl,hy,(dM _ _ _ (by decide +kernel) (by decide +kernel) (by decide +kernel)),_,rfl,rfl,_,rfl,ifF (by show decide (V.str Kd.pu.wd=V.str Kd.pc.wd)=false;rw[dL];rfl) ?_⟩;refine⟨_,rfl,Kd.pu,y,dr,_,rfl,hy,(dM _ _ _ (by decide +kernel) (by decide +kernel) (by decide +kernel)),_,rfl,rfl,_,rfl,ifT (by show decide (V.str Kd.pu.wd=V.str Kd.pu.wd)=true;rw[dL];rfl) ?_⟩;refine⟨_,rfl,_,rfl,R,y,z,ys,rs,(.pu,u,v,p),W,lH kb i+1,kb i,rfl,eR,FR,lb,rw6,fz6,ptW,lp,bp,by lia,fun ys' H7 sx7 eR7 F7=>?_⟩;obtain⟨lb7,v7⟩:=Xo (d:=(.pu,u,v,p)) (h:=m+cA (ds.take i)) lb ptm hmW rfl lp bp;have mx7:Mx Z.K H7 D as M:=⟨sx7 _ _ mx.d (by simp;exact Ne.symm nRD),mx.n,mx.nd,mx.la,fun i' b ps h1 h2=>by
    obtain⟨ws,h,f⟩:=mx.r i' b ps h1 h2;refine⟨ws,sx7 _ _ h (by simp;exact fun z=>nRa (by rw[<- z];exact mem_of_getElem? h1)),SX.fqs (as:=[R]) (fun c hc=>?_) sx7 f⟩;have:c=R:=by simpa using hc
    exact⟨ys,by rw[this];exact eR⟩⟩
   refine⟨SX.same s6 sx7 (fun c hc=>by have:c=R:=(by simpa using hc);rw[this];exact nRH),M,ys',_,_,rfl,mx7,mb.mono (by lia),eR7,F7,lb7.mono (by lia),fun x y=>?_,fun x=>by rw[v7,vR,eRr]⟩;rw[vM,eM];show _=_+(0:Rat)
   rw[Rat.add_zero]
  |ho=>
   have hc1:cL Kd.ho=1:=rfl;rw[hc1] at hh;have hcW:m+cA (ds.take i) < W:=by lia
   refine⟨_,rfl,Kd.ho,y,dr,_,rfl,hy,(dM _ _ _ (by decide +kernel) (by decide +kernel) (by decide +kernel)),_,rfl,rfl,_,rfl,ifF (by show decide (V.str Kd.ho.wd=V.str Kd.pc.wd)=false;rw[dL];rfl) ?_⟩;refine⟨_,rfl,Kd.ho,y,dr,_,rfl,hy,(dM _ _ _ (by decide +kernel) (by decide +kernel) (by decide +kernel)),_,rfl,rfl,_,rfl,ifF (by show decide (V.str Kd.ho.wd=V.str Kd.pu.wd)=false;rw[dL];rfl) ?_⟩;refine⟨_,rfl,_,rfl,_,rfl,_,rfl,D,R,y,z,as,M,ys,rs,(.ho,u,v,p),W,lH kb i+1,m+cA (ds.take i),rfl,mx,mb,eR,FR,lb.w,nRD,nRa,rw6,fz6,ptW,hcW,by lia,fun ys' H7 sx7 mx7 eR7 F7=>?_⟩;obtain⟨mb7,v7⟩:=qi0 (d:=(.ho,u,v,p)) mb ptm hmW hcW rfl;have z0:Mq.val (rs.getD (m+cA (ds.take i)) (0,1))=0:=by
    rw[vR];exact yL (m:=m) _ _ _ (fun d hd'=>by
     obtain⟨i1,hi1⟩:=getElem?_of_mem (mem_of_mem_take hd');have:=(hK i1 d hi1).1;exact⟨this.1,this.2.1,this.2.2.1,this.2.2.2.1⟩) (Nat.le_refl _) (Nat.le_refl _)
   obtain⟨lb7,w7⟩:=qk7 (m:=m) (d:=(.ho,u,v,p)) lb hcW rfl lp bp z0;refine⟨_,rfl,_,_,rfl,rfl,?_⟩;refine⟨SX.same s6 sx7 allN,_,ys',_,some (.ref y),?_,mx7,mb7.mono (by lia),eR7,F7,lb7.mono (by lia),fun x y=>by rw[v7,vM,eM],fun x=>by rw[w7,vR,eRr]⟩;have e1:((m+cA (ds.take i):Nat):Int)+1=((m+(cA (ds.take i)+cL Kd.ho):Nat):Int):=by rw[hc1];lia
   rw[<- e1];rfl
 rintro σ H6 ⟨s6,M,ys,rs,z7,rfl,mx,mb,eR,FR,lb,vM,vR⟩;rw[lxs] at mb lb vM vR;rw[take_length] at vM vR;refine⟨_,rfl,1,rfl,D,_,rfl,SqL.of mx.d,fun C hC=>?_⟩;rw[Ib];have s7:=aE hC (.lst ((as.map V.ref).drop 1));have e7:upd H6 C (.lst ((as.map V.ref).drop 1)) C=some (.lst ((as.map V.ref).drop 1)):=aB;generalize upd H6 C (.lst ((as.map V.ref).drop 1))=H7 at s7 e7 ⊢;have mx7:=mx.same s7;refine⟨C,rfl,⟨_,SqL.of e7⟩,fun P hP=>?_⟩;have sP:=aE hP (.lst []);refine dW (xs:=(as.map V.ref).drop 1) (fun i zs H'=>aS H7 H'/\H' P=some (.lst zs)/\Fms Z.K H7 H' zs (((M.drop 1).map (List.drop 1)).take i)/\∀x∈zs,x≠.ref P) ⟨sP,aB,⟨rfl,fun i x ps h=>by simp at h⟩,fun x hx=>by cases hx⟩ (fun i zs H' h=>h.2.1) (fun i zs H' _ h=>h.1.seq (SqL.of e7)) ?_ ?_
 ·rintro i zs x H8 hx ⟨s8,e8,fm,nP⟩ C' hC';rw[getElem?_drop,getElem?_map] at hx;obtain⟨b,hb,rfl⟩:=Option.map_eq_some_iff.mp hx;have bl':=(List.getElem?_eq_some_iff.mp hb).1;have hM1:1+i < M.length:=by rw[<- mx.la];exact bl'
  obtain⟨ws,hws,fws⟩:=(mx7.same s8).r (1+i) b M[1+i] hb (getElem?_eq_getElem hM1);have lz:=fm.l;rw[length_take,length_map,length_drop] at lz;have hM60:M.length<=60:=by rw[mb.h];exact hW60
  refine⟨gF.1,gF.2,gC ?_⟩;refine⟨_,rfl,1,rfl,b,_,rfl,SqL.of hws,fun c hc=>?_⟩;rw[Ib];have s9:=aE hc (.lst (ws.drop 1));have e9:upd H8 c (.lst (ws.drop 1)) c=some (.lst (ws.drop 1)):=aB;generalize upd H8 c (.lst (ws.drop 1))=H9 at s9 e9 ⊢;have e89:=s9 _ _ e8;have ncP:c≠P:=Ne.symm (aX e8 hc);refine⟨e89,bB (by lia),hC' _ _ ⟨(s8.trans s9).change hP,aB,⟨?_,fun j y ps h1 h2=>?_⟩,fun y hy=>?_⟩⟩
  ·rw[List.length_append,length_take,length_map,length_drop];simp only[length_cons,length_nil];lia
  ·have ee:((M.drop 1).map (List.drop 1))[i]?=some (M[1+i].drop 1):=by rw[getElem?_map,getElem?_drop,getElem?_eq_getElem hM1];rfl
   rw[take_add_one,ee] at h2
   by_cases hj:j < zs.length
   ·rw[getElem?_append_left hj] at h1;rw[getElem?_append_left (by rw[<- fm.l];exact hj)] at h2;obtain⟨a',xs',q1,q2,q3,q4⟩:=fm.r j y ps h1 h2;have na:a'≠P:=fun z=>nP y (mem_of_getElem? h1) (by rw[q1,z]);exact⟨a',xs',q1,q2,by rw[aQ na];exact s9 _ _ q3,(q4.same s9).upd e89⟩
   ·rw[getElem?_append_right (by lia)] at h1;rw[getElem?_append_right (by rw[<- fm.l];lia),<- fm.l] at h2;have j0:j - zs.length=0:=by
     have:=(List.getElem?_eq_some_iff.mp h1).1;simp at this;lia
    rw[j0] at h1 h2;have h1:V.ref c=y:=by simpa using h1
    have h2:M[1+i].drop 1=ps:=by simpa using h2
    subst h1;rw[<- h2];exact⟨c,_,rfl,s8.free hc,by rw[aQ ncP];exact e9,((Fqs.drop1 (fws.same s9))).upd e89⟩
  ·rcases mem_append.mp hy with z | z
   ·exact nP y z
   ·have:y=.ref c:=by simpa using z
    rw[this];exact fun z=>ncP (by injection z)
 rintro us H8 ⟨s8,e8,fm,nP⟩;rw[show ((as.map V.ref).drop 1).length=((M.drop 1).map (List.drop 1)).length by rw[length_drop,length_map,length_map,length_drop,mx.la],take_length] at fm;have s78:=s7.trans s8;have eR8:=s78 _ _ eR;refine⟨_,rfl,1,rfl,R,_,rfl,SqL.of eR8,fun r hr'=>?_⟩;rw[Ib];have s9:=aE hr' (.lst (ys.drop 1));have e9:upd H8 r (.lst (ys.drop 1)) r=some (.lst (ys.drop 1)):=aB;generalize upd H8 r (.lst (ys.drop 1))=H9 at s9 e9 ⊢;refine⟨zl9 2,fun t ht=>?_⟩;have sT:=aE ht (.tup [.ref P,.ref r]);have s9T:=s9.trans sT;have s0:aS H (upd H9 t (.tup [.ref P,.ref r])):=s1.trans (s12.trans (s6.trans (s78.trans s9T)));have s07:aS H H7:=s1.trans (s12.trans (s6.trans s7));have fl:∀c,H7 c=none->H c=none:=fun c h=>s07.free h;refine q t P r us (ys.drop 1) ((M.drop 1).map (List.drop 1)) (rs.drop 1) _ s0 aB (fl P hP) ((s07.trans s8).free hr') (s9T _ _ e8) (sT _ _ e9) ⟨fm.l,fun i x ps h1 h2=>?_⟩ (Fqs.drop1 (FR.same (s78.trans s9T))) (fun x hx=>⟨nP x hx,?_⟩) ⟨?_,?_,?_,?_⟩
 ·obtain⟨a',xs',q1,q2,q3,q4⟩:=fm.r i x ps h1 h2;exact⟨a',xs',q1,fl a' q2,s9T _ _ q3,q4.same s9T⟩
 ·intro z;obtain⟨i,hi⟩:=getElem?_of_mem hx;have il:i < ((M.drop 1).map (List.drop 1)).length:=by rw[<- fm.l];exact(List.getElem?_eq_some_iff.mp hi).1
  obtain⟨a',xs',q1,q2,q3,q4⟩:=fm.r i x _ hi (getElem?_eq_getElem il);rw[q1] at z;have:a'=r:=by injection z
  rw[<- this,q3] at hr'
  cases hr'
 ·have:=Nb mb
  rwa [show W - 1=m - 1+cA ds by lia] at this
 ·have:=Ny lb
  rwa [show W - 1=m - 1+cA ds by lia] at this
 ·intro i j;rw[Mp];exact vM _ _
 ·intro i;rw[vE];exact vR _
theorem Y48:DZ 2 Z.f48 Z.d48 ["some"] (Shp.Sz Z.K) "in_wholes":=by
 refine⟨?_,F48.b1 _ (by intros;rfl),F48.kp,m48⟩
 refine F48.ok9 Wc fun _ _ _ s H _ Q E hr h=>?_;obtain⟨a,xs,ps,n,rfl,hS,hF,hP,hB,h100,hn,q⟩:=h;refine⟨_,(aD (aR (i:=1) Wc.nd rfl (Or.inr rfl) aG)
  (aD (eZ PassesOwn.never rfl (cO (pv 0)) (aZ (i:=2) Wc.nd rfl (Or.inl rfl))
   (aF (aR (i:=1) Wc.nd rfl (Or.inr rfl) (bC cW (bC jK (pv 1) (d9 Y4 hr rfl (aA (pv 1) (aA (aU aY (pv 2) aG (fun _ _=>rfl)) aC)))) (aU aY (pv 2) aG (fun _ _=>rfl))))))
  (aF (aW (cS (aA (eQ (nl:=1) (fr:=[1]) (Nc:=["one","bottom"]) (cl:=[("bottom",s.heap.objs.size+1)]) rfl ⟨rfl,rfl,by decide +kernel,by decide +kernel,fun x c h=>h,fA rfl,rfl,fun i n h=>match i,h with | 0,h=>by cases h;exact⟨1,rfl,rfl,rfl,rfl,.inl rfl⟩ | k+1,h=>by rw[show 1+(k+1)=k+2 by lia] at h;cases h⟩
    (cO (pv 0)) (fun _ _ _ _ _=>(aZ (i:=0) wP rfl (Or.inl rfl))) (fun _ _ _ _ _=>gD)
    (fun _ _ _ _ _=>(bC cW (aU (zZ (K:=Z.K) rfl) (pv 0) aG (fun _ _=>rfl)) (bC jK (pv 1) (aU (zZ (K:=Z.K) rfl) (pv 0) aG (fun _ _=>rfl)))))) (aA (pv 1) aC))))))),?_⟩
 have lx:=hF.length;refine⟨_,rfl,a,rfl,⟨_,hS⟩,?_⟩;refine eK (xs:=xs) (fun i σ H'=>H'=H/\i<=ps.length/\∃z,σ=[some (.ref a),some (.int (eJ (ps.take i))),z]) ⟨rfl,Nat.zero_le _,none,rfl⟩ (fun i σ H' _ h=>by rw[h.1];exact hS) ?_ ?_
 ·rintro i x σ H' hx ⟨rfl,hi,z,rfl⟩;obtain⟨u,p,rfl,ep,fu⟩:=hF.get hx;have hi':i < ps.length:=(List.getElem?_eq_some_iff.mp ep).1;obtain⟨f1,f2,_⟩:=oZ hP hB i hi;have mono:=Nat.mul_le_mul_left n hi;have hp:=hP p (mem_of_getElem? ep);have pb:=(hB p (mem_of_getElem? ep)).b;have g0:gc (eJ (ps.take i)) p.2≠0:=by have:=Mq.vQ (a:=eJ (ps.take i)) (show p.2≠0 by lia);lia
  have gb:Mq.B n (gc (eJ (ps.take i)) p.2):=by
   have:=Hh (t:=eJ (ps.take i)) (show p.2≠0 by lia);rw[Tl (by lia)] at this;exact pb.le this
  have qb:Mq.B (1+n*i) (Int.fdiv (eJ (ps.take i)) (gc (eJ (ps.take i)) p.2)):=by
   have d1:gc (eJ (ps.take i)) p.2 ∣ eJ (ps.take i):=by unfold gc;exact Int.gcd_dvd_left ..
   obtain⟨k,hk⟩:=d1;have:=Mq.jL g0 hk;rw[fU g0 hk];exact f2.le this
  refine⟨_,rfl,_,rfl,cQ rfl fu ⟨_,_,rfl,fY g0 gb (by lia) (cQ rfl fu (cV qb pb (by lia) (by lia) ?_))⟩⟩;refine⟨rfl,hi',some (.ref u),?_⟩;rw[Mq.oH ep];rfl
 rintro σ H' ⟨rfl,_,z,rfl⟩;rw[lx,take_length];obtain⟨f1,f2,f3⟩:=oZ hP hB ps.length (Nat.le_refl _);rw[take_length] at f1 f2 f3;refine⟨_,rfl,a,rfl,⟨_,hS⟩,fun D hD=>?_⟩;have sD:=aE hD (.lst []);refine dW (xs:=xs) (fun i zs H1=>aS H' H1/\H1 D=some (.lst zs)/\zs=((ps.take i).map (Dy (eJ ps))).map V.int) ⟨sD,aB,rfl⟩ (fun i zs H1 h=>h.2.1) (fun i zs H1 _ h=>h.1.seq hS) ?_ ?_
 ·rintro i zs x H1 hx ⟨s1,e1,rfl⟩ C hC;obtain⟨u,p,rfl,ep,fu⟩:=hF.get hx;have hi':i < ps.length:=(List.getElem?_eq_some_iff.mp ep).1;have mem:=mem_of_getElem? ep;have hp:=hP p mem;obtain⟨k,hk⟩:=f3 p mem;have fu1:=s1.fq fu;have kb:Mq.B (1+n*ps.length) (Int.fdiv (eJ ps) p.2):=by
   have e:=fU (show p.2≠0 by lia) (show eJ ps=p.2*k by rw[hk,Int.mul_comm]);rw[e];refine f2.le ?_;rw[hk,Int.natAbs_mul];exact Nat.le_mul_of_pos_right _ (by lia)
  refine⟨gF.1,gF.2,gC ?_⟩;refine eY rfl fu1 ⟨_,rfl,cQ rfl fu1 (fY (show p.2≠0 by lia) (hB p mem).b (by lia) (cV (hB p mem).a kb (by lia) (by lia) ?_))⟩;refine⟨e1,bB (by rw[length_map,length_map,length_take];lia),hC _ _ ⟨s1.change hD,aB,?_⟩⟩;rw[take_add_one,ep,map_append,map_append];rfl
 rintro zs H1 ⟨s1,e1,rfl⟩;rw[lx,take_length] at e1;refine⟨_,rfl,zl9 2,fun t ht=>?_⟩;have s2:=aE ht (.tup [.ref D,.int (eJ ps)]);exact q t D _ (s1.trans s2) hD (SqT.of aB) (s2 _ _ e1)
theorem Y49:DZ 1 Z.f49 Z.d49 ["rows","rank","column"] (Shp.Nk Z.K) "pivot_place":=by
 refine⟨?_,F49.b3 _ _ _ (by intros;rfl),F49.kp,m49⟩
 refine F49.ok9 Xi fun _ _ _ s H _ Q E hr h=>?_;obtain⟨l,D,zs,R,r,c,m,w',rfl,hS,hI,hm,hw,hc,hr',h100,q1,q2⟩:=h;refine⟨_,(aD (eZ PassesOwn.never rfl (Ld rfl n_range (aA (pv 1) (aA (bM bU rfl n_len PySem.boot_len (aA (pv 0) aC)) aC))) (aZ (i:=3) Xi.nd rfl (Or.inl rfl))
   (aF (cJ (bA oQ (aU bL (aU bL (pv 0) (pv 3) (fun _ _=>rfl)) (pv 2) (fun _ _=>rfl)) aG (bH _)) (aF (aW (pv 3))) bO)))
  (aF (aW zN))),?_⟩
 have lz:=hI.length;obtain⟨k,hk⟩:∃k,m=r+k:=⟨m - r,by lia⟩
 refine⟨_,rfl,_,rfl,l,zs,rfl,.inl hS,(r:Int),(zs.length:Int),rfl,⟨by lia,by lia,by lia,by lia⟩,?_⟩;rw[show ((zs.length:Int) - (r:Int)).toNat=k by lia];refine kM (lo:=(r:Int)) (n:=k) (fun i σ H'=>H'=H/\(∀j,r<=j->j < r+i->ent R j c=0)/\∃z,σ=[some (.ref l),some (.int (r:Int)),some (.int (c:Int)),z]) ⟨rfl,fun j h1 h2=>absurd h1 (by lia),none,rfl⟩ ?_ ?_
 ·rintro i σ H' hi ⟨rfl,hz,z,rfl⟩;obtain⟨u,eu,nu,hu⟩:=hI.at (i:=r+i) (by lia);have eu':atI zs ((r:Int)+(i:Int))=some (.ref u):=by have:=bQ eu;rwa [Int.natCast_add] at this
  have ec:=bQ (kT (l:=R.getD (r+i) []) (i:=c) (by rw[hw _ (by lia)];exact hc));refine⟨_,rfl,_,rfl,l,zs,_,_,rfl,rfl,hS,eu',_,rfl,u,_,_,_,rfl,rfl,SqL.of hu,ec,rfl,_,rfl,zP (fun e=>?_) (fun e=>?_)⟩
  ·refine⟨_,rfl,?_⟩;have ne:ent R (r+i) c≠0:=fun z=>by
    have z':(R.getD (r+i) []).getD c 0=0:=z;rw[z'] at e;simp at e
   have:=q1 (r+i) (by lia) (by lia) ne
   rwa [Int.natCast_add] at this
  ·refine⟨rfl,fun j h1 h2=>?_,_,rfl⟩
   by_cases hj:j=r+i
   ·rw[hj];simp at e;exact e
   ·exact hz j h1 (by lia)
 ·rintro σ H' ⟨rfl,hz,z,rfl⟩;exact q2 fun i h1 h2=>hz i h1 (by lia)
theorem Y50:DZ 1 Z.f50 Z.d50 ["row","upper","column","divisor"] (Shp.rE Z.K) "cleared":=by
 refine⟨?_,F50.b4 _ _ _ _ (by intros;rfl),F50.kp,m50⟩
 refine F50.ok9 Ou fun _ _ _ s H _ Q E hr h=>?_;obtain⟨u,v,row,upper,c,n,dv,rfl,hu,hv,hl,h100,hc,hd,b1,b2,bd,hn,q⟩:=h;refine⟨_,(aD (aR (i:=4) Ou.nd rfl (Or.inr rfl) (aU bL (pv 1) (pv 2) (fun _ _=>rfl)))
  (aD (aR (i:=5) Ou.nd rfl (Or.inr rfl) (aU bL (pv 0) (pv 2) (fun _ _=>rfl)))
  (aF (aW (eQ (nl:=2) (fr:=[4,5,3]) (Nc:=["here","above","own","other","divisor"]) (cl:=[("own",s.heap.objs.size+2),("other",s.heap.objs.size+3),("divisor",s.heap.objs.size+1)]) (g:=(Ac Z.K 2 (iM (hV 0) (iM (hV 1) zS)))) rfl ⟨rfl,rfl,by decide +kernel,by decide +kernel,(dR rfl (dR rfl (dR rfl (kY)))),fA rfl,rfl,fun i n h=>match i,h with | 0,h=>by cases h;exact⟨4,rfl,rfl,rfl,rfl,.inl rfl⟩ | 1,h=>by cases h;exact⟨5,rfl,rfl,rfl,rfl,.inl rfl⟩ | 2,h=>by cases h;exact⟨3,rfl,rfl,rfl,rfl,.inl rfl⟩ | k+3,h=>by rw[show 2+(k+3)=k+5 by lia] at h;cases h⟩
    (Ru rfl n_zip rfl (aA (pv 0) (aA (pv 1) aC))) (fun _ _ _ _ _=>(jD rfl (cE (aZ (i:=0) eO rfl (Or.inl rfl)) (cE (aZ (i:=1) eO rfl (Or.inl rfl)) gR)))) (fun _ _ _ _ _=>gD)
    (fun _ _ _ _ _=>(bC jK (bC lL (bC cW (pv 2) (pv 0)) (bC cW (pv 3) (pv 1))) (pv 4)))))))),?_⟩
 have e1:=bQ (kT (l:=upper) (i:=c) (by lia));have e2:=bQ (kT (l:=row) (i:=c) (by lia));refine⟨_,rfl,_,rfl,v,_,_,_,rfl,rfl,hv,e1,?_⟩;refine⟨_,rfl,_,rfl,u,_,_,_,rfl,rfl,hu,e2,?_⟩;refine⟨_,rfl,_,rfl,u,v,rfl,⟨_,hu⟩,⟨_,hv⟩,fun D hD=>?_⟩;have sD:=aE hD (.lst []);refine Dt (xs:=row.map V.int) (ys:=upper.map V.int) (fun i zs H'=>aS H H'/\H' D=some (.lst zs)/\zs=((gV upper row c dv).take i).map V.int) ⟨sD,aB,rfl⟩ (fun i zs H' h=>h.2.1) (fun i zs H' _ h=>⟨h.1.seq hu,h.1.seq hv⟩) ?_ ?_
 ·rintro i zs x y H1 T1 ex ey ⟨s1,e1',rfl⟩ hT C hC;have hi:i < row.length:=by have:=(List.getElem?_eq_some_iff.mp ex).1;simpa using this
  have ex':x=.int (row.getD i 0):=by rw[kT hi] at ex;cases ex;rfl
  have ey':y=.int (upper.getD i 0):=by rw[kT (by lia)] at ey;cases ey;rfl
  subst ex' ey';have sT:=aE hT (.tup [.int (row.getD i 0),.int (upper.getD i 0)]);refine⟨T1,_,rfl,SqT.of aB,rfl,_,_,rfl,_,_,rfl,rfl,iT.1,iT.2,gC ?_⟩;have mm:Mq.B (n+n+1) (upper.getD c 0*row.getD i 0 - row.getD c 0*upper.getD i 0):=Mq.B.sub ((b2 c).mul (b1 i)) ((b1 c).mul (b2 i));refine⟨_,rfl,_,rfl,cV (b2 c) (b1 i) (by lia) (by lia) ⟨_,rfl,_,rfl,cV (b1 c) (b2 i) (by lia) (by lia) ⟨_,_,rfl,rfl,_,rfl,fY hd bd (by lia) ?_⟩⟩⟩;have ll:(gV upper row c dv).length=row.length:=by unfold gV;rw[length_zipWith];lia
  have eA:=sT _ _ e1';refine⟨eA,bB (by rw[length_map,length_take];lia),hC _ _ ⟨(s1.trans sT).change hD,aB,?_⟩⟩;have eg:(gV upper row c dv)[i]?=some (Int.fdiv (upper.getD c 0*row.getD i 0 - row.getD c 0*upper.getD i 0) dv):=by
   unfold gV;rw[getElem?_zipWith,mM hi,mM (show i < upper.length by lia)]
  rw[take_add_one,eg,map_append];rfl
 rintro zs H1 ⟨s1,e1',rfl⟩;have ll:(gV upper row c dv).length=row.length:=by unfold gV;rw[length_zipWith];lia
 rw[length_map,length_map,take_of_length_le (by rw[ll];lia)] at e1';exact q D H1 s1 hD e1'
theorem Y51:DZ 2 Z.f51 Z.d51 ["rows","rank","column","divisor"] (Shp.qW Z.K) "cleared_rows":=by
 refine⟨?_,F51.b4 _ _ _ _ (by intros;rfl),F51.kp,m51⟩
 refine F51.ok9 xK fun _ _ _ s H _ Q E hr h=>?_;obtain⟨l,D0,zs,R,r,c,m,w',n,dv,rfl,hS,hI,hm,hw,hc,hw100,hr',h100,hd,hB,bd,hn,q⟩:=h;refine⟨_,(aD (aR (i:=4) xK.nd rfl (Or.inr rfl) (aU bL (pv 0) (pv 1) (fun _ _=>rfl)))
  (aF (aW (eQ (nl:=2) (fr:=[4,1,3,2]) (Nc:=["place","row","upper","rank","divisor","column"]) (cl:=[("upper",s.heap.objs.size+4),("rank",s.heap.objs.size+1),("divisor",s.heap.objs.size+3),("column",s.heap.objs.size+2)]) (g:=(Ac Z.K 2 (iM (hV 0) (iM (hV 1) zS)))) rfl ⟨rfl,rfl,by decide +kernel,by decide +kernel,(dR rfl (dR rfl (dR rfl (dR rfl (kY))))),fA rfl,rfl,fun i n h=>match i,h with | 0,h=>by cases h;exact⟨4,rfl,rfl,rfl,rfl,.inl rfl⟩ | 1,h=>by cases h;exact⟨1,rfl,rfl,rfl,rfl,.inl rfl⟩ | 2,h=>by cases h;exact⟨3,rfl,rfl,rfl,rfl,.inl rfl⟩ | 3,h=>by cases h;exact⟨2,rfl,rfl,rfl,rfl,.inl rfl⟩ | k+4,h=>by rw[show 2+(k+4)=k+6 by lia] at h;cases h⟩
    (tY rfl n_enumerate rfl (aA (pv 0) aC)) (fun _ _ _ _ _=>(jD rfl (cE (aZ (i:=0) dH rfl (Or.inl rfl)) (cE (aZ (i:=1) dH rfl (Or.inl rfl)) gR)))) (fun _ _ _ _ _=>gD)
    (fun _ _ _ _ _=>(pS (bA eV (pv 0) (pv 3) (bH _)) (pv 1) (d9 Y50 hr rfl (aA (pv 1) (aA (pv 2) (aA (pv 5) (aA (pv 4) aC))))))))))),?_⟩
 have lz:=hI.length;obtain⟨v,ev,nv,hv⟩:=hI.at (i:=r) (by lia);refine⟨_,rfl,_,rfl,l,zs,_,_,rfl,rfl,hS,bQ ev,?_⟩;refine⟨_,rfl,l,rfl,⟨_,hS⟩,fun D hD=>?_⟩;have sD:=aE hD (.lst []);have ll:=Mq.Ij R r c dv;refine rO (xs:=zs) (fun i ys H'=>aS H H'/\H' D=some (.lst ys)/\Imx D H' ys ((cK R r c dv).take i)) ⟨sD,aB,.nil⟩ (fun i ys H' h=>h.2.1) (fun i ys H' _ h=>h.1.seq hS) ?_ ?_
 ·rintro i ys x H1 T1 ex ⟨s1,e1,I1⟩ hT C hC;have hi:i < m:=by have:=(List.getElem?_eq_some_iff.mp ex).1;lia
  obtain⟨u,eu,nu,hu⟩:=hI.at (i:=i) (by lia);have exu:x=.ref u:=by rw[eu] at ex;cases ex;rfl
  subst exu;have lI:=I1.length;rw[length_take] at lI;have cg:=pQ (R:=R) (i:=i) (by lia) r c dv;have cs:(cK R r c dv).take (i+1)=(cK R r c dv).take i++[(cK R r c dv).getD i []]:=by
   rw[take_add_one,getD_eq_getElem?_getD,getElem?_eq_getElem (show i < (cK R r c dv).length by lia)];rfl
  have sT:=aE hT (.tup [.int (i:Int),.ref u]);have uD:∀{x:Addr} {o:HO},H x=some o->x≠D:=fun h z=>by rw[z,hD] at h;cases h
  refine⟨T1,_,rfl,SqT.of aB,rfl,_,_,rfl,_,_,rfl,rfl,iT.1,iT.2,gC ?_⟩;generalize upd H1 T1 (.tup [.int (i:Int),.ref u])=H2 at sT ⊢;have sA:=s1.trans sT;have eA:=sT _ _ e1;refine⟨_,rfl,_,rfl,rfl,_,rfl,zP (fun e=>?_) (fun e=>?_)⟩
  ·have ei:i=r:=by simp at e;lia
   refine⟨_,rfl,eA,bB (by lia),hC _ _ ⟨sA.change hD,aB,?_⟩⟩;rw[cs,cg,if_pos ei];exact((I1.same sT).app (.cons (uD hu) (sA _ _ hu) .nil)).upd
  ·have ei:i≠r:=by simp at e;lia
   refine⟨_,rfl,_,rfl,_,rfl,_,rfl,u,v,R.getD i [],R.getD r [],c,n,dv,rfl,SqL.of (sA _ _ hu),SqL.of (sA _ _ hv),by rw[hw i hi,hw r hr'],by rw[hw i hi];exact hw100,by rw[hw i hi];exact hc,hd,fun j=>hB i j,fun j=>hB r j,bd,hn,fun l3 H3 s3 n3 e3=>?_⟩;have eB:=s3 _ _ eA;have n3':l3≠D:=fun z=>by rw[z,eA] at n3;cases n3
   refine⟨eB,bB (by lia),hC _ _ ⟨(sA.trans s3).change hD,aB,?_⟩⟩;rw[cs,cg,if_neg ei];exact((I1.same (sT.trans s3)).app (.cons n3' e3 .nil)).upd
 rintro ys H1 ⟨s1,e1,I1⟩;rw[lz,take_of_length_le (by lia)] at I1;exact q D ys H1 s1 hD e1 I1
theorem Y52:DZ 3 Z.f52 Z.d52 ["rows","width"] (Shp.Bb Z.K) "eliminated":=by
 refine⟨?_,F52.b2 _ _ (by intros;rfl),F52.kp,m52⟩
 refine F52.ok9 iP fun _ _ _ s H _ Q E hr h=>?_;obtain⟨l,D0,zs,R,m,w',n,Pr,rfl,hS,hI,hm,hw,hmw,hw100,hB,hn1,hn,hm31,hPr,hSt,q⟩:=h;have r1:=hr.mono (show 1<=2 by lia);refine⟨_,(aD (aR (i:=0) iP.nd rfl (Or.inl rfl) (gP gE rfl n_list PyProof.Rows.boot_list (aA (pv 0) aC)))
  (aD (aR (i:=2) iP.nd rfl (Or.inl rfl) aG)
  (aD (aR (i:=3) iP.nd rfl (Or.inl rfl) aG)
  (aD (aR (i:=4) iP.nd rfl (Or.inl rfl) aG)
  (aD (eZ PassesOwn.never rfl (iY rfl n_range (aA (pv 1) aC)) (aZ (i:=5) iP.nd rfl (Or.inl rfl))
   (aD (aR (i:=6) iP.nd rfl (Or.inl rfl) (d9 Y49 r1 rfl (aA (pv 0) (aA (pv 2) (aA (pv 5) aC)))))
  (aD (cJ (qK (vW (pv 6))) (aF rT) bO)
  (aD (cJ (bA oQ (pv 6) (pv 2) (bH _)) (aD (aR (i:=7) iP.nd rfl (Or.inl rfl) (aU bL (pv 0) (pv 6) (fun _ _=>rfl)))
  (aD (mD (aU bL (pv 0) (pv 2) (fun _ _=>rfl)) (pB (pv 0) (pv 6) jJ))
  (aD (mD (pv 7) (pB (pv 0) (pv 2) jJ))
  (aF (aR (i:=4) iP.nd rfl (Or.inl rfl) (Cd wF (pv 4))))))) bO)
  (aD (aR (i:=0) iP.nd rfl (Or.inl rfl) (d9 Y51 hr rfl (aA (pv 0) (aA (pv 2) (aA (pv 5) (aA (pv 3) aC))))))
  (aD (aR (i:=3) iP.nd rfl (Or.inl rfl) (aU bL (aU bL (pv 0) (pv 2) (fun _ _=>rfl)) (pv 5) (fun _ _=>rfl)))
  (aF (Gn (i:=2) iP.nd rfl (Or.inl rfl) aG Go))))))))
  (aF (aW (Ig (mP bK (pv 0) (mP bK (pv 2) (mP bK (pv 3) (mP bK (pv 4) Jc)))) rfl rfl (by simp) (by decide))))))))),?_⟩
 refine⟨_,rfl,l,zs,rfl,.inl hS,fun l0 hl0=>?_⟩;have s0:=aE hl0 (.lst zs);have e0:upd H l0 (.lst zs) l0=some (.lst zs):=aB;generalize upd H l0 (.lst zs)=H0 at s0 e0 ⊢;refine⟨_,rfl,(m:Int),rfl,by lia,by lia,?_⟩;rw[Int.toNat_natCast];have b1:Mq.B n 1:=by
  show 1 < 2 ^ n;exact Nat.one_lt_two_pow (by lia)
 refine kM (lo:=0) (n:=m) (fun i σ H'=>aS H H'/\∃(lR:Addr) (zs':List V) (R':List (List Int)) (rank:Nat) (pivot sign:Int) (z5 z6 z7:Option V),σ=[some (.ref lR),some (.int (m:Int)),some (.int (rank:Int)),some (.int pivot),some (.int sign),z5,z6,z7]/\H lR=none/\H' lR=some (.lst zs')/\Imx lR H' zs' R'/\SI m w' (Mq.at2 R) R' rank i pivot sign/\Mq.SB n m R' rank i pivot/\Pr R') ⟨s0,l0,zs,R,0,1,1,none,none,none,rfl,hl0,e0,(hI.other hl0).same s0,.start hm hw,.start hB,hPr⟩ ?_ ?_
 ·rintro i σ H1 hi ⟨s1,lR,zs',R',rank,pivot,sign,z5,z6,z7,rfl,nR,eR,I1,S1,sb,p1⟩;rw[Int.zero_add];obtain⟨bR,bP⟩:=sb.bd5 S1 hm31;obtain⟨A1,c1,B1,_⟩:=S1.bar;have rm:=B1.rm;have rc:=B1.rc;have dn:pivot≠0:=fun z=>B1.dne (by rw[z];simp);clear B1;refine⟨_,rfl,_,rfl,_,rfl,lR,lR,zs',R',rank,i,m,w',rfl,SqL.of eR,I1,S1.len,S1.wid,by lia,rm,by lia,fun p h1 h2 ne=>?_,fun hz=>?_⟩
  ·refine⟨_,rfl,_,rfl,iA ?_⟩;have hrm:rank < m:=by lia
   refine(fun (hrest:∀(sg:Int) (z:Option V) (Hx:Hp) (zs2:List V) (R2:List (List Int)),aS H Hx->Hx lR=some (.lst zs2)->Imx lR Hx zs2 R2->SI m w' (Mq.at2 R) R2 rank i pivot sg->ent R2 rank i≠0->Mq.SB n m R2 rank i pivot->Pr R2->W.KIN.Hid ((?T:Int->Option V->Hp->Prop) sg z Hx))=>?main) ?rest
   case main=>
    refine⟨_,rfl,_,rfl,rfl,_,rfl,zP (fun e=>?c1) (fun e=>?c2)⟩
    case c1=>
     have npr:p≠rank:=by simp at e;lia
     obtain⟨up,eup,nup,hup⟩:=I1.at (i:=p) (by rw[S1.len];lia);obtain⟨ur,eur,nur,hur⟩:=I1.at (i:=rank) (by rw[S1.len];lia);have lz:zs'.length=m:=I1.length.trans S1.len;refine⟨_,rfl,_,rfl,lR,zs',_,_,rfl,rfl,SqL.of eR,bQ eup,?_⟩;refine⟨_,rfl,_,rfl,lR,zs',_,_,rfl,rfl,SqL.of eR,bQ eur,_,rfl,_,rfl,lR,zs',_,p,rfl,rfl,eR,kZ (by lia),?_⟩;have e2:upd H1 lR (.lst (zs'.set p (.ref ur))) lR=some (.lst (zs'.set p (.ref ur))):=aB;have I2:=(Imx.set nur hur p I1).upd (o:=.lst (zs'.set p (.ref ur)));have s2:aS H (upd H1 lR (.lst (zs'.set p (.ref ur)))):=s1.change nR;have hup2:upd H1 lR (.lst (zs'.set p (.ref ur))) up=some (.lst ((R'.getD p []).map V.int)):=by rw[aQ nup];exact hup
     generalize upd H1 lR (.lst (zs'.set p (.ref ur)))=H2 at e2 I2 s2 hup2 ⊢;refine⟨_,rfl,_,rfl,_,rfl,lR,_,_,rank,rfl,rfl,e2,kZ (by rw[length_set];lia),?_⟩;have e3:upd H2 lR (.lst ((zs'.set p (.ref ur)).set rank (.ref up))) lR=some (.lst ((zs'.set p (.ref ur)).set rank (.ref up))):=aB;have I3:=(Imx.set nup hup2 rank I2).upd (o:=.lst ((zs'.set p (.ref ur)).set rank (.ref up)));have s3:aS H (upd H2 lR (.lst ((zs'.set p (.ref ur)).set rank (.ref up)))):=s2.change nR;generalize upd H2 lR (.lst ((zs'.set p (.ref ur)).set rank (.ref up)))=H3 at e3 I3 s3 ⊢;refine⟨_,rfl,_,rfl,?_⟩;show jU _ _ _ [some (.ref lR),some (.int (m:Int)),some (.int (rank:Int)),some (.int pivot),some (.int (-sign)),some (.int (i:Int)),some (.int (p:Int)),some (.ref up)] H3;have S3:=S1.swap (p:=p) (by lia) h2;have bR3:=sb.swap S1 (p:=p) (by lia) h2;have ne3:ent (fK R' p rank) rank i≠0:=by
      unfold ent;rw[Bc (by rw[S1.len];lia) (by rw[S1.len];lia)];have:Mq.sw p rank rank=p:=by unfold Mq.sw;rw[if_pos rfl]
      rw[this];exact ne
     have I3':Imx lR H3 ((zs'.set p (.ref ur)).set rank (.ref up)) (fK R' p rank):=I3;clear I3 hup2;have p3:=hSt.sw _ _ _ _ _ _ S1 (show rank < p by lia) h2 p1;generalize -sign=sg at S3 ⊢;generalize some (V.ref up)=zz at ⊢;exact(hrest sg zz H3 _ _ s3 e3 I3' S3 ne3 bR3 p3).out
    case c2=>
     have epr:p=rank:=by simp at e;lia
     show jU _ _ _ [some (.ref lR),some (.int (m:Int)),some (.int (rank:Int)),some (.int pivot),some (.int sign),some (.int (i:Int)),some (.int (p:Int)),z7] H1;exact(hrest sign z7 H1 _ _ s1 eR I1 S1 (by rw[<- epr];exact ne) sb p1).out
   case rest=>
   intro sg z Hx zs2 R2 sx ex Ix Sx nx bx px;refine⟨?_⟩;have bxx:=bx.bd5 Sx hm31;refine⟨_,rfl,_,rfl,_,rfl,_,rfl,lR,lR,zs2,R2,rank,i,m,w',bw n m,pivot,rfl,SqL.of ex,Ix,Sx.len,Sx.wid,by lia,hw100,hrm,by lia,dn,bxx.1,bxx.2,hn,fun l3 zs3 H3 s3 n3 e3 I3=>?_⟩;have S3:=Sx.clear hrm (by lia) nx;have b3:=bx.clear Sx hrm (by lia) nx;obtain⟨u,eu,nu,hu⟩:=I3.at (i:=rank) (by rw[S3.len];lia);have ec:=bQ (kT (l:=(cK R2 rank i pivot).getD rank []) (i:=i) (by rw[S3.wid _ hrm];lia));refine⟨_,rfl,_,rfl,l3,zs3,_,_,rfl,rfl,SqL.of e3,bQ eu,_,rfl,u,_,_,_,rfl,rfl,SqL.of hu,ec,?_⟩;refine⟨_,rfl,_,_,rfl,rfl,?_⟩;have ev:((cK R2 rank i pivot).getD rank []).getD i 0=ent R2 rank i:=by rw[pQ (by rw[Sx.len];lia),if_pos rfl];rfl
   refine⟨sx.trans s3,l3,zs3,_,rank+1,ent R2 rank i,sg,some (.int (i:Int)),some (.int (p:Int)),z,?_,sx.free n3,e3,I3,S3,b3,hSt.cl _ _ _ _ _ Sx hrm (by lia) nx px⟩;rw[ev];rfl
  ·refine⟨_,rfl,_,rfl,gC ?_⟩;exact⟨s1,lR,zs',R',rank,pivot,sign,_,_,_,rfl,nR,eR,I1,S1.skip hz,sb.skip hz,p1⟩
 ·rintro σ H1 ⟨s1,lR,zs',R',rank,pivot,sign,z5,z6,z7,rfl,nR,eR,I1,S1,sb,p1⟩;obtain⟨bR,bP⟩:=sb.bd5 S1 hm31;obtain⟨A1,c1,B1,_⟩:=S1.bar;have rm:=B1.rm;intro d hd;have nd:lR≠d:=fun z=>by rw[z,hd] at eR;cases eR
  refine⟨_,rfl,_,rfl,_,rfl,_,rfl,aB,[(.inr "rows",.ref lR),(.inr "rank",.int (rank:Int)),(.inr "pivot",.int pivot),(.inr "sign",.int sign)],rfl,by show 4<=15;decide,?_⟩;have sd:aS H1 (upd (upd H1 d (.dK [])) d (Sn lR rank pivot sign)):=(aE hd _).change hd;exact q d lR zs' R' rank pivot sign _ (s1.trans sd) (s1.free hd) nR aB (sd _ _ eR) (I1.same sd) S1 bR bP p1
theorem Y53:DZ 5 Z.f53 Z.d53 ["matrix","right"] (Shp.oE Z.K) "solved":=by
 refine⟨?_,F53.b2 _ _ (by intros;rfl),F53.kp,m53⟩
 refine F53.ok9 pV fun _ _ _ s H _ Q E hr h=>?_;obtain⟨g,bR,D0,H00,us,bs,X,qs,k,n,rfl,hU,hX,hB,hQ,ql,qL,qB,xP,xB,x4,hk,hBd,hn1,hnb,hz0,q⟩:=h;have hu:=Cf hr;have r3:=hr.mono (show 3<=4 by lia);have r2:=hr.mono (show 2<=4 by lia);refine⟨_,(aD (aR (i:=2) pV.nd rfl (Or.inr rfl) (bM bU rfl n_len PySem.boot_len (aA (pv 0) aC)))
  (aD (Ar (i:=3) (nl:=2) (fr:=[]) (Nc:=["row","side"]) (cl:=[]) (g:=(Ac Z.K 2 (iM (hV 0) (iM (hV 1) zS)))) pV.nd rfl rfl rfl ⟨rfl,rfl,by decide +kernel,by decide +kernel,fun x c h=>(by cases h),fA rfl,rfl,fun i n h=>(by simp at h)⟩
    (Ru rfl n_zip rfl (aA (pv 0) (aA (pv 1) aC))) (fun _ _ _ _ _=>(jD rfl (cE (aZ (i:=0) rX rfl (Or.inl rfl)) (cE (aZ (i:=1) rX rfl (Or.inl rfl)) gR)))) (fun _ _ _ _ _=>gD)
    (fun _ _ _ _ _=>(aU (zZ (K:=Z.K) rfl) (d9 Y48 r2 rfl (aA (bC kA (pv 0) (cB (aA (pv 1) aC))) aC)) aG (fun _ _=>rfl))) rfl)
  (aD (aR (i:=4) pV.nd rfl (Or.inr rfl) (d9 Y52 r3 rfl (aA (pv 3) (aA (pv 2) aC))))
  (aD (cJ (bA yT (sY hu (pv 4) bK (fun _ _=>rfl)) (pv 2) (bH _)) (aF jG) bO)
  (aF (aW (eQ (nl:=1) (fr:=[2,4]) (Nc:=["row","many","end"]) (cl:=[("many",s.heap.objs.size+1),("end",s.heap.objs.size+2)]) rfl ⟨rfl,rfl,by decide +kernel,by decide +kernel,(dR rfl (dR rfl (kY))),fA rfl,rfl,fun i n h=>match i,h with | 0,h=>by cases h;exact⟨2,rfl,rfl,rfl,rfl,.inl rfl⟩ | 1,h=>by cases h;exact⟨4,rfl,rfl,rfl,rfl,.inl rfl⟩ | k+2,h=>by rw[show 1+(k+2)=k+3 by lia] at h;cases h⟩
    (cO (sY hu (pv 4) bK (fun _ _=>rfl))) (fun _ _ _ _ _=>(aZ (i:=0) rZ rfl (Or.inl rfl))) (fun _ _ _ _ _=>gD)
    (fun _ _ _ _ _=>(d9 Y6 r2 rfl (aA (aU (iK (K:=Z.K) rfl) (pv 0) (pv 1) (fun _ _=>rfl)) (aA (sY hu (pv 2) bK (fun _ _=>rfl)) aC))))))))))),?_⟩
 have lu:=hX.length;have lb:=hQ.length;have hw:∀row∈X,row.length=X.length:=fun row h=>(xB row h).2;have qP:=qL.pos;have lA:=Eg ql;refine⟨_,rfl,g,us,rfl,.inl hU,?_⟩;refine⟨_,rfl,_,rfl,g,bR,rfl,⟨_,hU⟩,⟨_,hB⟩,fun D hD=>?_⟩;have sD:=aE hD (.lst []);refine Dt (xs:=us) (ys:=bs) (fun i zs H'=>aS H H'/\H' D=some (.lst zs)/\Imx D H' zs ((iQ X qs).take i)) ⟨sD,aB,.nil⟩ (fun i zs H' h=>h.2.1) (fun i zs H' _ h=>⟨h.1.seq hU,h.1.seq hB⟩) ?_ ?_
 ·rintro i zs x y H1 T1 ex ey ⟨s1,e1,I1⟩ hT C hC;obtain⟨u,ys,row,rfl,er,_,_,hu',fu⟩:=hX.get ex;obtain⟨v,qv,rfl,eq,fv⟩:=hQ.get ey;have hi:i < X.length:=(List.getElem?_eq_some_iff.mp er).1;have mem:=mem_of_getElem? er;have memq:=mem_of_getElem? eq;obtain⟨rb,rl⟩:=xB row mem;have lys:=fu.length;have sT:=aE hT (.tup [.ref u,.ref v]);refine⟨T1,_,rfl,SqT.of aB,rfl,_,_,rfl,_,_,rfl,rfl,iT.1,iT.2,gC ?_⟩;generalize upd H1 T1 (.tup [.ref u,.ref v])=H2 at sT ⊢;have s2:=s1.trans sT;refine⟨_,rfl,_,rfl,zl9 1,fun lo hlo=>?_⟩;have s3:=aE hlo (.lst [.ref v]);have e3:upd H2 lo (.lst [.ref v]) lo=some (.lst [.ref v]):=aB;generalize upd H2 lo (.lst [.ref v])=H3 at s3 e3 ⊢;have s03:=s2.trans s3;refine⟨u,lo,_,_,rfl,rfl,s03 _ _ hu',e3,Nat.le_of_lt (bB (by simp only[length_cons,length_nil];lia)),fun p hp=>?_⟩;have s4:=aE hp (.lst (ys++[.ref v]));have e4:upd H3 p (.lst (ys++[.ref v])) p=some (.lst (ys++[.ref v])):=aB;generalize upd H3 p (.lst (ys++[.ref v]))=H4 at s4 e4 ⊢;have s04:=s03.trans s4;have s14:=sT.trans (s3.trans s4);refine⟨p,_,row++[qv],k,rfl,SqL.of e4,(fu.same s04).app (.cons (s04.fq fv) .nil),fun z hz=>?_,fun z hz=>?_,by rw[List.length_append];simp only[length_cons,length_nil];lia,by rw[List.length_append,rl];simp only[length_cons,length_nil];rw[show X.length+(0+1)=X.length+1 by lia];lia,fun t l H5 s5 nl ht hl=>?_⟩
  ·rcases mem_append.mp hz with z1 | z1
   ·exact xP row mem z z1
   ·have:z=qv:=by simpa using z1
    rw[this];exact qP qv memq
  ·rcases mem_append.mp hz with z1 | z1
   ·exact rb z z1
   ·have:z=qv:=by simpa using z1
    rw[this];exact qB qv memq
  have s15:=s14.trans s5;have e5:=s15 _ _ e1;have ne:l≠D:=fun z=>by rw[z,s14 _ _ e1] at nl;cases nl
  have lz:=I1.length;rw[length_take,lA] at lz;refine⟨t,_,_,_,rfl,rfl,ht,rfl,e5,bB (by lia),hC _ _ ⟨(s1.trans s15).change hD,aB,?_⟩⟩;have ee:(iQ X qs).take (i+1)=(iQ X qs).take i++[iw (row++[qv])]:=by
   rw[take_add_one];unfold iQ mQ;rw[getElem?_map,getElem?_zipWith,er,eq];rfl
  rw[ee];exact((I1.same s15).app (.cons ne hl .nil)).upd
 rintro zs H1 ⟨s1,e1,I1⟩;rw[show min us.length bs.length=(iQ X qs).length by lia,take_length] at I1;have bits4:bw n X.length<=9000:=Nat.le_trans hnb (by decide);have wA:∀i,i < X.length->((iQ X qs).getD i []).length=X.length+1:=fun i hi=>by
  rw[uW ql hi,wJ,List.length_append,hw _ (mem_of_getElem? (wW hi))];rfl
 refine⟨_,rfl,_,rfl,D,D,zs,iQ X qs,X.length,X.length+1,n,fun R=>Mq.KI X.length (Mq.at2 (iQ X qs)) R/\Mq.KJ X.length (Mq.at2 (iQ X qs)) R,by rw[lu];rfl,SqL.of e1,I1,lA,wA,by lia,by lia,hBd,hn1,by lia,by lia,⟨fun Φ _ hz=>hz,fun Φ _ hz=>hz⟩,Rz,fun d lE zE R' rank pivot sign H2 s2 nd nlE ed el IE SE bE bp LE=>?_⟩;obtain⟨g1',g2',g3',g4'⟩:=Ce ed;have s02:=s1.trans s2;have wr:=Na xP qP ql hw SE;refine⟨_,rfl,d,_,rfl,g2',_,rfl,_,_,rfl,rfl,_,rfl,zP (fun e=>?_) (fun e=>?_)⟩
 ·-- lame
  have hr':rank < X.length:=by simp at e;lia
  have hz:wgt X=0:=by
   rcases wr with z | z
   ·exact z.2
   ·lia
  exact absurd hz hz0
 ·-- whole
  have hr':rank=X.length:=by
   rcases wr with z | z
   ·simp at e;lia
   ·exact z.1
  have hz:wgt X≠0:=by
   rcases wr with z | z
   ·lia
   ·exact z.2
  subst hr';have dn:=SE.dne;have pn:pivot≠0:=fun z=>dn (by rw[z];simp);have lzE:=IE.length;rw[SE.len] at lzE;refine⟨_,rfl,d,_,rfl,g1',lE,rfl,⟨_,SqL.of el⟩,fun D2 hD2=>?_⟩;have sD2:=aE hD2 (.lst []);refine dW (xs:=zE) (fun i ws H'=>aS H2 H'/\H' D2=some (.lst ws)/\Fqs Z.K H' ws ((List.range i).map fun i=>red (ent R' i X.length) pivot)) ⟨sD2,aB,.nil⟩ (fun i ws H' h=>h.2.1) (fun i ws H' _ h=>h.1.seq (SqL.of el)) ?_ ?_
  ·rintro i ws x H3 hx ⟨s3,e3,F3⟩ C hC;have hi:i < X.length:=by have:=(List.getElem?_eq_some_iff.mp hx).1;lia
   obtain⟨u,eu,nu,hu2⟩:=IE.at (i:=i) (by rw[SE.len];exact hi);have exu:x=.ref u:=by rw[eu] at hx;cases hx;rfl
   subst exu;have wid:=SE.wid i hi;have lz:=F3.length;rw[length_map,length_range] at lz;have ea:=bQ (kT (l:=R'.getD i []) (i:=X.length) (by lia));rw[<- lu] at ea;refine⟨gF.1,gF.2,gC ?_⟩;refine⟨_,rfl,_,rfl,u,_,_,_,rfl,rfl,SqL.of (s3 _ _ hu2),ea,?_⟩;rw[lu];refine⟨_,rfl,d,_,rfl,Ce (s3 _ _ ed) |>.2.2.1,_,_,bw n X.length,rfl,pn,bp,bits4,fun r H4 s4 e4=>?_⟩;have eD:=s4 _ _ e3;refine⟨eD,bB (by lia),hC _ _ ⟨(s3.trans s4).change hD2,aB,?_⟩⟩;rw[range_succ,map_append];exact((F3.same s4).app (.cons (Fq.of e4) .nil)).upd eD
  rintro ws H3 ⟨s3,e3,F3⟩;rw[lzE] at F3;have gd:∀j,j < X.length->((List.range X.length).map fun i=>red (ent R' i X.length) pivot).getD j Mq.z0=red (ent R' j X.length) pivot:=fun j hj=>by
   rw[getD_eq_getElem?_getD,getElem?_map,getElem?_range hj];rfl
  refine q D2 ws _ H3 (s02.trans s3) (s02.free hD2) e3 F3 ⟨⟨by simp,fun p hp=>?_,fun p hp=>?_,fun i hi=>?_⟩,fun v hv j hj=>?_⟩ (Tw pn bp fun p hp=>by obtain⟨i,hi,rfl⟩:=mem_map.mp hp;exact⟨_,bE i X.length,rfl⟩)
  ·obtain⟨i,_,rfl⟩:=mem_map.mp hp;exact iV pn
  ·obtain⟨i,hi,rfl⟩:=mem_map.mp hp;have le:=rD (t:=ent R' i X.length) pn;exact⟨((bE i X.length).le le.1).mono bits4,(bp.le le.2).mono bits4⟩
  ·rw[<- qe1 xP qP ql hw LE.1 SE hi];refine aT fun j hj=>?_;rw[gd j hj,jQ pn];rfl
  ·rw[gd j hj,jQ pn,<- Xw xP qP ql hw LE.2 SE hv hj];rfl
theorem R54:FZ (CX1 Z.P Z.w) 7 Z.f54 Z.d54 ["net"] (Bw Z.c_Net Z.c_Ring Z.c_Floats Z.K):=by
 refine F54.okX My (fun vs H Q E h=>?_) fun cdv A outer s H vs Q E hr h=>?_
 ·obtain⟨_,_,_,_,rfl,_⟩:=h;rfl
 obtain⟨n,l,m,ds,rfl,nt,pt,mo,m20,h40,hz,rf,q⟩:=h;have r2:=hr.mono (show 2<=6 by lia);have r5:=hr.mono (show 5<=6 by lia);refine⟨_,(aD (aR (i:=1) My.nd rfl (Or.inl rfl) (d9 Y40 r5 rfl (aA (pv 0) (aA (cB (aA bK aC)) aC))))
  (aD (cJ (bA Jh (bM bU rfl n_len PySem.boot_len (aA (pv 1) aC)) aG (bH _)) (aF (yP gK iW rfl rfl mc_Ring qIG R2 r2 b2 (aA (aU bL (pv 1) aG (fun _ _=>rfl)) (aA (d9 Y41 r5 rfl (aA (pv 0) (aA (aU bL (pv 1) aG (fun _ _=>rfl)) aC))) aC)))) bO)
  (aD (aR (i:=2) My.nd rfl (Or.inl rfl) (d9 Y37 hr rfl (aA (pv 0) aC)))
  (aF (cJ (bA Jh (bM bU rfl n_len PySem.boot_len (aA (pv 2) aC)) aG (bH _)) (aF (yP gK iW rfl rfl mc_Floats qIF R1 r2 b1 (aA (pv 2) aC))) bO))))),?_⟩
 refine⟨_,rfl,zl9 1,fun L hL=>?_⟩;have s1:=aE hL (.lst [.str "hold"]);have e1:upd H L (.lst [.str "hold"]) L=some (.lst [.str "hold"]):=aB;generalize upd H L (.lst [.str "hold"])=H1 at s1 e1 ⊢;refine⟨n,l,.ref L,m,ds,wHo,rfl,nt.same s1,pt,m20,h40,.seq (SqL.of e1) rfl,fun r us H2 s2 nr er G nx=>?_⟩;have s02:=s1.trans s2;refine⟨_,rfl,r,_,rfl,.inl (SqL.of er),_,_,rfl,rfl,_,rfl,?_⟩;have ri:=jA (W:=wHo) (Di pt) ds.length (by rw[oV];exact Nat.le_refl _)
 cases hR:rgH ds with
 |cons c rr=>
  have gl:us.length=((rgH ds).map (·.2)).length:=G.l;rw[hR] at gl;have lu:0 < us.length:=by rw[gl];simp
  obtain⟨u0,hu0⟩:∃u,us[0]?=some u:=⟨_,getElem?_eq_getElem lu⟩
  obtain⟨ra,xs,rfl,nra,era,sts⟩:=G.r 0 u0 c.2 hu0 (by show ((rgH ds).map (·.2))[0]?=_;rw[hR];rfl);refine L2.ifT (by show decide (((us.length:Nat):Int) > 0)=true;exact decide_eq_true (by lia)) ?_;obtain⟨c1,k',u',v',st,pts,_,ec,hst,ch,stl⟩:=ri.r c (by show c∈rgH ds;rw[hR];exact mem_cons_self ..);have inb:∀t∈c.2,t.1 < ds.length/\(t.2=1\/t.2=-1):=fun t ht=>by
   rw[ec] at ht;rcases mem_cons.mp ht with z | z
   ·subst z;exact⟨c1,.inl rfl⟩
   ·obtain⟨i,hi,e⟩:=getElem_of_mem z;obtain⟨_,_,_,_,u2,v2,hm,w⟩:=ch.g i t (by rw[<- e];exact getElem?_eq_getElem hi);refine⟨ri.lt _ hm,?_⟩;rcases w with ⟨a,_⟩ | ⟨a,_⟩
    ·exact .inl a
    ·exact .inr a
  have l21:c.2.length<=21:=by rw[ec,length_cons];lia
  refine⟨_,rfl,r,us,_,_,rfl,rfl,SqL.of er,bQ (j:=0) hu0,_,rfl,_,rfl,r,us,_,_,rfl,rfl,SqL.of er,bQ (j:=0) hu0,?_⟩;refine⟨n,l,ra,_,ds,xs,c.2,rfl,nt.same s02,by lia,hz,SqL.of era,sts,l21,inb,fun t0 H3 s3 f3=>?_⟩;refine⟨zl9 2,fun x hx=>?_⟩;have sx:=aE hx (gS x (.ref Z.c_Ring) none);refine⟨x,ra,t0,xs,rfl,aB,sx.seq (SqL.of (s3 _ _ era)),by rw[sts.length];lia,fun dx l2 H4 ndx nl2 ne1 ne2 keep ex ed el=>⟨rfl,some dx,ex,?_⟩⟩;have sd:=qM (s02.trans s3) hx keep;have sd3:=qM (aS.refl H3) hx keep;refine rf.rg c rr hR dx l2 t0 xs _ sd (by rw[jI ne1];exact ed) ((s02.trans (s3.trans sx)).free nl2) (by rw[jI ne2];exact el) ((sts.same s3).same sd3) (sd3.fq f3)
 |nil=>
  have gl:us.length=((rgH ds).map (·.2)).length:=G.l;rw[hR] at gl;have lu:us=[]:=eq_nil_of_length_eq_zero (by simpa using gl);subst lu;refine L2.ifF rfl ?_;refine⟨_,rfl,n,l,m,ds,rfl,nt.same s02,pt,mo,m20,by lia,fun l' H3 s3 nl e3=>?_⟩;refine⟨_,rfl,l',_,rfl,.inl (SqL.of e3),_,_,rfl,rfl,_,rfl,?_⟩
  by_cases c:dC m ds=[]
  ·rw[c];exact L2.ifF rfl (q hR c H3 (s02.trans s3))
  ·have l0:0 < (dC m ds).length:=length_pos_iff.mpr c;have lf:(dC m ds).length<=20:=by
    unfold dC;rw[length_map];refine Nat.le_trans (length_filter_le _ _) ?_;rw[length_range];exact m20
   refine L2.ifT (by show decide (((((dC m ds).map V.int).length:Nat):Int) > 0)=true;rw[length_map];exact decide_eq_true (by lia)) ?_;refine⟨_,rfl,zl9 1,fun x hx=>?_⟩;have sx:=aE hx (gS x (.ref Z.c_Floats) none);refine⟨x,l',_,rfl,aB,sx.seq (SqL.of e3),by rw[length_map];lia,fun dx l2 H4 ndx nl2 ne1 ne2 keep ex ed el=>⟨rfl,some dx,ex,?_⟩⟩;exact rf.fl hR c dx l2 _ (qM (s02.trans s3) hx keep) (by rw[jI ne1];exact ed) ((s02.trans (s3.trans sx)).free nl2) (by rw[jI ne2];exact el)
theorem Y55:DZ 5 Z.f55 Z.d55 ["rows","levels","held"] (zR Z.K (kd3 Z.c_Piece Z.c_Push Z.c_Hold)) "flows_of":=by
 refine⟨?_,F55.b3 _ _ _ (by intros;rfl),F55.kp,m55⟩
 refine F55.ok9 oF fun _ _ _ s H _ Q E hr h=>?_;obtain⟨a,b,h,xs,ls,ys,ds,lv,hs,m,rfl,ea,Rb,SA,hS,hF,hlo,hK,hh,h40,q⟩:=h;have r1:=hr.mono (show 1<=4 by lia);refine⟨_,(aD (aR (i:=3) oF.nd rfl (Or.inl rfl) (cB aC))
  (aD (aR (i:=4) oF.nd rfl (Or.inl rfl) aG)
  (aD (eZ PassesOwn.never rfl (cO (pv 0)) (aZ (i:=5) oF.nd rfl (Or.inl rfl))
   (aD (aR (i:=6) oF.nd rfl (Or.inl rfl) (d9 Y34 hr rfl (aA (pv 5) (aA (pv 1) aC))))
  (aF (cJ (bA eV (fH (pv 5) T.cl mW GW r1 bW .nil aM) bK (bH _)) (aD (bX (mB PySem.F.plainAttrs_list PySem.F.slot_list_append PySem.F.type_list_append dU (pv 3) (aA (By (pv 5) T.cl mS GS hr bS .nil aM (aA (pv 6) (aA (aU bL (pv 2) (pv 4) (fun _ _=>rfl)) aC))) aC)))
  (aF (Gn (i:=4) oF.nd rfl (Or.inl rfl) aG Go))) (aF (bX (mB PySem.F.plainAttrs_list PySem.F.slot_list_append PySem.F.type_list_append dU (pv 3) (aA (By (pv 5) T.cl mS GS hr bS .nil aM (aA (pv 6) (aA (dA (v:=.ref Z.aN) rfl mv_NOUGHT rfl) aC))) aC))))))))
  (aF (aW (pv 3)))))),?_⟩
 have lxs:=Rb.length;have lys:=hF.length;refine⟨zl9 0,fun l hl=>?_⟩;have s1:=aE hl (.lst []);have e1:upd H l (.lst []) l=some (.lst []):=aB;generalize upd H l (.lst [])=H1 at s1 e1 ⊢;refine⟨_,rfl,a,rfl,⟨_,SqL.of (s1 _ _ ea)⟩,?_⟩;refine eK (xs:=xs) (fun i σ H'=>aS H H'/\∃(zs:List V) (ti:Int) (z5 z6:Option V),σ=[some (.ref a),some (.ref b),some (.ref h),some (.ref l),some (.int ti),z5,z6]/\ti=((cA (ds.take i):Nat):Int)/\H' l=some (.lst zs)/\Fqs Z.K H' zs (wQ lv hs 0 (ds.take i))) ⟨s1,[],0,none,none,rfl,rfl,e1,.nil⟩ (fun i σ H' _ h=>h.1.seq (SqL.of ea)) ?_ ?_
 ·rintro i x σ H2 hx ⟨s2,zs,ti,z5,z6,rfl,hti,e2,F2⟩;have hi:i < ds.length:=by have:=(List.getElem?_eq_some_iff.mp hx).1;lia
  obtain⟨⟨k0,u,v,p⟩,hd⟩:∃d,ds[i]?=some d:=⟨_,getElem?_eq_getElem hi⟩
  obtain⟨y,z,ey,rw0,fz0⟩:=Rb.at hd;have ex:x=.ref y:=by rw[ey] at hx;exact(Option.some.inj hx).symm
  subst ex;have rd:=hK _ (mem_of_getElem? hd);have pt:cT (m:Int) u v:=⟨rd.1,rd.2.1,rd.2.2.1,rd.2.2.2.1⟩
  have lp:Mq.Low p:=rd.2.2.2.2.1;have p0:k0=.pc->0 < p.1:=rd.2.2.2.2.2.1;have bp:Mq.Bd 1000 p:=rd.2.2.2.2.2.2;have et:ds.take (i+1)=ds.take i++[(k0,u,v,p)]:=by rw[take_add_one,hd];rfl
  have hcnt:cA (ds.take i)+cL k0+cA (ds.drop (i+1))=cA ds:=by
   have h1:ds=ds.take (i+1)++ds.drop (i+1):=(take_append_drop _ _).symm;have h2:cA ds=cA (ds.take (i+1))+cA (ds.drop (i+1)):=by
    unfold cA oI;rw[<- List.length_append,<- filter_append,take_append_drop]
   rw[h2,et,gA]
  have rw2:=rw0.same s2;obtain⟨dr,hy⟩:=id rw2;refine⟨_,rfl,_,rfl,y,b,(k0,u,v,p),.ref z,ls,lv,m,rfl,rw2,SA.same s2,pt,fun fa H3 s3 e3=>?_⟩;have flow:Mq.Low (flF lv (k0,u,v,p))/\Mq.Bd 7801 (flF lv (k0,u,v,p)):=by
   have hb:=SA.b;have hn:=SA.l;have Z.f34:lv.getD u.toNat (0,1)∈lv:=mem_of_getElem? (Mq.Pc (by have:=pt.1;have:=pt.2.1;lia));have g2:lv.getD v.toNat (0,1)∈lv:=mem_of_getElem? (Mq.Pc (by have:=pt.2.2.1;have:=pt.2.2.2;lia));exact⟨Mq.eU (hb _ Z.f34).1.pos (hb _ g2).1.pos,(Mq.Da (hb _ Z.f34).2 (hb _ g2).2 (hb _ Z.f34).1.pos (hb _ g2).1.pos).mono (by lia)⟩
  have fa3:Fq Z.K H3 fa (flF lv (k0,u,v,p)):=Fq.of e3;have s23:=s2.trans s3;have rw3:=rw0.same s23;obtain⟨dr3,hy3⟩:=id rw3;have fz3:=s23.fq fz0;have e23:=s3 _ _ e2;have lzs:=F2.length;rw[Bx,length_take] at lzs;rw[et,xH,Nat.zero_add];refine⟨_,rfl,k0,y,dr3,_,rfl,hy3,(dM _ _ _ (by decide +kernel) (by decide +kernel) (by decide +kernel)),_,rfl,rfl,_,rfl,?_⟩
  by_cases hk:k0=.ho
  ·refine L2.ifT (by show decide (V.str k0.wd=V.str Kd.ho.wd)=true;rw[dL];exact decide_eq_true hk) ?_;have hc:cL k0=1:=by unfold cL;rw[if_pos hk]
   obtain⟨w1,ew,fw⟩:=hF.at (Mq.Pc (show cA (ds.take i) < hs.length by lia));refine⟨_,rfl,.inl ⟨rfl,_,SqL.of e23⟩,_,rfl,k0,y,dr3,_,rfl,hy3,(dM _ _ _ (by decide +kernel) (by decide +kernel) (by decide +kernel)),?_⟩;refine⟨_,rfl,_,rfl,_,rfl,h,ys,_,_,rfl,rfl,s23.seq hS,by rw[hti];exact bQ ew,y,z,fa,w1,.int u,.int v,p,_,_,1000,7801,rfl,rw3,fz3,fa3,s23.fq fw,lp.pos,flow.1.pos,bp,flow.2,by lia,p0,fun r H4 s4 f4=>?_⟩;have e4:=s4 _ _ e23;refine⟨l,_,_,rfl,rfl,e4,bB (by lia),?_⟩;refine⟨_,rfl,_,_,rfl,rfl,?_⟩;refine⟨(s23.trans s4).change hl,_,ti+1,_,_,rfl,by rw[gA,hti,hc];lia,aB,?_⟩;have fl:We lv hs (cA (ds.take i)) (k0,u,v,p)=Mi k0 (flF lv (k0,u,v,p)) (hs.getD (cA (ds.take i)) Mq.z0) p:=by
    show Mi k0 _ (if k0=.ho then _ else _) _=_;rw[if_pos hk]
   rw[fl];exact((F2.same (s3.trans s4)).app (.cons f4 .nil)).upd e4
  ·refine L2.ifF (by show decide (V.str k0.wd=V.str Kd.ho.wd)=false;rw[dL];exact decide_eq_false hk) ?_;have hc:cL k0=0:=by unfold cL;rw[if_neg hk]
   refine⟨_,rfl,.inl ⟨rfl,_,SqL.of e23⟩,_,rfl,k0,y,dr3,_,rfl,hy3,(dM _ _ _ (by decide +kernel) (by decide +kernel) (by decide +kernel)),_,rfl,y,z,fa,Z.aN,.int u,.int v,p,_,(0,1),1000,7801,rfl,rw3,fz3,fa3,fN _,lp.pos,flow.1.pos,bp,flow.2,by lia,p0,fun r H4 s4 f4=>?_⟩;have e4:=s4 _ _ e23;refine⟨l,_,_,rfl,rfl,e4,bB (by lia),?_⟩;refine⟨(s23.trans s4).change hl,_,ti,_,_,rfl,by rw[gA,hti,hc];rfl,aB,?_⟩;have fl:We lv hs (cA (ds.take i)) (k0,u,v,p)=Mi k0 (flF lv (k0,u,v,p)) (0,1) p:=by
    show Mi k0 _ (if k0=.ho then _ else _) _=_;rw[if_neg hk]
   rw[fl];exact((F2.same (s3.trans s4)).app (.cons f4 .nil)).upd e4
 rintro σ H2 ⟨s2,zs,ti,z5,z6,rfl,hti,e2,F2⟩;rw[lxs,take_length] at F2;exact⟨_,rfl,q l zs H2 s2 hl e2 F2⟩
theorem R56:FZ (CX1 Z.P Z.w) 8 Z.f56 Z.d56 ["self","net"] (uC Z.c_Net Z.c_Answer Z.c_Ring Z.c_Floats Z.K):=by
 refine F56.okX tD (fun vs H Q E h=>?_) fun cdv A outer s H vs Q E hr h=>?_
 ·obtain⟨_,_,_,_,_,_,rfl,_⟩:=h;rfl
 obtain⟨x,dx,n,l,m,ds,rfl,hx,nt,pt,mo,m20,h40,hz,rf,qq⟩:=h;have r1:=hr.mono (show 1<=7 by lia);have r4:=hr.mono (show 4<=7 by lia);have r5:=hr.mono (show 5<=7 by lia);have r7:=hr;refine⟨_,(aD (bX (aI R54 r7 rfl m54 F54.kp b54 .nil (kK gK iW) (aA (pv 1) aC)))
  (aD (aR (i:=2) tD.nd rfl (Or.inl rfl) (aI Y47.G r7 rfl m47 F47.kp Y47.b .nil aM (aA (pv 1) aC)))
  (aD (aR (i:=3) tD.nd rfl (Or.inl rfl) (aI Y53.G r5 rfl m53 F53.kp Y53.b .nil aM (aA (aU aY (pv 2) aG (fun _ _=>rfl)) (aA (aU aY (pv 2) aG (fun _ _=>rfl)) aC))))
  (aD (aR (i:=4) tD.nd rfl (Or.inl rfl) (bC lL (dD (pv 1) NTx.cl X3 R30 r1 b30 .nil aM) aG))
  (aD (jE (pv 0) (aU aY (pv 2) aG (fun _ _=>rfl)) rfl)
  (aD (jE (pv 0) (bC kA (cB (aA (dA (v:=.ref Z.aN) rfl mv_NOUGHT rfl) aC)) (gJ iH (pv 3) jP (gM (pv 4)))) rfl)
  (aF (jE (pv 0) (aI Y55.G r5 rfl m55 F55.kp Y55.b .nil aM (aA (dD (pv 1) NTx.cl X4 R33 r4 b33 .nil aM) (aA (bZ (pv 0) rfl) (aA (gJ iH (pv 3) (gM (pv 4)) jP) aC)))) rfl)))))))),?_⟩
 refine⟨_,rfl,n,l,m,ds,rfl,nt,pt,mo,m20,h40,hz,rf,fun hR hF H1 s1=>?_⟩;obtain⟨b,kb,L,NB,hw39,h01,q⟩:=qq hR hF;have nt:=NB.nt;have hK:=NB.ok;have m20:=NB.m20;have h40:=NB.h40;have hbig:=NB.cu;have EB:=NB.eb;have mo:=EB.o.m1;refine⟨_,rfl,n,l,m,kb,ds,rfl,nt.same s1,hK,mo,m20,h40,hbig,fun tt p r us ys X Y H2 s2 et np nr ep er FM FY nx EO=>?_⟩;have s02:=s1.trans s2;have lX:X.length=m - 1+cA ds:=EO.x.h;have lY:Y.length=X.length:=by rw[EO.y.w,lX]
 have w26:=EB.w26;have lw:wd m ds=m - 1+cA ds:=rfl;have yq:∀p∈Y,(Mq.Bd b p/\p.2 ∣ L)/\∃a:Int,Mq.B b a/\Mq.val p=(a:Rat) / (L:Rat):=fun p hp=>by
  obtain⟨i,hi⟩:=getElem?_of_mem hp;have ep:p=Y.getD i (0,1):=by rw[getD_eq_getElem?_getD,hi];rfl
  obtain⟨z,hz,ez⟩:=h01 i;have hv:Mq.val p=(z:Rat) / (L:Rat):=by rw[ep,EO.vy,ez]
  exact⟨rR (EO.y.l p hp).1 EB.L1 EB.LB hz hv,z,hz,hv⟩
 refine⟨_,rfl,tt,_,0,_,rfl,rfl,SqT.of et,rfl,_,rfl,tt,_,1,_,rfl,rfl,SqT.of et,rfl,?_⟩;refine⟨p,r,p,H1,us,ys,X,Y,b,b,rfl,SqL.of ep,tW FM (fun x hx=>(nx x hx).1),SqL.of er,FY,lY,fun p hp=>(EO.y.l p hp).1,fun p hp=>(yq p hp).1.1,EqB.pos EO,fun row hr=>⟨fun p hp=>((EB.cell EO row hr).1 p hp).1,(EB.cell EO row hr).2⟩,by lia,by rw[lX];exact EB.hb,Hu (EqB.pos EO) (fun p hp=>(EO.y.l p hp).1.pos) lY (fun row hr p hp=>((EB.cell EO row hr).1 p hp).2) (fun p hp=>⟨(yq p hp).1.2,(yq p hp).2⟩) EB.L1,EB.b1,by rw[lX];exact Nat.le_trans EB.hbw (by decide),EB.wgt EO,fun kn zk ps H3 s3 nkn ekn Fk SU OV=>?_⟩;rw[lX] at OV;have lps:ps.length=wd m ds:=by rw[SU.len,lX]
 have lo:=SU.low;have b39:=qe6 (n:=bw b (wd m ds)) OV lo hw39;have s03:=s02.trans s3;obtain⟨dn,hn⟩:=(nt.same s03).ob;refine⟨_,rfl,n,dn,_,rfl,hn,dE _ _ (by decide +kernel) (by decide +kernel),n,l,_,ds,rfl,nt.same s03,_,_,rfl,rfl,?_⟩;have et3:=s3 _ _ et;have hx3:=s03 _ _ hx;have em:(m:Int) - 1=((m - 1:Nat):Int):=by lia
 show jU _ _ _ [some (.ref x),some (.ref n),some (.ref tt),some (.ref kn),some (.int ((m:Int) - 1))] H3;rw[em];refine⟨_,rfl,tt,_,0,_,rfl,rfl,SqT.of et3,rfl,_,rfl,x,Z.c_Answer,dx,[],rfl,hx3,ABx.cl,ABx.nI,(by show 0 < 1000;decide),?_⟩;have x4:cD x H (upd H3 x (.ins Z.c_Answer dx (dB "lines" (.ref p) []))):=fun b o h nb=>by rw[aQ nb];exact s03 _ _ h
 have x34:cD x H3 (upd H3 x (.ins Z.c_Answer dx (dB "lines" (.ref p) []))):=fun b o h nb=>by rw[aQ nb];exact h
 have hx4:upd H3 x (.ins Z.c_Answer dx (dB "lines" (.ref p) [])) x=some (.ins Z.c_Answer dx (dB "lines" (.ref p) [])):=aB;have ek4:=cD.seqI hx3 x34 (SqL.of (K:=Z.K) ekn);have Fk4:=cD.fqsI hx3 x34 Fk;generalize upd H3 x (.ins Z.c_Answer dx (dB "lines" (.ref p) []))=H4 at x4 x34 hx4 ek4 Fk4 ⊢;refine⟨zl9 1,fun L1 hL1=>?_⟩;have s5:=aE hL1 (.lst [.ref Z.aN]);have e5:upd H4 L1 (.lst [.ref Z.aN]) L1=some (.lst [.ref Z.aN]):=aB;generalize upd H4 L1 (.lst [.ref Z.aN])=H5 at s5 e5 ⊢;refine⟨_,rfl,_,rfl,_,rfl,kn,zk,rfl,s5.seq ek4,fun S hS=>?_⟩;rw[Fw];have s6:=aE hS (.lst (zk.take (m - 1)));have e6:upd H5 S (.lst (zk.take (m - 1))) S=some (.lst (zk.take (m - 1))):=aB;generalize upd H5 S (.lst (zk.take (m - 1)))=H6 at s6 e6 ⊢;have lzk:=Fk.length;refine⟨L1,S,_,_,rfl,rfl,s6 _ _ e5,e6,Nat.le_of_lt (bB (by rw[length_take];simp only[length_cons,length_nil];lia)),fun V1 hV1=>?_⟩;have s7:=aE hV1 (.lst ([.ref Z.aN]++zk.take (m - 1)));have e7:upd H6 V1 (.lst ([.ref Z.aN]++zk.take (m - 1))) V1=some (.lst ([.ref Z.aN]++zk.take (m - 1))):=aB;generalize upd H6 V1 (.lst ([.ref Z.aN]++zk.take (m - 1)))=H7 at s7 e7 ⊢;have s47:=s5.trans (s6.trans s7);have hx7:=s47 _ _ hx4;refine⟨_,rfl,x,Z.c_Answer,dx,_,rfl,hx7,ABx.cl,ABx.nE,(by have:=dP ("lines":Str) (.ref p) [];simp only[length_nil] at this;lia),?_⟩;have x78:cD x H7 (upd H7 x (.ins Z.c_Answer dx (dB "levels" (.ref V1) (dB "lines" (.ref p) [])))):=fun b o h nb=>by rw[aQ nb];exact h
 have hx8:upd H7 x (.ins Z.c_Answer dx (dB "levels" (.ref V1) (dB "lines" (.ref p) []))) x=some (.ins Z.c_Answer dx (dB "levels" (.ref V1) (dB "lines" (.ref p) []))):=aB;generalize upd H7 x (.ins Z.c_Answer dx (dB "levels" (.ref V1) (dB "lines" (.ref p) [])))=H8 at x78 hx8 ⊢;have nn:=Ya hx nt;have nt4:=cZ.xI hx3 x34 nn (nt.same s03);have nt8:=cZ.xI hx7 x78 nn (nt4.same s47);have ek8:=cD.seqI hx7 x78 (s47.seq ek4);have Fk8:=cD.fqsI hx7 x78 (Fk4.same s47);have nV1x:V1≠x:=fD e7 hx7 (fun z=>by cases z);have ev8:=cD.seqI hx7 x78 (SqL.of (K:=Z.K) e7);have Fv8:Fqs Z.K H8 ([.ref Z.aN]++zk.take (m - 1)) (lvS m ps):=.cons (fN _) (Fqs.take _ Fk8);obtain⟨dn8,hn8⟩:=nt8.ob;refine⟨_,rfl,n,dn8,_,rfl,hn8,dE _ _ (by decide +kernel) (by decide +kernel),n,l,_,ds,rfl,nt8,by lia,fun ro xr H9 s9 nro ero Rb=>?_⟩;have hx9:=s9 _ _ hx8;have ek9:=s9.seq ek8;refine⟨_,rfl,x,Z.c_Answer,dx,_,_,rfl,hx9,ABx.cl,ABx.nE,(by rw[bN,if_pos rfl]),_,rfl,_,rfl,_,rfl,kn,zk,rfl,ek9,fun S2 hS2=>?_⟩;rw[xW];have s10:=aE hS2 (.lst (zk.drop (m - 1)));have e10:upd H9 S2 (.lst (zk.drop (m - 1))) S2=some (.lst (zk.drop (m - 1))):=aB;generalize upd H9 S2 (.lst (zk.drop (m - 1)))=H10 at s10 e10 ⊢;have s80:=s9.trans s10;have lLv:(lvS m ps).length=m:=by
  unfold lvS;rw[length_cons,length_take];lia
 refine⟨ro,V1,S2,xr,_,_,ds,lvS m ps,ps.drop (m - 1),m,rfl,s10 _ _ ero,Rb.same s10,⟨s80.seq ev8,Fv8.same s80,lLv,fun s hs=>?_⟩,SqL.of e10,Fqs.drop _ (Fk8.same s80),fun p hp=>lo p (mem_of_mem_drop hp),fun d hd=>?_,by rw[length_drop];lia,h40,fun fo zf H11 s11 nfo efo Ffo=>?_⟩
 ·rcases mem_cons.mp hs with z | z
  ·rw[z];exact⟨⟨by decide,by decide⟩,qm0 (n:=3899)⟩
  ·exact b39 s (mem_of_mem_take z)
 ·obtain⟨i,hi⟩:=getElem?_of_mem hd;exact(hK i d hi).1
 have s81:=s80.trans s11;have hx11:=s81 _ _ hx8;refine⟨_,rfl,x,Z.c_Answer,dx,_,rfl,hx11,ABx.cl,ABx.nO,(by have:=dP ("lines":Str) (.ref p) [];have:=dP ("levels":Str) (.ref V1) (dB "lines" (.ref p) []);simp only[length_nil] at *;lia),?_⟩;have x12:cD x H11 (upd H11 x (.ins Z.c_Answer dx (mU p V1 fo))):=fun b o h nb=>by rw[aQ nb];exact h
 have hx12:upd H11 x (.ins Z.c_Answer dx (mU p V1 fo)) x=some (.ins Z.c_Answer dx (mU p V1 fo)):=aB;show Q .non (upd H11 x (.ins Z.c_Answer dx (mU p V1 fo)));generalize upd H11 x (.ins Z.c_Answer dx (mU p V1 fo))=H12 at x12 hx12 ⊢;refine q ps H12 (fun b o h nb=>x12 _ _ (s81 _ _ (x78 _ _ (s47 _ _ (x4 _ _ h nb)) nb)) nb) ⟨dx,p,V1,fo,_,zf,hx12,x12 _ _ (s81 _ _ (x78 _ _ e7 nV1x)) nV1x,cD.fqsI hx11 x12 (Fv8.same s81),x12 _ _ efo (fD efo hx11 (fun z=>by cases z)),cD.fqsI hx11 x12 Ffo,fun l0 o0 h0 n0=>⟨fun z=>?_,fun z=>?_⟩⟩ lps lo OV (EqB.sol EO SU fun i _=>EO.vy i)
 ·rw[z,(s5.trans s6) _ _ (x4 _ _ h0 n0)] at hV1;cases hV1
 ·rw[z,s80 _ _ (x78 _ _ (s47 _ _ (x4 _ _ h0 n0)) n0)] at nfo;cases nfo
theorem R57:FZ CX0 1 Z.f57 Z.d57 ["self"] (rG Z.c_Answer Z.K):=by
 refine F57.ok9 Xu fun _ _ _ s H _ Q E hr h=>?_;obtain⟨a,lv,fl,rfl,⟨⟨dx,li,le,fo,xs,ys,ha,hle,Fle,hfo,Ffo⟩⟩,q⟩:=h;refine⟨_,(aF (aW (gP gE rfl n_list PyProof.Rows.boot_list (aA (bZ (pv 0) rfl) aC)))),?_⟩;refine⟨_,rfl,a,Z.c_Answer,_,_,_,rfl,ha,ABx.cl,ABx.nE,Uf _ _ _,le,_,rfl,.inl hle,fun l hl=>?_⟩;have sl:=aE hl (.lst xs);exact q l _ _ sl hl aB (Fle.same sl)
theorem R58:FZ CX0 4 Z.f58 Z.d58 ["self"] (Gh Z.c_Net Z.K):=by
 refine F58.ok9 Qw fun cdv A outer s H vs Q E hr h=>?_;obtain⟨n,l,m,ds,rfl,⟨⟨dx,hn⟩,ts,hl,hR⟩,h1,h20,q⟩:=h;refine⟨_,(aD (aR (i:=1) Qw.nd rfl (Or.inl rfl) (jR MN R29 hr rfl NTx.mN b29 .nil aM (aA (bZ (pv 0) rfl) aC)))
  (aD (jE (pv 1) (gP gE rfl n_list PyProof.Rows.boot_list (aA (bZ (pv 0) rfl) aC)) rfl)
  (aF (aW (pv 1))))),?_⟩
 refine⟨_,rfl,n,Z.c_Net,dx,_,_,rfl,hn,NTx.cl,NTx.nP,uI _ _,fun x ex hx1 hx2 ne=>⟨x,ex,m,rfl,aB,h1,h20,fun l0 H1 nl0 keep hx hl0=>⟨rfl,?_⟩⟩⟩;have s1:aS H H1:=fun b o e=>keep b o (by rw[aQ (aX e hx1),aQ (aX e hx2)];exact e) (aX e hx1);have hn1:=s1 _ _ hn;have hl1:=s1 _ _ hl;refine⟨_,rfl,n,Z.c_Net,dx,_,_,rfl,hn1,NTx.cl,NTx.nK,gO _ _,l,ts,rfl,.inl (SqL.of hl1),fun l2 hl2=>?_⟩;have s2:=aE hl2 (.lst ts);have el2:upd H1 l2 (.lst ts) l2=some (.lst ts):=aB;generalize upd H1 l2 (.lst ts)=H2 at s2 el2 ⊢;have hx2':=s2 _ _ hx;refine⟨_,rfl,x,Z.c_Net,ex,_,rfl,hx2',NTx.cl,NTx.nK,Nat.lt_of_le_of_lt (Km _ _) (by decide),?_⟩;have s12:=s1.trans s2;have sF:aS H (upd H2 x (.ins Z.c_Net ex (dB "kept" (.ref l2) (iJ m l0)))):=s12.change hx1;have nx:l2≠x:=fD el2 hx2' (fun z=>by cases z);refine⟨_,rfl,q x l2 _ sF hx1 (s1.free hl2) ⟨⟨ex,by rw[aB,Kn]⟩,ts,by rw[aQ nx];exact el2,hR.same sF⟩⟩
theorem R59:FZ CX0 1 Z.f59 Z.d59 ["self"] (tE Z.c_Net Z.K):=by
 refine F59.ok9 Ut fun _ _ _ s H _ Q E hr h=>?_;obtain⟨n,l,m,ds,rfl,⟨⟨dx,hn⟩,ts,hl,hr'⟩,q⟩:=h;refine⟨_,(aF (aW (bM bU rfl n_len PySem.boot_len (aA (bZ (pv 0) rfl) aC)))),_,rfl,n,Z.c_Net,dx,_,_,rfl,hn,NTx.cl,NTx.nK,gO _ _,l,ts,rfl,.inl (SqL.of hl),?_⟩;rw[hr'.length];exact q
theorem R60:FZ (CX1 Z.P Z.w) 3 Z.f60 Z.d60 ["k","count"] (Jt Z.K Z.c_NoRow):=by
 refine F60.okX qo9 (fun vs H Q E h=>?_) fun cdv A outer s H vs Q E hr h=>?_
 ·obtain⟨_,_,rfl,_⟩:=h;rfl
 obtain⟨x,m,rfl,hA,q,qE⟩:=h;refine⟨_,(aF (cJ (gX (fB (d9 Y26 hr rfl (aA (pv 0) (aA (pv 1) aC))))) (aF (Ck gK iW rfl rfl mc_NoRow x1_NoRow (aA bK aC))) bO)),?_⟩;refine⟨_,rfl,_,rfl,x,m,rfl,hA,_,rfl,?_⟩
 cases c:iL m x with
 |true=>exact L2.ifF rfl (q c)
 |false=>exact L2.ifT rfl ⟨zl9 1,qE c⟩
theorem X6:fM Z.K Z.c_Net "count" Z.f59:=⟨a59_0,i59,F59.kp⟩
theorem X7:bV [.non] [.none]:=.cons rfl .nil
theorem R61:FZ (CX1 Z.P Z.w) 6 Z.f61 Z.d61 ["net","k"] (Fx Z.c_Net Z.c_NoRow Z.K):=by
 refine F61.okX Ds (fun vs H Q E h=>?_) fun cdv A outer s H vs Q E hr h=>?_
 ·obtain⟨_,_,_,_,_,rfl,_⟩:=h;rfl
 obtain⟨n,l,x,m,ds,rfl,nt,pt,m20,h40,hA,qE,q⟩:=h;have r1:=hr.mono (show 1<=5 by lia);have r3:=hr.mono (show 3<=5 by lia);refine⟨_,(aD (bX (aI R60 r3 rfl m60 F60.kp b60 .nil (kK gK iW) (aA (pv 1) (aA (dD (pv 0) NTx.cl X6 R59 r1 b59 .nil aM) aC))))
  (aD (aR (i:=2) Ds.nd rfl (Or.inr rfl) (iX rfl rfl n_list rfl n_range (aA (dD (pv 0) NTx.cl X6 R59 r1 b59 .nil aM) aC)))
  (aD (eZ PassesOwn.leaving rfl (cO (aI Y40.G hr rfl m40 F40.kp bd40 X7 aM (aA (pv 0) aC))) (aZ (i:=3) Ds.nd rfl (Or.inl rfl))
   (aD (aR (i:=4) Ds.nd rfl (Or.inr rfl) (eQ (nl:=2) (fr:=[2]) (Nc:=["number","way","marks"]) (cl:=[("marks",s.heap.objs.size+2)]) (g:=(Ac Z.K 2 (iM (hV 0) (iM (hV 1) zS)))) rfl ⟨rfl,rfl,by decide +kernel,by decide +kernel,(dR rfl (kY)),fA rfl,rfl,fun i n h=>match i,h with | 0,h=>by cases h;exact⟨2,rfl,rfl,rfl,rfl,.inl rfl⟩ | k+1,h=>by rw[show 2+(k+1)=k+3 by lia] at h;cases h⟩
    (cO (pv 3)) (fun _ _ _ _ _=>(jD rfl (cE (aZ (i:=0) iS rfl (Or.inl rfl)) (cE (aZ (i:=1) iS rfl (Or.inl rfl)) gR)))) (fun _ _ _ _ _=>gD)
    (fun _ _ _ _ _=>(aU (iK (K:=Z.K) rfl) (pv 2) (pv 0) (fun _ _=>rfl)))))
  (aF (aR (i:=2) Ds.nd rfl (Or.inr rfl) (eQ (nl:=1) (fr:=[4]) (Nc:=["mark","met"]) (cl:=[("met",s.heap.objs.size+3)]) rfl ⟨rfl,rfl,by decide +kernel,by decide +kernel,(dR rfl (kY)),fA rfl,rfl,fun i n h=>match i,h with | 0,h=>by cases h;exact⟨4,rfl,rfl,rfl,rfl,.inl rfl⟩ | k+1,h=>by rw[show 1+(k+1)=k+2 by lia] at h;cases h⟩
    (cO (pv 2)) (fun _ _ _ _ _=>(aZ (i:=0) Cr rfl (Or.inl rfl))) (fun _ _ _ _ _=>gD)
    (fun _ _ _ _ _=>(pS (bA (Ge (K:=Z.K) rfl) (pv 0) (pv 1) rfl) (aU (iK (K:=Z.K) rfl) (pv 1) aG (fun _ _=>rfl)) (pv 0))))))))
  (aF (aW (eQ (nl:=2) (fr:=[2,1]) (Nc:=["number","mark","marks","k"]) (cl:=[("marks",s.heap.objs.size+2),("k",s.heap.objs.size+1)]) (g:=(Ac Z.K 2 (iM (hV 0) (iM (hV 1) zS)))) rfl ⟨rfl,rfl,by decide +kernel,by decide +kernel,(dR rfl (dR rfl (kY))),fA rfl,rfl,fun i n h=>match i,h with | 0,h=>by cases h;exact⟨2,rfl,rfl,rfl,rfl,.inl rfl⟩ | 1,h=>by cases h;exact⟨1,rfl,rfl,rfl,rfl,.inl rfl⟩ | k+2,h=>by rw[show 2+(k+2)=k+4 by lia] at h;cases h⟩
    (tY rfl n_enumerate rfl (aA (pv 2) aC)) (fun _ _ _ _ _=>(jD rfl (cE (aZ (i:=0) hJ rfl (Or.inl rfl)) (cE (aZ (i:=1) hJ rfl (Or.inl rfl)) gR)))) (fun _ _ _ _ _=>(nX (bA eV (pv 1) (aU (iK (K:=Z.K) rfl) (pv 2) (pv 3) (fun _ _=>rfl)) (bH _))))
    (fun _ _ _ _ _=>(pv 0)))))))),?_⟩
 have skn:=oV ds;obtain⟨dn,hn⟩:=nt.ob;refine⟨_,rfl,_,rfl,n,dn,_,rfl,hn,dE _ _ (by decide +kernel) (by decide +kernel),n,l,_,ds,rfl,nt,?_⟩;refine⟨x,_,rfl,hA,fun ex=>?_,qE⟩;have q':=q ex;obtain⟨k,rfl,hk⟩:=Cc ex;refine⟨_,rfl,n,dn,_,rfl,hn,dE _ _ (by decide +kernel) (by decide +kernel),n,l,_,ds,rfl,nt,?_⟩;refine⟨ds.length,rfl,by lia,fun M hM=>?_⟩;have s1:=aE hM (.lst ((List.range ds.length).map fun (i:Nat)=>V.int (i:Int)));have e1:upd H M (.lst ((List.range ds.length).map fun (i:Nat)=>V.int (i:Int))) M=some (.lst (((List.range ds.length).map fun (i:Nat)=>(i:Int)).map V.int)):=by rw[aB,map_map];rfl
 generalize upd H M (.lst ((List.range ds.length).map fun (i:Nat)=>V.int (i:Int)))=H1 at s1 e1 ⊢;have l0:((List.range ds.length).map fun (i:Nat)=>(i:Int)).length=ds.length:=by rw[length_map,length_range]
 generalize ((List.range ds.length).map fun (i:Nat)=>(i:Int))=ms0 at e1 l0
 try dsimp only
 refine qV (fun σ' H'=>aS H H'/\∃(M:Addr) (ms:List Int) (z3 z4:Option V),σ'=[some (.ref n),some (.int (k:Int)),some (.ref M),z3,z4]/\H' M=some (.lst (ms.map V.int))/\ms.length=ds.length) (fun X hX=>?_) ?_
 ·refine⟨_,rfl,n,l,.non,m,ds,_,rfl,nt.same s1,pt,m20,h40,.non,fun r us H2 s2 nr er hG _=>?_⟩;refine⟨r,rfl,⟨_,SqL.of er⟩,?_⟩;refine eK (xs:=us) (fun i σ H'=>aS H2 H'/\∃(M:Addr) (ms:List Int) (z3 z4:Option V),σ=[some (.ref n),some (.int (k:Int)),some (.ref M),z3,z4]/\H' M=some (.lst (ms.map V.int))/\ms.length=ds.length) ⟨aS.refl _,M,ms0,none,none,rfl,s2 _ _ e1,l0⟩ (fun i σ H' _ h=>SqL.of (h.1 _ _ er)) ?_ ?_
  rotate_left
  ·rintro σ H' ⟨s3,M',ms,z3,z4,rfl,eM,lms⟩;exact hX _ _ ⟨s1.trans (s2.trans s3),M',ms,z3,z4,rfl,eM,lms⟩
  rintro i x σ H3 hx ⟨s3,M',ms,z3,z4,rfl,eM,lms⟩;have hi:i < us.length:=(List.getElem?_eq_some_iff.mp hx).1;have lG:=hG.l;rw[length_map] at lG;obtain⟨c,hc⟩:∃c,(bY _ (skl ds) ds.length).2[i]?=some c:=⟨_,getElem?_eq_getElem (by rw[<- lG];exact hi)⟩
  obtain⟨a,ws,rfl,na,ea,sw⟩:=hG.r i x c.2 hx (by rw[getElem?_map,hc];rfl);have ri:=jA (W:=fun k=>decide (k≠Kd.pu)) (Di pt) ds.length (by rw[oV];exact Nat.le_refl _);obtain⟨c1,k',u',v',st,pts,_,ec,hst,ch,stl⟩:=ri.r c (mem_of_getElem? hc);have inb:∀t∈c.2,t.1 < ds.length:=fun t ht=>by
   rw[ec] at ht;rcases mem_cons.mp ht with z | z
   ·subst z;exact c1
   ·obtain⟨i,hi,e⟩:=getElem_of_mem z;obtain⟨_,_,_,_,u2,v2,hm,w⟩:=ch.g i t (by rw[<- e];exact getElem?_eq_getElem hi);exact ri.lt _ hm
  have l21:c.2.length<=21:=by rw[ec,length_cons];lia
  have l1:0 < c.2.length:=by rw[ec,length_cons];lia
  clear ec hst ch stl;have sw3:=sw.same s3;have ea3:=s3 _ _ ea;have lsw:=sw3.length;refine⟨_,rfl,a,rfl,⟨_,SqL.of ea3⟩,fun D hD=>?_⟩;have sD:=aE hD (.lst []);refine dW (xs:=ws) (fun j zs H'=>aS H3 H'/\H' D=some (.lst zs)/\zs=((c.2.take j).map fun s=>V.int (ms.getD s.1 0))) ⟨sD,aB,rfl⟩ (fun j zs H' h=>h.2.1) (fun j zs H' _ h=>SqL.of (h.1 _ _ ea3)) ?_ ?_
  ·rintro j zs x H4 hx' ⟨s4,e4,rfl⟩ C hC;obtain⟨tt,s',rfl,hs',hT⟩:=(sw3.same s4).get hx';have lt:s'.1 < ds.length:=inb s' (mem_of_getElem? hs');refine⟨tt,_,rfl,hT,rfl,_,_,rfl,_,_,rfl,rfl,iT.1,iT.2,gC ?_⟩;refine⟨_,rfl,_,rfl,M',_,_,_,rfl,rfl,SqL.of (s4 _ _ eM),bQ (Hd (by lia)),e4,?_,hC _ _ ⟨s4.change hD,aB,?_⟩⟩
   ·refine bB ?_;rw[length_map,length_take];lia
   ·rw[take_add_one,hs',map_append];rfl
  rintro zs H4 ⟨s4,e4,rfl⟩;have emet:(c.2.take ws.length).map (fun s=>V.int (ms.getD s.1 0))=(c.2.map fun s=>ms.getD s.1 0).map V.int:=by
   rw[lsw,take_length,map_map];rfl
  rw[emet] at e4;have lr:0 < (c.2.map fun s=>ms.getD s.1 0).length:=by rw[length_map];exact l1
  generalize (c.2.map fun s=>ms.getD s.1 0)=rs at e4 lr;have eM4:=s4 _ _ eM;refine⟨_,rfl,M',rfl,⟨_,SqL.of eM4⟩,fun N hN=>?_⟩;have sN:=aE hN (.lst []);refine dW (xs:=ms.map V.int) (fun j zs H'=>aS H4 H'/\H' N=some (.lst zs)/\∃qs:List Int,zs=qs.map V.int/\qs.length=min j ms.length) ⟨sN,aB,[],rfl,by simp⟩ (fun j zs H' h=>h.2.1) (fun j zs H' _ h=>SqL.of (h.1 _ _ eM4)) ?_ ?_
  ·rintro j zs x H5 hx' ⟨s5,e5,qs,rfl,lq⟩ C hC;rw[getElem?_map] at hx';obtain⟨c,hc,rfl⟩:=Option.map_eq_some_iff.mp hx';have hj:j < ms.length:=(List.getElem?_eq_some_iff.mp hc).1;have e45:=s5 _ _ e4;have ll:(qs.map V.int).length<=1000:=by rw[length_map];lia
   refine⟨gF.1,gF.2,gC ?_⟩;refine⟨_,rfl,_,rfl,D,_,rfl,.inl (SqL.of e45),rfl,xS _,_,rfl,?_⟩;rw[Du]
   by_cases cm:c∈rs
   ·refine L2.ifT (decide_eq_true cm) ?_;refine⟨_,rfl,D,_,_,_,rfl,rfl,SqL.of e45,bQ (j:=0) (Hd lr),e5,bB ll,hC _ _ ⟨s5.change hN,aB,qs++[rs.getD 0 0],by rw[map_append];rfl,?_⟩⟩;rw[List.length_append];simp only[length_singleton];lia
   ·refine L2.ifF (decide_eq_false cm) ?_;refine⟨_,rfl,e5,bB ll,hC _ _ ⟨s5.change hN,aB,qs++[c],by rw[map_append];rfl,?_⟩⟩;rw[List.length_append];simp only[length_singleton];lia
  rintro zs H5 ⟨s5,e5,qs,rfl,lq⟩;rw[length_map] at lq;exact⟨s3.trans (s4.trans s5),N,qs,_,_,rfl,e5,by lia⟩
 rintro σ9 H9 ⟨s9,M',ms,z3,z4,rfl,eM,lms⟩;refine⟨_,rfl,M',rfl,⟨_,SqL.of eM⟩,fun D hD=>?_⟩;have sD:=aE hD (.lst []);refine rO (xs:=ms.map V.int) (fun i zs H'=>aS H9 H'/\H' D=some (.lst zs)/\zs.length<=i) ⟨sD,aB,by simp⟩ (fun i zs H' h=>h.2.1) (fun i zs H' _ h=>SqL.of (h.1 _ _ eM)) ?_ ?_
 ·rintro i zs x H2 T2 hx ⟨s2,e2,lz⟩ hT C hC;rw[getElem?_map] at hx;obtain⟨c,hc,rfl⟩:=Option.map_eq_some_iff.mp hx;have hi:i < ds.length:=by have:=(List.getElem?_eq_some_iff.mp hc).1;lia
  have sT:=aE hT (.tup [.int (i:Int),.int c]);refine⟨T2,_,rfl,SqT.of aB,rfl,_,_,rfl,_,_,rfl,rfl,iT.1,iT.2,?_⟩;generalize upd H2 T2 (.tup [.int (i:Int),.int c])=H3 at sT ⊢;have s3:=s2.trans sT;have e3:=sT _ _ e2;refine⟨_,rfl,_,rfl,_,rfl,M',_,_,_,rfl,rfl,SqL.of (s3 _ _ eM),bQ (Hd (by lia)),rfl,_,rfl,?_⟩
  by_cases h:c=ms.getD k 0
  ·refine L2.ifT (by rw[h];simp) ⟨_,rfl,e3,bB (by lia),hC _ _ ⟨s3.change hD,aB,?_⟩⟩;rw[List.length_append];simp only[length_singleton];lia
  ·exact L2.ifF (decide_eq_false fun z=>h (V.int.inj z)) (hC _ _ ⟨s3,e3,by lia⟩)
 ·rintro zs H2 ⟨s2,e2,_⟩;exact q' _ H2 (s9.trans s2)
theorem Y62:DZ 6 Z.f62 Z.d62 ["net","matrix","right"] (An Z.c_Net Z.K) "heights_by":=by
 refine⟨?_,F62.b3 _ _ _ (by intros;rfl),F62.kp,m62⟩
 refine F62.ok9 qh0 fun _ _ _ s H _ Q E hr h=>?_;obtain⟨n,l,g,r,D,H0,m,b,N,L,ds,us,ys,X,Y,qs,rfl,nt,hg,FX,EO,EB,hr0,FQ,lq,h01,q⟩:=h;have r1:=hr.mono (show 1<=5 by lia);refine⟨_,(aF (aW (bC kA (cB (aA (dA (v:=.ref Z.aN) rfl mv_NOUGHT rfl) aC)) (gJ iH (d9 Y53 hr rfl (aA (pv 1) (aA (pv 2) aC))) jP (gM (bC lL (dD (pv 0) NTx.cl X3 R30 r1 b30 .nil aM) aG)))))),?_⟩;have lX:X.length=wd m ds:=EO.x.h;have lw:wd m ds=m - 1+cA ds:=rfl;have mo:=EB.o.m1;have w26:=EB.w26;refine⟨zl9 1,fun L1 hL1=>?_⟩;have s1:=aE hL1 (.lst [.ref Z.aN]);have e1:upd H L1 (.lst [.ref Z.aN]) L1=some (.lst [.ref Z.aN]):=aB;generalize upd H L1 (.lst [.ref Z.aN])=H1 at s1 e1 ⊢;refine⟨_,rfl,_,rfl,g,r,D,H0,us,ys,X,qs,b,b,rfl,s1.seq hg,FX.same s1,s1.seq hr0,FQ.same s1,lq,fun p hp=>(h01 p hp).1,fun p hp=>(h01 p hp).bd EB.b1,EqB.pos EO,fun row hr=>⟨fun p hp=>((EB.cell EO row hr).1 p hp).1,(EB.cell EO row hr).2⟩,by lia,by rw[lX];exact EB.hb,Hu (EqB.pos EO) (fun p hp=>(h01 p hp).1.pos) lq (fun row hr p hp=>((EB.cell EO row hr).1 p hp).2) (fun p hp=>(h01 p hp).ov EB.L1 EB.LB) EB.L1,EB.b1,by rw[lX];exact Nat.le_trans EB.hbw (by decide),EB.wgt EO,fun kn zk ps H2 s2 nkn ekn Fk SU OV=>?_⟩;rw[lX] at OV;have s02:=s1.trans s2;obtain⟨dn,hn⟩:=(nt.same s02).ob;have lps:ps.length=X.length:=SU.len;have lzk:=Fk.length;refine⟨_,rfl,n,dn,_,rfl,hn,dE _ _ (by decide +kernel) (by decide +kernel),n,l,_,ds,rfl,nt.same s02,_,_,rfl,rfl,?_⟩;have em:(m:Int) - 1=((m - 1:Nat):Int):=by lia
 refine⟨_,rfl,kn,zk,rfl,SqL.of ekn,fun S hS=>?_⟩;rw[em,Fw];have s3:=aE hS (.lst (zk.take (m - 1)));have e3:upd H2 S (.lst (zk.take (m - 1))) S=some (.lst (zk.take (m - 1))):=aB;generalize upd H2 S (.lst (zk.take (m - 1)))=H3 at s3 e3 ⊢;refine⟨L1,S,_,_,rfl,rfl,(s2.trans s3) _ _ e1,e3,Nat.le_of_lt (bB (by rw[length_take];simp only[length_cons,length_nil];lia)),fun V1 hV1=>?_⟩;have s4:=aE hV1 (.lst ([.ref Z.aN]++zk.take (m - 1)));have e4:upd H3 V1 (.lst ([.ref Z.aN]++zk.take (m - 1))) V1=some (.lst ([.ref Z.aN]++zk.take (m - 1))):=aB;generalize upd H3 V1 (.lst ([.ref Z.aN]++zk.take (m - 1)))=H4 at s4 e4 ⊢;exact q V1 _ ps H4 ((s02.trans s3).free hV1) (s02.trans (s3.trans s4)) e4 (.cons (fN _) (Fqs.take _ (Fk.same (s3.trans s4)))) SU OV
theorem Y63:DZ 8 Z.f63 Z.d63 ["net","start","goal"] (Fc Z.c_Net Z.K) "pushed_heights":=by
 refine⟨?_,F63.b3 _ _ _ (by intros;rfl),F63.kp,m63⟩
 refine F63.ok9 Rk fun cdv A outer s H vs Q E hr h=>?_;obtain⟨n,l,m,b,kb,L,ds,s,g,rfl,NB,hs,hg,q⟩:=h;have r2:=hr.mono (show 2<=7 by lia);have r5:=hr.mono (show 5<=7 by lia);have r6:=hr.mono (show 6<=7 by lia);have r7:=hr;refine⟨_,(aD (aR (i:=3) Rk.nd rfl (Or.inl rfl) (aU aY (d9 Y47 r7 rfl (aA (pv 0) aC)) aG (fun _ _=>rfl)))
  (aD (aR (i:=4) Rk.nd rfl (Or.inl rfl) (bC qO (cB (aA (dA (v:=.ref Z.aN) rfl mv_NOUGHT rfl) aC)) (bC gZ (bM bU rfl n_len PySem.boot_len (aA (pv 3) aC)) aG)))
  (aD (bX (d9 Y45 r5 rfl (aA (pv 4) (aA (jR (MK .pu) R13 r2 rfl (T.mK .pu) b13 .nil aM (aA (pv 1) (aA (pv 2) (aA (dA (v:=.ref Z.aO) rfl mv_ONE rfl) aC)))) aC))))
  (aF (aW (d9 Y62 r6 rfl (aA (pv 0) (aA (pv 3) (aA (gJ iH (pv 4) (gM aG) jP) aC))))))))),?_⟩
 have EB:=NB.eb;have mo:=EB.o.m1;have w26:=EB.w26;refine⟨_,rfl,n,l,m,kb,ds,rfl,NB.nt,NB.ok,mo,NB.m20,NB.h40,NB.cu,fun tt p r us ys X Y H1 s1 et np nr ep er FM FY nx EO=>?_⟩;have lX:X.length=wd m ds:=EO.x.h;have lus:=FM.l;refine⟨tt,_,0,_,rfl,rfl,SqT.of et,rfl,?_⟩;obtain⟨W,hW⟩:∃W,W=wd m ds:=⟨_,rfl⟩
 rw[<- hW] at w26;have lusW:us.length=W:=by rw[lus,lX,hW]
 refine⟨zl9 1,fun l1 hl1=>?_⟩;have s2:=aE hl1 (.lst [.ref Z.aN]);have e2:upd H1 l1 (.lst [.ref Z.aN]) l1=some (.lst [.ref Z.aN]):=aB;generalize upd H1 l1 (.lst [.ref Z.aN])=H2 at s2 e2 ⊢;have eW:(us.length:Int)+1=((W+1:Nat):Int):=by lia
 refine⟨_,rfl,p,us,rfl,.inl (SqL.of (s2 _ _ ep)),_,_,rfl,rfl,l1,_,[.ref Z.aN],rfl,rfl,e2,by lia,by lia,?_,fun Rr hR=>?_⟩
 ·rw[eW,Int.toNat_natCast,sizeLine_eq];simp only[length_cons,length_nil];lia
 rw[eW,Int.toNat_natCast,mY];have nR1:H1 Rr=none:=s2.free hR;have s3:=aE hR (.lst (replicate (W+1) (.ref Z.aN)));have e3:upd H2 Rr (.lst (replicate (W+1) (.ref Z.aN))) Rr=some (.lst (replicate (W+1) (.ref Z.aN))):=aB;generalize upd H2 Rr (.lst (replicate (W+1) (.ref Z.aN)))=H3 at s3 e3 ⊢;refine⟨_,rfl,_,rfl,_,rfl,fun x dx hx hdx nxd=>?_⟩;refine⟨x,dx,.pu,_,_,_,rfl,aB,rfl,?_⟩;have s4:aS H3 (upd (upd (upd H3 dx (.own x)) x (.ins ((kd3 Z.c_Piece Z.c_Push Z.c_Hold) .pu) dx [])) x (.ins ((kd3 Z.c_Piece Z.c_Push Z.c_Hold) .pu) dx (kO (.int (s:Int)) (.int (g:Int)) (.ref Z.aO)))):=(pO (C:=(kd3 Z.c_Piece Z.c_Push Z.c_Hold) .pu) hx hdx).change hx;have rw4:Rw (kd3 Z.c_Piece Z.c_Push Z.c_Hold) (upd (upd (upd H3 dx (.own x)) x (.ins ((kd3 Z.c_Piece Z.c_Push Z.c_Hold) .pu) dx [])) x (.ins ((kd3 Z.c_Piece Z.c_Push Z.c_Hold) .pu) dx (kO (.int (s:Int)) (.int (g:Int)) (.ref Z.aO)))) x .pu (.int (s:Int)) (.int (g:Int)) (.ref Z.aO):=⟨dx,aB⟩
 generalize upd (upd (upd H3 dx (.own x)) x (.ins ((kd3 Z.c_Piece Z.c_Push Z.c_Hold) .pu) dx [])) x (.ins ((kd3 Z.c_Piece Z.c_Push Z.c_Hold) .pu) dx (kO (.int (s:Int)) (.int (g:Int)) (.ref Z.aO)))=H4 at s4 rw4 ⊢;have ptW:cT ((W+1:Nat):Int) (s:Int) (g:Int):=by
  unfold wd at hW;exact⟨by lia,by lia,by lia,by lia⟩
 have ptm:cT (m:Int) (s:Int) (g:Int):=⟨by lia,by lia,by lia,by lia⟩
 refine⟨Rr,x,Z.aO,_,replicate (W+1) (0,1),(.pu,(s:Int),(g:Int),(1,1)),W+1,1,1,rfl,s4 _ _ e3,jB (fN _) (W+1),zC (W+1),rw4,fO _,ptW,gY,iD,by lia,fun ys' H5 sx5 eR5 F5=>?_⟩;obtain⟨lb5,v5⟩:=Xo (d:=(.pu,(s:Int),(g:Int),(1,1))) (h:=0) (m:=m) (zC (W+1)) ptm (by unfold wd at hW;lia) rfl gY iD;have s15:aS H1 H5:=SX.same (s2.trans (s3.trans s4)) sx5 (fun c hc=>by rw[mem_singleton.mp hc];exact nR1);generalize pR (replicate (W+1) (0,1)) (.pu,(s:Int),(g:Int),(1,1))=rs at F5 lb5 v5;have v6:∀k,Mq.val (rs.getD k (0,1))=un g k - un s k:=fun k=>by
  rw[v5,qZ,Mq.pF,<- qj9 s g k];show 0 + - dl ((s:Int)).toNat ((g:Int)).toNat k*Mq.val (1,1)=_;rw[Int.toNat_natCast,Int.toNat_natCast];grind
 have lrs:=lb5.w;refine⟨_,rfl,_,rfl,_,rfl,1,rfl,Rr,_,rfl,SqL.of eR5,fun S hS=>?_⟩;rw[Ib];have s6:=aE hS (.lst (ys'.drop 1));have e6:upd H5 S (.lst (ys'.drop 1)) S=some (.lst (ys'.drop 1)):=aB;generalize upd H5 S (.lst (ys'.drop 1))=H6 at s6 e6 ⊢;have s16:=s15.trans s6;have s06:=s1.trans s16;have gd:∀k,(rs.drop 1).getD k (0,1)=rs.getD (k+1) (0,1):=fun k=>by rw[getD_eq_getElem?_getD,getElem?_drop,Nat.add_comm,<- getD_eq_getElem?_getD]
 refine⟨n,l,p,S,p,H,m,b,_,L,ds,us,_,X,Y,rs.drop 1,rfl,NB.nt.same s06,SqL.of (s16 _ _ ep),(tW FM (fun x hx=>(nx x hx).1)).same s16,EO,EB,SqL.of e6,Fqs.drop1 (F5.same s6),by rw[length_drop,lrs,lX,<- hW];lia,fun pq hpq=>?_,fun t zs ps H7 nt7 s7 e7 F7 SU OV=>?_⟩
 ·obtain⟨k,hk⟩:=getElem?_of_mem hpq;rw[getElem?_drop] at hk;have lo:=(lb5.l pq (mem_of_getElem? hk)).1;have ev:=v6 (1+k);rw[getD_eq_getElem?_getD,hk] at ev;obtain⟨a0,ha0,ea⟩:=qd2 g s (1+k);obtain⟨d1,t1⟩:=Mq.Cz lo (show (1:Int)<=1 by decide) (ev.trans ea);have:=Int.le_of_dvd (by decide) d1;have:=lo.pos;exact⟨lo,by lia,by lia⟩
 ·have lps:ps.length=X.length:=SU.len;have lm:m - 1<=ps.length:=by rw[lps,lX];unfold wd;lia
  refine q t zs (lvS m ps) (uP ps) H7 (s06.free nt7) (s06.trans s7) e7 F7 (L2.tS mo lm) (Jd SU.low) (Ri OV) (EqB.sol EO SU fun i hi=>?_) (fun k hk=>Js lm hk);show Mq.val ((rs.drop 1).getD i (0,1))=_;rw[gd,v6]
theorem Y64:DZ 8 Z.f64 Z.d64 ["net","k"] (Sh Z.c_Net Z.K) "held_heights":=by
 refine⟨?_,F64.b2 _ _ (by intros;rfl),F64.kp,m64⟩
 refine F64.ok9 Jj fun _ _ _ s H _ Q E hr h=>?_;obtain⟨n,l,m,b,kb,L,ds,k,d0,rfl,NB,hk,hd0,q⟩:=h;have r1:=hr.mono (show 1<=7 by lia);have r4:=hr.mono (show 4<=7 by lia);have r6:=hr.mono (show 6<=7 by lia);have r7:=hr;refine⟨_,(aD (aR (i:=2) Jj.nd rfl (Or.inl rfl) (aU aY (d9 Y47 r7 rfl (aA (pv 0) aC)) aG (fun _ _=>rfl)))
  (aD (aR (i:=3) Jj.nd rfl (Or.inl rfl) (bC qO (cB (aA (dA (v:=.ref Z.aN) rfl mv_NOUGHT rfl) aC)) (bM bU rfl n_len PySem.boot_len (aA (pv 2) aC))))
  (aD (Ar (i:=4) (nl:=1) (fr:=[]) (Nc:=["row"]) (cl:=[]) Jj.nd rfl rfl rfl ⟨rfl,rfl,by decide +kernel,by decide +kernel,fun x c h=>(by cases h),fA rfl,rfl,fun i n h=>(by simp at h)⟩
    (cO (gJ iH (dD (pv 0) NTx.cl X4 R33 r4 b33 .nil aM) jP (gM (pv 1)))) (fun _ _ _ _ _=>(aZ (i:=0) Nt rfl (Or.inl rfl))) (fun _ _ _ _ _=>(nX (bA eV (fH (pv 0) T.cl mW GW r1 bW .nil aM) bK (bH _))))
    (fun _ _ _ _ _=>(pv 0)) rfl)
  (aD (mD (dA (v:=.ref Z.aO) rfl mv_ONE rfl) (pB (pv 3) (bC gZ (bC lL (dD (pv 0) NTx.cl X3 R30 r1 b30 .nil aM) aG) (bM bU rfl n_len PySem.boot_len (aA (pv 4) aC))) jJ))
  (aF (aW (d9 Y62 r6 rfl (aA (pv 0) (aA (pv 2) (aA (pv 3) aC)))))))))),?_⟩
 have EB:=NB.eb;have mo:=EB.o.m1;have w26:=EB.w26;have h40:=NB.h40;have hkl:=(List.getElem?_eq_some_iff.mp hk).1;have hcl:=qc3 hk hd0;refine⟨_,rfl,n,l,m,kb,ds,rfl,NB.nt,NB.ok,mo,NB.m20,NB.h40,NB.cu,fun tt p r us ys X Y H1 s1 et np nr ep er FM FY nx EO=>?_⟩;have lX:X.length=wd m ds:=EO.x.h;have lus:=FM.l;refine⟨tt,_,0,_,rfl,rfl,SqT.of et,rfl,?_⟩;obtain⟨W,hW⟩:∃W,W=wd m ds:=⟨_,rfl⟩
 rw[<- hW] at w26;have lusW:us.length=W:=by rw[lus,lX,hW]
 refine⟨zl9 1,fun l1 hl1=>?_⟩;have s2:=aE hl1 (.lst [.ref Z.aN]);have e2:upd H1 l1 (.lst [.ref Z.aN]) l1=some (.lst [.ref Z.aN]):=aB;generalize upd H1 l1 (.lst [.ref Z.aN])=H2 at s2 e2 ⊢;have eW:(us.length:Int)=((W:Nat):Int):=by lia
 refine⟨_,rfl,p,us,rfl,.inl (SqL.of (s2 _ _ ep)),l1,_,[.ref Z.aN],rfl,rfl,e2,by lia,by lia,?_,fun Rr hR=>?_⟩
 ·rw[eW,Int.toNat_natCast,sizeLine_eq];simp only[length_cons,length_nil];lia
 rw[eW,Int.toNat_natCast,mY];have nR1:H1 Rr=none:=s2.free hR;have s3:=aE hR (.lst (replicate W (.ref Z.aN)));have e3:upd H2 Rr (.lst (replicate W (.ref Z.aN))) Rr=some (.lst (replicate W (.ref Z.aN))):=aB;generalize upd H2 Rr (.lst (replicate W (.ref Z.aN)))=H3 at s3 e3 ⊢;have s13:=s2.trans s3;have s03:=s1.trans s13;obtain⟨dn,hn⟩:=(NB.nt.same s03).ob;refine⟨_,rfl,n,dn,_,rfl,hn,dE _ _ (by decide +kernel) (by decide +kernel),n,l,_,ds,rfl,NB.nt.same s03,by lia,fun ra xs H4 s4 na ea Rb=>?_⟩;have lxs:=Rb.length;refine⟨_,rfl,(k:Int),rfl,ra,xs,rfl,SqL.of ea,fun S hS=>?_⟩;rw[Fw];have s5:=aE hS (.lst (xs.take k));have e5:upd H4 S (.lst (xs.take k)) S=some (.lst (xs.take k)):=aB;generalize upd H4 S (.lst (xs.take k))=H5 at s5 e5 ⊢;refine⟨S,rfl,⟨_,SqL.of e5⟩,fun C0 hC0=>?_⟩;have sC0:=aE hC0 (.lst []);refine dW (xs:=xs.take k) (fun i zs H'=>aS H5 H'/\H' C0=some (.lst zs)/\zs.length=cA (ds.take i)) ⟨sC0,aB,rfl⟩ (fun i zs H' h=>h.2.1) (fun i zs H' _ h=>h.1.seq (SqL.of e5)) ?_ ?_
 ·rintro i zs x H6 hx ⟨s6,e6,lz⟩ C hC;have hi:i < ds.length:=by
   have:=(List.getElem?_eq_some_iff.mp hx).1;rw[length_take] at this;lia
  have ik:i < k:=by
   have:=(List.getElem?_eq_some_iff.mp hx).1;rw[length_take] at this;lia
  rw[getElem?_take_of_lt ik] at hx;obtain⟨⟨k0,u,v,p⟩,hd⟩:∃d,ds[i]?=some d:=⟨_,getElem?_eq_getElem hi⟩
  obtain⟨y,z,ey,rw,fz⟩:=Rb.at hd;have ex:x=.ref y:=by rw[ey] at hx;exact(Option.some.inj hx).symm
  subst ex;obtain⟨dr,hy⟩:=id (rw.same (s5.trans s6));have et:ds.take (i+1)=ds.take i++[(k0,u,v,p)]:=by rw[take_add_one,hd];rfl
  have lh:=Ff (ds:=ds) i;have lh2:cA ds<=ds.length:=length_filter_le _ _;refine⟨gF.1,gF.2,?_⟩;refine⟨_,rfl,k0,y,dr,_,rfl,hy,(dM _ _ _ (by decide +kernel) (by decide +kernel) (by decide +kernel)),_,rfl,rfl,_,rfl,?_⟩
  by_cases hk:k0=.ho
  ·refine L2.ifT (by show decide (V.str k0.wd=V.str Kd.ho.wd)=true;rw[dL];exact decide_eq_true hk) ⟨_,rfl,e6,bB (by lia),hC _ _ ⟨s6.change hC0,aB,?_⟩⟩;rw[et,gA,List.length_append,lz];show _+1=_+cL k0;unfold cL;rw[if_pos hk]
  ·refine L2.ifF (by show decide (V.str k0.wd=V.str Kd.ho.wd)=false;rw[dL];exact decide_eq_false hk) (hC _ _ ⟨s6,e6,?_⟩);rw[et,gA,lz];show _=_+cL k0;unfold cL;rw[if_neg hk];rfl
 ·rintro zs H6 ⟨s6,e6,lz⟩;have lz:zs.length=cA (ds.take k):=by rw[lz,length_take,show min k xs.length=k by lia]
  have s36:=s4.trans (s5.trans s6);have s06:=s03.trans s36;obtain⟨dn6,hn6⟩:=(NB.nt.same s06).ob;obtain⟨ix,hix⟩:∃ix,ix=m - 1+cA (ds.take k):=⟨_,rfl⟩
  have ixW:ix < W:=by unfold wd at hW;lia
  have eR6:=s36 _ _ e3;have eix:(m:Int) - 1+(zs.length:Int)=(ix:Int):=by lia
  refine⟨_,rfl,_,rfl,n,dn6,_,rfl,hn6,dE _ _ (by decide +kernel) (by decide +kernel),n,l,_,ds,rfl,NB.nt.same s06,_,_,rfl,rfl,_,rfl,C0,zs,rfl,.inl (SqL.of e6),_,_,rfl,rfl,?_⟩;refine⟨Rr,_,(ix:Int),ix,rfl,congrArg V.int eix,eR6,kZ (by rw[length_replicate];exact ixW),?_⟩;have s17:aS H1 (upd H6 Rr (.lst ((replicate W (V.ref Z.aN)).set ix (.ref Z.aO)))):=(s13.trans s36).change nR1;have F6:Fqs Z.K H6 ((replicate W (V.ref Z.aN)).set ix (.ref Z.aO)) ((replicate W (0,1)).set ix (1,1)):=Fqs.set (fO _) ix (jB (fN _) W);have F7:=Fqs.upd (o:=.lst ((replicate W (V.ref Z.aN)).set ix (.ref Z.aO))) eR6 F6;have e7:upd H6 Rr (.lst ((replicate W (V.ref Z.aN)).set ix (.ref Z.aO))) Rr=some (.lst ((replicate W (V.ref Z.aN)).set ix (.ref Z.aO))):=aB;generalize upd H6 Rr (.lst ((replicate W (V.ref Z.aN)).set ix (.ref Z.aO)))=H7 at s17 F7 e7 ⊢;have s07:=s1.trans s17;refine⟨_,rfl,_,rfl,_,rfl,n,l,p,Rr,p,H,m,b,_,L,ds,us,_,X,Y,(replicate W (0,1)).set ix (1,1),rfl,NB.nt.same s07,SqL.of (s17 _ _ ep),(tW FM (fun x hx=>(nx x hx).1)).same s17,EO,EB,SqL.of e7,F7,by rw[length_set,length_replicate,lX,hW],fun pq hpq=>?_,fun t zs ps H8 nt8 s8 e8 F8 SU OV=>?_⟩
  ·rcases mem_or_eq_of_mem_set hpq with z | z
   ·rw[eq_of_mem_replicate z];exact⟨⟨by decide,by decide⟩,rfl,by decide⟩
   ·rw[z];exact⟨gY,rfl,by decide⟩
  ·have lps:ps.length=X.length:=SU.len;have lm:m - 1<=ps.length:=by rw[lps,lX];unfold wd;lia
   refine q t zs (lvS m ps) (uP ps) H8 (s07.free nt8) (s07.trans s8) e8 F8 (L2.tS mo lm) (Jd SU.low) (Ri OV) (EqB.sol EO SU fun i hi=>?_) (fun k hk=>Js lm hk);unfold un;rw[getD_eq_getElem?_getD,getElem?_set]
   by_cases c:ix=i
   ·rw[if_pos c,if_pos (by rw[length_replicate];exact ixW),if_pos (by lia)];exact Hy
   ·rw[if_neg c,if_neg (by lia),getElem?_replicate,if_pos (by lia)];exact Mq.pF
theorem R65:FZ (CX1 Z.P Z.w) 9 Z.f65 Z.d65 ["net","k"] (vH Z.c_Net Z.c_NoRow Z.c_Ring Z.c_Floats Z.K):=by
 refine F65.okX Il (fun vs H Q E h=>?_) fun cdv A outer s H vs Q E hr h=>?_
 ·obtain⟨_,_,_,_,_,rfl,_⟩:=h;rfl
 obtain⟨n,l,x,m,ds,rfl,nt,pt,mo,m20,h40,hz,hA,qE,qq⟩:=h;have r1:=hr.mono (show 1<=8 by lia);have r3:=hr.mono (show 3<=8 by lia);have r4:=hr.mono (show 4<=8 by lia);have r7:=hr.mono (show 7<=8 by lia);refine⟨_,(aD (bX (aI R60 r3 rfl m60 F60.kp b60 .nil (kK gK iW) (aA (pv 1) (aA (dD (pv 0) NTx.cl X6 R59 r1 b59 .nil aM) aC))))
  (aD (bX (aI R54 r7 rfl m54 F54.kp b54 .nil (kK gK iW) (aA (pv 0) aC)))
  (aD (aR (i:=2) Il.nd rfl (Or.inl rfl) (aU bL (dD (pv 0) NTx.cl X4 R33 r4 b33 .nil aM) (pv 1) (fun _ _=>rfl)))
  (aD (cJ (bA eV (fH (pv 2) T.cl mW GW r1 bW .nil aM) bK (bH _)) (aF (aW (aI Y64.G hr rfl m64 F64.kp Y64.b .nil aM (aA (pv 0) (aA (pv 1) aC))))) bO)
  (aF (aW (aI Y63.G hr rfl m63 F63.kp Y63.b .nil aM (aA (pv 0) (aA (bZ (pv 2) rfl) (aA (bZ (pv 2) rfl) aC)))))))))),?_⟩
 obtain⟨dn,hn⟩:=nt.ob;refine⟨_,rfl,_,rfl,n,dn,_,rfl,hn,dE _ _ (by decide +kernel) (by decide +kernel),n,l,_,ds,rfl,nt,x,(ds.length:Int),rfl,hA,fun ex=>?_,qE⟩;obtain⟨rf,q1⟩:=qq ex;obtain⟨k,rfl,hkl⟩:=Cc ex;refine⟨_,rfl,n,l,m,ds,rfl,nt,pt,mo,m20,h40,hz,rf,fun hR hF H1 s1=>?_⟩;obtain⟨⟨b,kb,L,NB⟩,q⟩:=q1 hR hF;obtain⟨⟨kd,u,v,p⟩,hk⟩:∃d,ds[k]?=some d:=⟨_,getElem?_eq_getElem hkl⟩
 have EB:=NB.eb;obtain⟨u0,u1,v0,v1⟩:cT (m:Int) u v:=EB.o.pt _ (mem_of_getElem? hk);obtain⟨uN,rfl⟩:∃uN:Nat,u=(uN:Int):=⟨u.toNat,by lia⟩
 obtain⟨vN,rfl⟩:∃vN:Nat,v=(vN:Int):=⟨v.toNat,by lia⟩
 obtain⟨dn1,hn1⟩:=(NB.nt.same s1).ob;refine⟨_,rfl,n,dn1,_,rfl,hn1,dE _ _ (by decide +kernel) (by decide +kernel),n,l,_,ds,rfl,NB.nt.same s1,by lia,fun ra xs H2 s2 na ea Rb=>?_⟩;have s02:=s1.trans s2;obtain⟨y,z,ey,rw,fz⟩:=Rb.at hk;refine⟨_,rfl,ra,xs,_,_,rfl,rfl,SqL.of ea,bQ ey,?_⟩;obtain⟨dy,hy⟩:=rw
 by_cases hh:kd=.ho
 ·refine⟨_,rfl,kd,y,dy,_,rfl,hy,(dM _ _ _ (by decide +kernel) (by decide +kernel) (by decide +kernel)),_,rfl,rfl,_,rfl,L2.ifT (by show decide (V.str kd.wd=V.str Kd.ho.wd)=true;rw[dL];exact decide_eq_true hh) ?_⟩;refine⟨_,rfl,_,rfl,n,l,m,b,kb,L,ds,k,_,rfl,NB.same s02,hk,hh,fun t zs hp v H3 nt3 s3 e3 F3 lh lo OV SV hv=>?_⟩;exact q _ H3 (s02.trans s3)
 ·refine⟨_,rfl,kd,y,dy,_,rfl,hy,(dM _ _ _ (by decide +kernel) (by decide +kernel) (by decide +kernel)),_,rfl,rfl,_,rfl,L2.ifF (by show decide (V.str kd.wd=V.str Kd.ho.wd)=false;rw[dL];exact decide_eq_false hh) ?_⟩;refine⟨_,rfl,_,rfl,y,(kd3 Z.c_Piece Z.c_Push Z.c_Hold) _,_,_,_,rfl,hy,T.cl _,T.nG _,dQ _ _ _,_,rfl,y,(kd3 Z.c_Piece Z.c_Push Z.c_Hold) _,_,_,_,rfl,hy,T.cl _,T.nS _,dG _ _ _,?_⟩;refine⟨n,l,m,b,kb,L,ds,vN,uN,rfl,NB.same s02,by lia,by lia,fun t zs hp v H3 nt3 s3 e3 F3 lh lo OV SV hv=>?_⟩;exact q _ H3 (s02.trans s3)
theorem X8:fM Z.K Z.c_Net "copy" Z.f58:=⟨a58_0,i58,F58.kp⟩
theorem R66:FZ (CX1 Z.P Z.w) 10 Z.f66 Z.d66 ["self","net"] (sU Z.c_Net Z.c_Answer Z.c_Watch Z.c_Ring Z.c_Floats Z.K):=by
 refine F66.okX qd0 (fun vs H Q E h=>?_) fun cdv A outer s H vs Q E hr h=>?_
 ·obtain⟨_,_,_,_,_,_,rfl,_⟩:=h;rfl
 obtain⟨x,dx,n,l,m,ds,rfl,hx,nt,pt,m1,m20,h40,hz,rf,qq⟩:=h;have r4:=hr.mono (show 4<=9 by lia);have r9:=hr;refine⟨_,(aD (jE (pv 0) (jR MA R56 r9 rfl ABx.mA b56 .nil (kK gK iW) (aA (pv 1) aC)) rfl)
  (aF (jE (pv 0) (dD (pv 1) NTx.cl X8 R58 r4 b58 .nil aM) rfl))),?_⟩
 refine⟨_,rfl,fun xa dxa hx0 hdx nxd=>?_⟩;have sm:=pO (C:=Z.c_Answer) hx0 hdx;refine⟨xa,dxa,n,l,m,ds,rfl,aB,nt.same sm,pt,m1,m20,h40,hz,rf.same sm,fun hR hF=>?_⟩;obtain⟨⟨b,kb,L,NB,bw39,eR⟩,q⟩:=qq hR hF;refine⟨b,kb,L,NB.same sm,bw39,eR,fun ps H2 sx2 an lps lo OV SV=>⟨rfl,?_⟩⟩;have s2:=Cg hx0 hdx sx2;obtain⟨dxa',li,le,fo,xs,ys,ha,hle,Fle,hfo,Ffo,nw⟩:=an.e;have hx2:=s2 _ _ hx;have nxa:xa≠x:=Ne.symm (aX hx hx0);refine⟨_,rfl,x,Z.c_Watch,dx,[],rfl,hx2,WBx.cl,WBx.nC,by show 0 < 1000;decide,?_⟩;have x3:cD x H2 (upd H2 x (.ins Z.c_Watch dx (dB "current" (.ref xa) []))):=fun b o h nb=>by rw[aQ nb];exact h
 have hx3:upd H2 x (.ins Z.c_Watch dx (dB "current" (.ref xa) [])) x=some (.ins Z.c_Watch dx [(("current":Str),V.ref xa)]):=by rw[aB,Yt]
 try dsimp only
 generalize upd H2 x (.ins Z.c_Watch dx (dB "current" (.ref xa) []))=H3 at x3 hx3 ⊢;have nx:n≠x:=fun z=>by
  obtain⟨dn,a⟩:=nt.ob;rw[z,hx] at a;injection a with a
  injection a with _ _ a
  unfold iJ at a;have:=bN ("kept":Str) "kept" (.ref l) (dB "point_count" (.int (m:Int)) []);rw[<- a,if_pos rfl] at this
  cases this
 have nt3:cZ Z.c_Net Z.K H3 n l (m:Int) ds:=by
  obtain⟨⟨dn,hn⟩,ts,hl,hR⟩:=nt.same s2;exact⟨⟨dn,x3 _ _ hn nx⟩,ts,x3 _ _ hl (fD hl hx2 (fun z=>by cases z)),qa5 hx2 x3 hR⟩
 obtain⟨dn,hn3⟩:=nt3.ob;refine⟨_,rfl,n,dn,_,rfl,hn3,dE _ _ (by decide +kernel) (by decide +kernel),n,l,_,ds,rfl,nt3,by lia,by lia,fun n1 l1 H4 s4 nn1 nl1 nt4=>?_⟩;have hx4:=s4 _ _ hx3;refine⟨_,rfl,x,Z.c_Watch,dx,_,rfl,hx4,WBx.cl,WBx.nF,by show 1 < 1000;decide,?_⟩;have x5:cD x H4 (upd H4 x (.ins Z.c_Watch dx (dB "followed" (.ref n1) [(("current":Str),V.ref xa)]))):=fun b o h nb=>by rw[aQ nb];exact h
 have hx5:upd H4 x (.ins Z.c_Watch dx (dB "followed" (.ref n1) [(("current":Str),V.ref xa)])) x=some (.ins Z.c_Watch dx (Ci xa n1)):=by rw[aB,qb0]
 show Q .non (upd H4 x (.ins Z.c_Watch dx (dB "followed" (.ref n1) [(("current":Str),V.ref xa)])));generalize upd H4 x (.ins Z.c_Watch dx (dB "followed" (.ref n1) [(("current":Str),V.ref xa)]))=H5 at x5 hx5 ⊢;have sx25:cD x H2 H5:=x3.trans (s4.x.trans x5);have nn1x:n1≠x:=Ne.symm (aX hx3 nn1);obtain⟨⟨dn1,hn1⟩,ts1,hl1,hR1⟩:=nt4;refine q (lvS m ps) H5 (fun b o h nb=>sx25 b o (s2 b o h) nb) (by unfold lvS;rfl) (by rw[tS];unfold wd at lps;lia) ⟨dx,xa,n1,_,hx5,dxa',li,le,fo,xs,ys,sx25 _ _ ha nxa,SqL.of (sx25 _ _ hle (fD hle hx2 (fun z=>by cases z))),cD.fqsI hx2 sx25 Fle,SqL.of (sx25 _ _ hfo (fD hfo hx2 (fun z=>by cases z))),cD.fqsI hx2 sx25 Ffo⟩
theorem X9:fM Z.K Z.c_Answer "heights" Z.f57:=⟨a57_0,i57,F57.kp⟩
theorem R67:FZ CX0 2 Z.f67 Z.d67 ["self"] (yZ Z.c_Answer Z.c_Watch Z.K):=by
 refine F67.ok9 Yo fun _ _ _ s H _ Q E hr h=>?_;obtain⟨w,lv,rfl,⟨dx,a,n,fl,hw,AT⟩,q⟩:=h;have r1:=hr;refine⟨_,(aF (aW (dD (bZ (pv 0) rfl) ABx.cl X9 R57 r1 b57 .nil aM))),?_⟩;obtain⟨dxa,li,le,fo,xs,ys,ha,hle,Fle,hfo,Ffo⟩:=AT;exact⟨_,rfl,w,Z.c_Watch,_,_,_,rfl,hw,WBx.cl,WBx.nC,Wg _ _,a,dxa,_,rfl,ha,Qm _ _ _ (by decide +kernel) (by decide +kernel) (by decide +kernel),a,lv,fl,rfl,⟨dxa,li,le,fo,xs,ys,ha,hle,Fle,hfo,Ffo⟩,fun l1 xs1 H1 s1 n1 e1 F1=>q l1 xs1 H1 s1 n1 e1 F1⟩
theorem Y68:DZ 1 Z.f68 Z.d68 ["_law_script","_law_k"] (Am Z.K) "_law_draw":=by
 refine⟨?_,F68.b2 _ _ (by intros;rfl),F68.kp,m68⟩
 refine F68.ok9 Ov fun _ _ _ s H _ Q E hr h=>?_;obtain⟨a,ns,j,k,rfl,hj,hS,h63,q⟩:=h;have hu:=hr.units;refine⟨_,(aD (aR (i:=2) Ov.nd rfl (Or.inl rfl) (gJ iH (pv 0) (gM (pv 1)) (gM (bC gZ (pv 1) aG))))
  (aD (cJ (bA (lB hu) (pv 2) (cB aC) (bH _)) (aF (aW aG)) bO)
  (aF (aW (aU bL (pv 2) aG (fun _ _=>rfl)))))),?_⟩
 refine⟨_,rfl,_,rfl,j,rfl,_,rfl,_,_,rfl,rfl,j+1,rfl,a,_,rfl,hS,fun l hl=>?_⟩;have s1:=aE hl (.lst (lV (ns.map V.int) (some j) (some (j+1))));have e1:upd H l (.lst (lV (ns.map V.int) (some j) (some (j+1)))) l=some (.lst (lV (ns.map V.int) (some j) (some (j+1)))):=aB;obtain⟨ms,em,lm⟩:=Pi ns (some j) (some (j+1));rw[em] at e1 s1 ⊢;generalize upd H l (.lst (ms.map V.int))=H1 at e1 s1 ⊢;refine⟨_,rfl,zl9 0,fun e he=>?_⟩;have s2:=aE he (.lst []);refine Dv (s2.seq (SqL.of e1)) (SqL.of aB) ⟨_,rfl,?_⟩;rcases ms with _ | ⟨m,ms⟩
 ·exact gC (q 0 _ (s1.trans s2))
 ·refine iA ⟨_,rfl,l,_,_,_,rfl,rfl,s2.seq (SqL.of e1),bQ (j:=0) rfl,q m _ (s1.trans s2)⟩
theorem Y69:DZ 1 Z.f69 Z.d69 ["_law_cell","_law_turn","_law_many"] Hv "_law_mix":=by
 refine⟨?_,F69.b3 _ _ _ (by intros;rfl),F69.kp,m69⟩
 refine F69.ok9 vV fun _ _ _ s H _ Q E hr h=>?_;obtain⟨c,t,m,rfl,h0,h9,hm,q⟩:=h;rw[qi4];obtain⟨q1,q2,q3,q4,q5,l1,e1,eo1⟩:=Ye;obtain⟨r1,r2,r3,r4,r5,l2,e2,eo2⟩:=Zz;rw[e1,e2];refine⟨_,(aD (cJ (bA eV (bC Ex (pv 0) aG) aG (bH _)) (aD (aR (i:=3) vV.nd rfl (Or.inl rfl) (bC Be (pv 0) aG))
  (aD (eZ PassesOwn.never rfl (iY rfl n_range (aA (pv 1) aC)) (aZ (i:=4) vV.nd rfl (Or.inl rfl))
   (aF (aR (i:=3) vV.nd rfl (Or.inl rfl) (bC Be (pv 3) (bC Yu aG aG)))))
  (aF (aW (bC qA (pv 3) (pv 2)))))) bO)
  (aD (aR (i:=5) vV.nd rfl (Or.inl rfl) (aU bL (cB (zF _ l1)) (pv 1) (fun _ _=>rfl)))
  (aD (aR (i:=6) vV.nd rfl (Or.inl rfl) (aU bL (cB (zF _ l2)) (pv 1) (fun _ _=>rfl)))
  (aD (aR (i:=7) vV.nd rfl (Or.inl rfl) (bC Ex (pv 0) aG))
  (aF (aW (bC qA (bC Be (bC qA (bC gZ (bC gZ (bC cW (bC Os aG (pv 7)) (pv 7)) (bC cW (pv 5) (pv 7))) (bC Os aG (bC gZ (pv 1) aG))) (pv 6)) aG) (pv 2)))))))),?_⟩
 rw[eo1,eo2];have hf:∀u:Int,0<=u.fmod m/\u.fmod m < m:=fun u=>⟨Int.fmod_nonneg_of_pos u hm,Int.fmod_lt_of_pos u hm⟩
 have m0:m≠0:=by lia
 refine⟨_,rfl,_,_,rfl,rfl,(show (0:Int) < 2 by decide),rfl,_,rfl,zP (fun _=>?_) (fun _=>?_)⟩
 ·refine⟨_,rfl,_,_,rfl,rfl,⟨by decide,by decide⟩,?_⟩;refine⟨_,rfl,t,rfl,by lia,by lia,?_⟩;refine kM (n:=t.toNat) (fun i σ H'=>H'=H/\∃u z,σ=[some (.int c),some (.int t),some (.int m),some (.int u),z,none,none,none]) ⟨rfl,_,none,rfl⟩ ?_ ?_
  ·rintro i σ H' hi ⟨rfl,u,z,rfl⟩;exact⟨_,rfl,_,_,rfl,rfl,⟨by decide,by decide,by decide⟩,_,_,rfl,rfl,⟨by decide,by decide⟩,rfl,_,_,rfl⟩
  ·rintro σ H' ⟨rfl,u,z,rfl⟩;exact⟨_,rfl,_,rfl,_,_,rfl,rfl,m0,q _ _ (hf u).1 (hf u).2 (aS.refl _)⟩
 ·refine⟨zl9 10,fun l1 hl1=>?_⟩;obtain⟨by_,eb,b1,b2⟩:=ql9 (a0:=48271) (a1:=69621) (a2:=16807) (a3:=40692) (a4:=39373) (a5:=30269) (a6:=27183) (a7:=60013) (a8:=51749) (a9:=35969) (by decide) (by decide) h0 h9;have s1:=aE hl1 (.lst (l48.map V.int));have g1:upd H l1 (.lst (l48.map V.int)) l1=some (.lst (l48.map V.int)):=aB;generalize upd H l1 (.lst (l48.map V.int))=H1 at s1 g1 ⊢;refine⟨_,rfl,l1,_,_,_,rfl,rfl,SqL.of g1,eb,?_⟩;refine⟨zl9 10,fun l2 hl2=>?_⟩;obtain⟨pr,ep,p1,p2⟩:=ql9 (a0:=999983) (a1:=999979) (a2:=999961) (a3:=999959) (a4:=999953) (a5:=999931) (a6:=999917) (a7:=999907) (a8:=999883) (a9:=999863) (by decide) (by decide) h0 h9;have s2:=aE hl2 (.lst (l99.map V.int));have g2:upd H1 l2 (.lst (l99.map V.int)) l2=some (.lst (l99.map V.int)):=aB;generalize upd H1 l2 (.lst (l99.map V.int))=H2 at s2 g2 ⊢;refine⟨_,rfl,l2,_,_,_,rfl,rfl,SqL.of g2,ep,?_⟩;refine⟨_,rfl,_,_,rfl,rfl,(show (0:Int) < 2147483647 by decide),?_⟩;have x1:=Int.emod_nonneg c (show (2147483647:Int)≠0 by decide);have x2:=Int.emod_lt_of_pos c (show (0:Int) < 2147483647 by decide);generalize c % 2147483647=x at x1 x2 ⊢;refine⟨_,rfl,_,_,rfl,rfl,Or.inl ⟨by decide,by decide⟩,_,rfl,cV (n:=40) (m:=40) (Lq (by lia) (by lia)) (Lq (by lia) (by lia)) (by lia) (by lia) ?_⟩;refine⟨_,rfl,_,rfl,cV (n:=40) (m:=40) (Lq (by lia) (by lia)) (Lq (by lia) (by lia)) (by lia) (by lia) ⟨_,_,rfl,rfl,?_⟩⟩;refine⟨_,rfl,_,_,rfl,rfl,_,_,rfl,rfl,Or.inl ⟨by decide,by decide⟩,_,_,rfl,rfl,_,rfl,_,_,rfl,rfl,by lia,_,_,rfl,rfl,⟨by decide,by decide⟩,_,rfl,_,_,rfl,rfl,m0,?_⟩;exact q _ _ (hf _).1 (hf _).2 (s1.trans s2)
theorem Y70:DZ 1 Z.f70 Z.d70 ["_law_top","_law_bottom"] iR "_law_lowest":=by
 refine⟨?_,F70.b2 _ _ (by intros;rfl),F70.kp,m70⟩
 refine F70.ok9 pW fun _ _ _ s H _ Q E hr h=>?_;obtain⟨t,b',n,rfl,hb,hB,hn,q⟩:=h;refine⟨_,(aD (Ss (i:=2) (j:=3) rfl pW.nd rfl rfl (by decide) rfl rfl (aA (bM vC rfl bl.abs PyProof.Rows.boot_abs (aA (pv 0) aC)) (aA (bM vC rfl bl.abs PyProof.Rows.boot_abs (aA (pv 1) aC)) aC)) rfl)
  (aD (uV PassesOwn.never (bA oQ (pv 3) aG (bH _)) (aF (Ss (i:=2) (j:=3) rfl pW.nd rfl rfl (by decide) rfl rfl (aA (pv 3) (aA (bC qA (pv 2) (pv 3)) aC)) rfl)))
  (aD (cJ (bA yT (pv 1) aG (bH _)) (aF (aR (i:=2) pW.nd rfl (Or.inl rfl) (bC lL aG (pv 2)))) bO)
  (aF (aW (cS (aA (bC jK (pv 0) (pv 2)) (aA (bC jK (pv 1) (pv 2)) aC)))))))),?_⟩
 refine⟨_,rfl,_,rfl,_,rfl,_,rfl,_,_,rfl,?_⟩;have g0:=Mq.Zi t b';have n0:0<=(if t < 0 then -t else t):=by split<;>lia
 have n1:0<=(if b' < 0 then -b' else b'):=by split<;>lia
 generalize (if t < 0 then -t else t)=x' at *
 generalize (if b' < 0 then -b' else b')=y' at *
 have hd:=rJ (t:=t) hb;have hdB:Mq.B n (dvr t b'):=hB.le (Hh hb);refine tZ (fun σ H'=>H'=H/\∃u v,σ=[some (.int t),some (.int b'),some (.int u),some (.int v)]/\gc u v=gc t b'/\0<=u/\0<=v) (fun σ _=>match σ with | [_,_,_,some (.int v)]=>v.natAbs | _=>0) ⟨rfl,x',y',rfl,g0,n0,n1⟩ ?_ ?_
 ·rintro σ H' ⟨rfl,u,v,rfl,e,hu,hv0⟩;refine⟨_,rfl,rfl,_,rfl,?_⟩;refine zP (fun c=>?_) (fun c=>?_)
  ·have hv:v≠0:=by intro q;subst q;simp at c
   refine⟨_,rfl,_,rfl,_,rfl,_,_,rfl,rfl,hv,_,_,rfl,⟨rfl,v,Int.fmod u v,rfl,(Kh u v).trans e,hv0,Int.fmod_nonneg_of_pos u (by lia)⟩,xC hv⟩
  ·have hv:v=0:=by
    simp at c;exact c
   subst hv;have eu:u=gc t b':=by rw[<- e,Ka,if_neg (by lia)]
   subst eu;refine⟨_,rfl,_,_,rfl,rfl,_,rfl,zP (fun c=>?_) (fun c=>?_)⟩
   ·have hlt:b' < 0:=of_decide_eq_true c;have e:dvr t b'=0 - gc t b':=by unfold dvr;rw[if_pos hlt];lia
    rw[e] at hd hdB;have q':Dn H' Q (t.fdiv (0 - gc t b'),b'.fdiv (0 - gc t b')):=by
     have z:=q;unfold red at z;rw[e] at z;exact z
    refine⟨_,rfl,_,_,rfl,rfl,?_⟩;refine⟨_,rfl,_,rfl,fY hd hdB hn ⟨_,rfl,_,rfl,fY hd hdB hn ⟨zl9 2,fun p hp=>?_⟩⟩⟩;exact q' p _ (aE hp _) aB
   ·have hlt:¬b' < 0:=fun z=>c (decide_eq_true z);have e:dvr t b'=gc t b':=by unfold dvr;rw[if_neg hlt]
    rw[e] at hd hdB;have q':Dn H' Q (t.fdiv (gc t b'),b'.fdiv (gc t b')):=by
     have z:=q;unfold red at z;rw[e] at z;exact z
    refine⟨_,rfl,_,rfl,fY hd hdB hn ⟨_,rfl,_,rfl,fY hd hdB hn ⟨zl9 2,fun p hp=>?_⟩⟩⟩;exact q' p _ (aE hp _) aB
 ·rintro σ H Q Q' m ⟨v,h1,h2,k,h3,h4⟩;exact⟨v,h1,h2,k,h3,m _ _ h4⟩
theorem Y71:DZ 2 Z.f71 Z.d71 ["_law_one","_law_other"] (iN Z.K Mq.jO) "_law_plus":=by
 refine⟨?_,F71.b2 _ _ (by intros;rfl),F71.kp,m71⟩
 refine F71.ok9 Ud fun _ _ _ s H _ Q E hr h=>?_;obtain⟨a,b,p,q,n,m,rfl,fa,fb,hp,hq,bp,bq,hnm,z⟩:=h;refine⟨_,(aF (aW (d9 Y70 hr rfl (aA (bC gZ (bC cW (aU aY (pv 0) aG (fun _ _=>rfl)) (aU aY (pv 1) aG (fun _ _=>rfl))) (bC cW (aU aY (pv 1) aG (fun _ _=>rfl)) (aU aY (pv 0) aG (fun _ _=>rfl)))) (aA (bC cW (aU aY (pv 0) aG (fun _ _=>rfl)) (aU aY (pv 1) aG (fun _ _=>rfl))) aC))))),?_⟩;refine eY rfl fa (cQ rfl fb (cV bp.a bq.b (by lia) (by lia) ?_));refine eY rfl fb (cQ rfl fa (cV bq.a bp.b (by lia) (by lia) ⟨_,_,rfl,rfl,?_⟩));refine cQ rfl fa (cQ rfl fb (cV bp.b bq.b (by lia) (by lia) ?_));exact⟨_,_,n+m,rfl,gU hp hq,bp.b.mul bq.b,by lia,z⟩
theorem Y72:DZ 2 Z.f72 Z.d72 ["_law_one","_law_other"] (iN Z.K Mq.minus) "_law_less":=by
 refine⟨?_,F72.b2 _ _ (by intros;rfl),F72.kp,m72⟩
 refine F72.ok9 Vn fun cdv A outer s H vs Q E hr h=>?_;obtain⟨a,b,p,q,n,m,rfl,fa,fb,hp,hq,bp,bq,hnm,z⟩:=h;refine⟨_,(aF (aW (d9 Y70 hr rfl (aA (bC lL (bC cW (aU aY (pv 0) aG (fun _ _=>rfl)) (aU aY (pv 1) aG (fun _ _=>rfl))) (bC cW (aU aY (pv 1) aG (fun _ _=>rfl)) (aU aY (pv 0) aG (fun _ _=>rfl)))) (aA (bC cW (aU aY (pv 0) aG (fun _ _=>rfl)) (aU aY (pv 1) aG (fun _ _=>rfl))) aC))))),?_⟩;refine eY rfl fa (cQ rfl fb (cV bp.a bq.b (by lia) (by lia) ?_));refine eY rfl fb (cQ rfl fa (cV bq.a bp.b (by lia) (by lia) ⟨_,_,rfl,rfl,?_⟩));refine cQ rfl fa (cQ rfl fb (cV bp.b bq.b (by lia) (by lia) ?_));exact⟨_,_,n+m,rfl,gU hp hq,bp.b.mul bq.b,by lia,z⟩
theorem X10:fM Z.K Z.c_Net "add" Z.f32:=⟨a32_0,i32,F32.kp⟩
theorem Y73:DZ 6 Z.f73 Z.d73 ["_law_many","_law_rows_here"] (zA Z.c_Net Z.K) "_law_net":=by
 refine⟨?_,F73.b2 _ _ (by intros;rfl),F73.kp,m73⟩
 refine F73.ok9 zI fun _ _ _ s H _ Q E hr h=>?_;obtain⟨m,r,us,ds,rfl,hm1,hm20,hU,hR,hK,h40,q⟩:=h;have r3:=hr.mono (show 3<=5 by lia);refine⟨_,(aD (aR (i:=2) zI.nd rfl (Or.inl rfl) (jR MN R29 r3 rfl NTx.mN b29 .nil aM (aA (pv 0) aC)))
  (aD (eZ PassesOwn.never rfl (cO (pv 1)) (aZ (i:=3) zI.nd rfl (Or.inl rfl))
   (aF (bX (Iy (pv 2) NTx.cl X10 R32 hr b32 .nil aM (aA (d9 Y21 r3 rfl (aA (pv 3) aC)) aC)))))
  (aF (aW (pv 2))))),?_⟩
 have lus:=hR.length;refine⟨_,rfl,fun n dx h1 h2 ne=>⟨n,dx,m,rfl,aB,hm1,hm20,fun l H2 nl keep hn hl=>⟨rfl,?_⟩⟩⟩;have s2:aS H H2:=fun b o e=>keep b o (by rw[aQ (aX e h1),aQ (aX e h2)];exact e) (aX e h1);have hl0:H l=none:=by
  cases o:H l with
  |none=>rfl
  |some o'=>
   have:(upd (upd H dx (.own n)) n (.ins Z.c_Net dx [])) l=some o':=by rw[aQ (aX o h1),aQ (aX o h2)];exact o
   rw[this] at nl;cases nl
 refine⟨_,rfl,r,rfl,⟨_,s2.seq hU⟩,?_⟩;refine eK (xs:=us) (fun i σ H'=>aS H H'/\cZ Z.c_Net Z.K H' n l m (ds.take i)/\∃z,σ=[some (.int m),some (.ref r),some (.ref n),z]) ⟨s2,⟨⟨dx,hn⟩,[],hl,.nil⟩,none,rfl⟩ (fun i σ H' _ h=>h.1.seq hU) ?_ ?_
 ·rintro i x σ H3 hx ⟨s3,N3,z,rfl⟩;have hi:i < ds.length:=by
   have:=(List.getElem?_eq_some_iff.mp hx).1;lia
  obtain⟨⟨k,u,v,p⟩,hd⟩:∃d,ds[i]?=some d:=⟨_,getElem?_eq_getElem hi⟩
  obtain⟨t,z',et,hT,fz⟩:=hR.at hd;have ex:x=.ref t:=by rw[et] at hx;exact(Option.some.inj hx).symm
  subst ex;obtain⟨dn,hn3⟩:=N3.ob;have lt:(ds.take i).length<=ds.length:=by rw[length_take];lia
  refine⟨_,rfl,n,dn,_,rfl,hn3,dE _ _ (by decide +kernel) (by decide +kernel),_,rfl,t,_,_,_,_,rfl,s3.seqT hT,k,rfl,fun y H4 s4 ny rw=>?_⟩;refine⟨n,l,y,z',m,ds.take i,k,u,v,p,rfl,N3.same s4,rw,(s3.trans s4).fq fz,hK _ (mem_of_getElem? hd),by rw[length_take];lia,fun H5 x5 N5=>?_⟩;refine⟨fun b o e=>x5 _ _ ((s3.trans s4) _ _ e) (aX e hl0),?_,_,rfl⟩;rw[take_add_one,hd];exact N5
 ·rintro σ H3 ⟨s3,N3,z,rfl⟩;rw[lus,take_length] at N3;exact⟨_,rfl,q n l H3 s3 hl0 N3⟩
theorem Y74:DZ 1 Z.f74 Z.d74 ["_law_kept"] (tJ Z.K Z.mg) "_law_kinds":=by
 refine⟨?_,F74.b1 _ (by intros;rfl),F74.kp,m74⟩
 refine F74.ok9 Gs fun cdv A outer s H vs Q E hr h=>?_;obtain⟨a,C,od,j,n,rfl,ea,kc,hj,q⟩:=h;obtain⟨c0,n0,k0'⟩:=kc.ks 0 _ rfl;obtain⟨c1,n1,k1'⟩:=kc.ks 1 _ rfl;obtain⟨c2,n2,k2'⟩:=kc.ks 2 _ rfl;obtain⟨c3,n3,k3'⟩:=kc.ks 3 _ rfl;obtain⟨c4,n4,k4'⟩:=kc.ks 4 _ rfl;obtain⟨c5,n5,k5'⟩:=kc.ks 5 _ rfl;obtain⟨c6,n6,k6'⟩:=kc.ks 6 _ rfl;obtain⟨c7,n7,k7'⟩:=kc.ks 7 _ rfl;obtain⟨c8,n8,k8'⟩:=kc.ks 8 _ rfl;obtain⟨c9,n9,k9'⟩:=kc.ks 9 _ rfl;obtain⟨c10,n10,k10'⟩:=kc.ks 10 _ rfl;obtain⟨c11,n11,k11'⟩:=kc.ks 11 _ rfl;obtain⟨c12,n12,k12'⟩:=kc.ks 12 _ rfl;have ex:=kc.ex;refine⟨_,(aD (aR (i:=1) Gs.nd rfl (Or.inl rfl) (cB (aA (cS (aA bK (aA (bM dI rfl bl.isi PyProof.Rows.boot_isinstance (aA (pv 0) (aA (iF rfl n0) aC))) aC))) (aA (cS (aA bK (aA (bM dI rfl bl.isi PyProof.Rows.boot_isinstance (aA (pv 0) (aA (iF rfl n1) aC))) aC))) aC))))
  (aD (aR (i:=1) Gs.nd rfl (Or.inl rfl) (bC kA (pv 1) (cB (aA (cS (aA bK (aA (bM dI rfl bl.isi PyProof.Rows.boot_isinstance (aA (pv 0) (aA (iF rfl n2) aC))) aC))) (aA (cS (aA bK (aA (bM dI rfl bl.isi PyProof.Rows.boot_isinstance (aA (pv 0) (aA (iF rfl n3) aC))) aC))) aC)))))
  (aD (aR (i:=1) Gs.nd rfl (Or.inl rfl) (bC kA (pv 1) (cB (aA (cS (aA bK (aA (bM dI rfl bl.isi PyProof.Rows.boot_isinstance (aA (pv 0) (aA (iF rfl n4) aC))) aC))) (aA (cS (aA bK (aA (bM dI rfl bl.isi PyProof.Rows.boot_isinstance (aA (pv 0) (aA (iF rfl n5) aC))) aC))) aC)))))
  (aD (aR (i:=1) Gs.nd rfl (Or.inl rfl) (bC kA (pv 1) (cB (aA (cS (aA bK (aA (bM dI rfl bl.isi PyProof.Rows.boot_isinstance (aA (pv 0) (aA (iF rfl n6) aC))) aC))) (aA (cS (aA bK (aA (bM dI rfl bl.isi PyProof.Rows.boot_isinstance (aA (pv 0) (aA (iF rfl n7) aC))) aC))) aC)))))
  (aD (aR (i:=1) Gs.nd rfl (Or.inl rfl) (bC kA (pv 1) (cB (aA (cS (aA bK (aA (bM dI rfl bl.isi PyProof.Rows.boot_isinstance (aA (pv 0) (aA (iF rfl n8) aC))) aC))) (aA (cS (aA bK (aA (bM dI rfl bl.isi PyProof.Rows.boot_isinstance (aA (pv 0) (aA (iF rfl n9) aC))) aC))) aC)))))
  (aD (aR (i:=1) Gs.nd rfl (Or.inl rfl) (bC kA (pv 1) (cB (aA (cS (aA bK (aA (bM dI rfl bl.isi PyProof.Rows.boot_isinstance (aA (pv 0) (aA (iF rfl n10) aC))) aC))) (aA (cS (aA bK (aA (bM dI rfl bl.isi PyProof.Rows.boot_isinstance (aA (pv 0) (aA (iF rfl n11) aC))) aC))) aC)))))
  (aD (bX (mB PySem.F.plainAttrs_list PySem.F.slot_list_append PySem.F.type_list_append dU (pv 1) (aA (cS (aA bK (aA (bM dI rfl bl.isi PyProof.Rows.boot_isinstance (aA (pv 0) (aA (iF rfl n12) aC))) aC))) aC)))
  (aD (cJ (gX (fB (bM dI rfl bl.isi PyProof.Rows.boot_isinstance (aA (pv 0) (aA (Ii (v:=.ty "ValueError") rfl n_ValueError PyProof.Rows.Boot.«ValueError» rfl) aC))))) (aF (aW (cB aC))) bO)
  (aF (aW (eQ (nl:=2) (fr:=[]) (Nc:=["_law_name","_law_truth"]) (cl:=[]) (g:=(Ac Z.K 2 (iM (hV 0) (iM (hV 1) zS)))) rfl ⟨rfl,rfl,by decide +kernel,by decide +kernel,fun x c h=>(by cases h),fA rfl,rfl,fun i n h=>(by simp at h)⟩
    (cO (pv 1)) (fun _ _ _ _ _=>(jD rfl (cE (aZ (i:=0) oK rfl (Or.inl rfl)) (cE (aZ (i:=1) oK rfl (Or.inl rfl)) gR)))) (fun _ _ _ _ _=>(nX (fB (pv 1))))
    (fun _ _ _ _ _=>(pv 0))))))))))))),?_⟩
 refine qV (fun σ' H'=>aS H H'/\∃(l:Addr) (xs:List V),σ'=[some (.ref a),some (.ref l)]/\H l=none/\H' l=some (.lst xs)/\Pbs Z.K H' xs ((List.range 2).map fun i=>(kNm.getD i "",decide (i=j)))) (fun X hX=>?_) ?_
 ·refine⟨_,rfl,a,C,od,_,_,_,rfl,ea.same (aS.refl H),ex,rfl,fun _ h=>h,k0',zl9 2,fun t0 ht0=>?_⟩;have u0:=aE ht0 (.tup [.str "NoNumber",.bl (decide (0=j))]);have w0:upd H t0 (.tup [.str "NoNumber",.bl (decide (0=j))]) t0=some (.tup [.str "NoNumber",.bl (decide (0=j))]):=aB;generalize upd H t0 (.tup [.str "NoNumber",.bl (decide (0=j))])=J0 at u0 w0 ⊢;refine⟨_,rfl,a,C,od,_,_,_,rfl,ea.same ((aS.refl H).trans u0),ex,rfl,fun _ h=>h,k1',zl9 2,fun t1 ht1=>?_⟩;have u1:=aE ht1 (.tup [.str "NoPoint",.bl (decide (1=j))]);have w1:upd J0 t1 (.tup [.str "NoPoint",.bl (decide (1=j))]) t1=some (.tup [.str "NoPoint",.bl (decide (1=j))]):=aB;generalize upd J0 t1 (.tup [.str "NoPoint",.bl (decide (1=j))])=J1 at u1 w1 ⊢;refine⟨zl9 2,fun M hM=>?_⟩;have uM:=aE hM (.lst [.ref t0,.ref t1]);have wM:upd J1 M (.lst [.ref t0,.ref t1]) M=some (.lst [.ref t0,.ref t1]):=aB;generalize upd J1 M (.lst [.ref t0,.ref t1])=JM at uM wM ⊢;have PB:Pbs Z.K JM [.ref t0,.ref t1] [("NoNumber",decide (0=j)),("NoPoint",decide (1=j))]:=.cons (uM.seqT (u1.seqT (SqT.of w0))) (.cons (uM.seqT (SqT.of w1)) .nil);exact hX _ _ ⟨((((aS.refl H).trans u0).trans u1).trans uM),M,_,rfl,(((aS.refl H).trans u0).trans u1).free hM,wM,PB⟩
 rintro σ2 G2 ⟨g2,l2,xs2,rfl,nl2,el2,Pl2⟩;refine qV (fun σ' H'=>aS H H'/\∃(l:Addr) (xs:List V),σ'=[some (.ref a),some (.ref l)]/\H l=none/\H' l=some (.lst xs)/\Pbs Z.K H' xs ((List.range 4).map fun i=>(kNm.getD i "",decide (i=j)))) (fun X hX=>?_) ?_
 ·refine⟨_,rfl,?_⟩;refine⟨_,rfl,a,C,od,_,_,_,rfl,ea.same g2,ex,rfl,fun _ h=>h,k2',zl9 2,fun t2 ht2=>?_⟩;have u2:=aE ht2 (.tup [.str "NoSize",.bl (decide (2=j))]);have w2:upd G2 t2 (.tup [.str "NoSize",.bl (decide (2=j))]) t2=some (.tup [.str "NoSize",.bl (decide (2=j))]):=aB;generalize upd G2 t2 (.tup [.str "NoSize",.bl (decide (2=j))])=J2 at u2 w2 ⊢;refine⟨_,rfl,a,C,od,_,_,_,rfl,ea.same (g2.trans u2),ex,rfl,fun _ h=>h,k3',zl9 2,fun t3 ht3=>?_⟩;have u3:=aE ht3 (.tup [.str "NoRow",.bl (decide (3=j))]);have w3:upd J2 t3 (.tup [.str "NoRow",.bl (decide (3=j))]) t3=some (.tup [.str "NoRow",.bl (decide (3=j))]):=aB;generalize upd J2 t3 (.tup [.str "NoRow",.bl (decide (3=j))])=J3 at u3 w3 ⊢;refine⟨zl9 2,fun M hM=>?_⟩;have uM:=aE hM (.lst [.ref t2,.ref t3]);have wM:upd J3 M (.lst [.ref t2,.ref t3]) M=some (.lst [.ref t2,.ref t3]):=aB;generalize upd J3 M (.lst [.ref t2,.ref t3])=JM at uM wM ⊢;have PB:Pbs Z.K JM [.ref t2,.ref t3] [("NoSize",decide (2=j)),("NoRow",decide (3=j))]:=.cons (uM.seqT (u3.seqT (SqT.of w2))) (.cons (uM.seqT (SqT.of w3)) .nil);have elM:=(u2.trans (u3.trans uM)) _ _ el2;have lx:=Pl2.length;rw[length_map,length_range] at lx;refine⟨l2,M,_,_,rfl,rfl,elM,wM,by rw[lx,sizeLine_eq];show 2+2<=_;lia,fun p hp=>?_⟩;have up:=aE hp (.lst (xs2++[.ref t2,.ref t3]));exact hX _ _ ⟨((g2.trans u2).trans u3).trans (uM.trans up),p,_,rfl,(((g2.trans u2).trans u3).trans uM).free hp,aB,((Pl2.same (u2.trans (u3.trans uM))).app PB).same up⟩
 rintro σ4 G4 ⟨g4,l4,xs4,rfl,nl4,el4,Pl4⟩;refine qV (fun σ' H'=>aS H H'/\∃(l:Addr) (xs:List V),σ'=[some (.ref a),some (.ref l)]/\H l=none/\H' l=some (.lst xs)/\Pbs Z.K H' xs ((List.range 6).map fun i=>(kNm.getD i "",decide (i=j)))) (fun X hX=>?_) ?_
 ·refine⟨_,rfl,?_⟩;refine⟨_,rfl,a,C,od,_,_,_,rfl,ea.same g4,ex,rfl,fun _ h=>h,k4',zl9 2,fun t4 ht4=>?_⟩;have u4:=aE ht4 (.tup [.str "NoWord",.bl (decide (4=j))]);have w4:upd G4 t4 (.tup [.str "NoWord",.bl (decide (4=j))]) t4=some (.tup [.str "NoWord",.bl (decide (4=j))]):=aB;generalize upd G4 t4 (.tup [.str "NoWord",.bl (decide (4=j))])=J4 at u4 w4 ⊢;refine⟨_,rfl,a,C,od,_,_,_,rfl,ea.same (g4.trans u4),ex,rfl,fun _ h=>h,k5',zl9 2,fun t5 ht5=>?_⟩;have u5:=aE ht5 (.tup [.str "NoName",.bl (decide (5=j))]);have w5:upd J4 t5 (.tup [.str "NoName",.bl (decide (5=j))]) t5=some (.tup [.str "NoName",.bl (decide (5=j))]):=aB;generalize upd J4 t5 (.tup [.str "NoName",.bl (decide (5=j))])=J5 at u5 w5 ⊢;refine⟨zl9 2,fun M hM=>?_⟩;have uM:=aE hM (.lst [.ref t4,.ref t5]);have wM:upd J5 M (.lst [.ref t4,.ref t5]) M=some (.lst [.ref t4,.ref t5]):=aB;generalize upd J5 M (.lst [.ref t4,.ref t5])=JM at uM wM ⊢;have PB:Pbs Z.K JM [.ref t4,.ref t5] [("NoWord",decide (4=j)),("NoName",decide (5=j))]:=.cons (uM.seqT (u5.seqT (SqT.of w4))) (.cons (uM.seqT (SqT.of w5)) .nil);have elM:=(u4.trans (u5.trans uM)) _ _ el4;have lx:=Pl4.length;rw[length_map,length_range] at lx;refine⟨l4,M,_,_,rfl,rfl,elM,wM,by rw[lx,sizeLine_eq];show 4+2<=_;lia,fun p hp=>?_⟩;have up:=aE hp (.lst (xs4++[.ref t4,.ref t5]));exact hX _ _ ⟨((g4.trans u4).trans u5).trans (uM.trans up),p,_,rfl,(((g4.trans u4).trans u5).trans uM).free hp,aB,((Pl4.same (u4.trans (u5.trans uM))).app PB).same up⟩
 rintro σ6 G6 ⟨g6,l6,xs6,rfl,nl6,el6,Pl6⟩;refine qV (fun σ' H'=>aS H H'/\∃(l:Addr) (xs:List V),σ'=[some (.ref a),some (.ref l)]/\H l=none/\H' l=some (.lst xs)/\Pbs Z.K H' xs ((List.range 8).map fun i=>(kNm.getD i "",decide (i=j)))) (fun X hX=>?_) ?_
 ·refine⟨_,rfl,?_⟩;refine⟨_,rfl,a,C,od,_,_,_,rfl,ea.same g6,ex,rfl,fun _ h=>h,k6',zl9 2,fun t6 ht6=>?_⟩;have u6:=aE ht6 (.tup [.str "NoStreams",.bl (decide (6=j))]);have w6:upd G6 t6 (.tup [.str "NoStreams",.bl (decide (6=j))]) t6=some (.tup [.str "NoStreams",.bl (decide (6=j))]):=aB;generalize upd G6 t6 (.tup [.str "NoStreams",.bl (decide (6=j))])=J6 at u6 w6 ⊢;refine⟨_,rfl,a,C,od,_,_,_,rfl,ea.same (g6.trans u6),ex,rfl,fun _ h=>h,k7',zl9 2,fun t7 ht7=>?_⟩;have u7:=aE ht7 (.tup [.str "NoRoad",.bl (decide (7=j))]);have w7:upd J6 t7 (.tup [.str "NoRoad",.bl (decide (7=j))]) t7=some (.tup [.str "NoRoad",.bl (decide (7=j))]):=aB;generalize upd J6 t7 (.tup [.str "NoRoad",.bl (decide (7=j))])=J7 at u7 w7 ⊢;refine⟨zl9 2,fun M hM=>?_⟩;have uM:=aE hM (.lst [.ref t6,.ref t7]);have wM:upd J7 M (.lst [.ref t6,.ref t7]) M=some (.lst [.ref t6,.ref t7]):=aB;generalize upd J7 M (.lst [.ref t6,.ref t7])=JM at uM wM ⊢;have PB:Pbs Z.K JM [.ref t6,.ref t7] [("NoStreams",decide (6=j)),("NoRoad",decide (7=j))]:=.cons (uM.seqT (u7.seqT (SqT.of w6))) (.cons (uM.seqT (SqT.of w7)) .nil);have elM:=(u6.trans (u7.trans uM)) _ _ el6;have lx:=Pl6.length;rw[length_map,length_range] at lx;refine⟨l6,M,_,_,rfl,rfl,elM,wM,by rw[lx,sizeLine_eq];show 6+2<=_;lia,fun p hp=>?_⟩;have up:=aE hp (.lst (xs6++[.ref t6,.ref t7]));exact hX _ _ ⟨((g6.trans u6).trans u7).trans (uM.trans up),p,_,rfl,(((g6.trans u6).trans u7).trans uM).free hp,aB,((Pl6.same (u6.trans (u7.trans uM))).app PB).same up⟩
 rintro σ8 G8 ⟨g8,l8,xs8,rfl,nl8,el8,Pl8⟩;refine qV (fun σ' H'=>aS H H'/\∃(l:Addr) (xs:List V),σ'=[some (.ref a),some (.ref l)]/\H l=none/\H' l=some (.lst xs)/\Pbs Z.K H' xs ((List.range 10).map fun i=>(kNm.getD i "",decide (i=j)))) (fun X hX=>?_) ?_
 ·refine⟨_,rfl,?_⟩;refine⟨_,rfl,a,C,od,_,_,_,rfl,ea.same g8,ex,rfl,fun _ h=>h,k8',zl9 2,fun t8 ht8=>?_⟩;have u8:=aE ht8 (.tup [.str "TooMany",.bl (decide (8=j))]);have w8:upd G8 t8 (.tup [.str "TooMany",.bl (decide (8=j))]) t8=some (.tup [.str "TooMany",.bl (decide (8=j))]):=aB;generalize upd G8 t8 (.tup [.str "TooMany",.bl (decide (8=j))])=J8 at u8 w8 ⊢;refine⟨_,rfl,a,C,od,_,_,_,rfl,ea.same (g8.trans u8),ex,rfl,fun _ h=>h,k9',zl9 2,fun t9 ht9=>?_⟩;have u9:=aE ht9 (.tup [.str "Lame",.bl (decide (9=j))]);have w9:upd J8 t9 (.tup [.str "Lame",.bl (decide (9=j))]) t9=some (.tup [.str "Lame",.bl (decide (9=j))]):=aB;generalize upd J8 t9 (.tup [.str "Lame",.bl (decide (9=j))])=J9 at u9 w9 ⊢;refine⟨zl9 2,fun M hM=>?_⟩;have uM:=aE hM (.lst [.ref t8,.ref t9]);have wM:upd J9 M (.lst [.ref t8,.ref t9]) M=some (.lst [.ref t8,.ref t9]):=aB;generalize upd J9 M (.lst [.ref t8,.ref t9])=JM at uM wM ⊢;have PB:Pbs Z.K JM [.ref t8,.ref t9] [("TooMany",decide (8=j)),("Lame",decide (9=j))]:=.cons (uM.seqT (u9.seqT (SqT.of w8))) (.cons (uM.seqT (SqT.of w9)) .nil);have elM:=(u8.trans (u9.trans uM)) _ _ el8;have lx:=Pl8.length;rw[length_map,length_range] at lx;refine⟨l8,M,_,_,rfl,rfl,elM,wM,by rw[lx,sizeLine_eq];show 8+2<=_;lia,fun p hp=>?_⟩;have up:=aE hp (.lst (xs8++[.ref t8,.ref t9]));exact hX _ _ ⟨((g8.trans u8).trans u9).trans (uM.trans up),p,_,rfl,(((g8.trans u8).trans u9).trans uM).free hp,aB,((Pl8.same (u8.trans (u9.trans uM))).app PB).same up⟩
 rintro σ10 G10 ⟨g10,l10,xs10,rfl,nl10,el10,Pl10⟩;refine qV (fun σ' H'=>aS H H'/\∃(l:Addr) (xs:List V),σ'=[some (.ref a),some (.ref l)]/\H l=none/\H' l=some (.lst xs)/\Pbs Z.K H' xs ((List.range 12).map fun i=>(kNm.getD i "",decide (i=j)))) (fun X hX=>?_) ?_
 ·refine⟨_,rfl,?_⟩;refine⟨_,rfl,a,C,od,_,_,_,rfl,ea.same g10,ex,rfl,fun _ h=>h,k10',zl9 2,fun t10 ht10=>?_⟩;have u10:=aE ht10 (.tup [.str "Ring",.bl (decide (10=j))]);have w10:upd G10 t10 (.tup [.str "Ring",.bl (decide (10=j))]) t10=some (.tup [.str "Ring",.bl (decide (10=j))]):=aB;generalize upd G10 t10 (.tup [.str "Ring",.bl (decide (10=j))])=J10 at u10 w10 ⊢;refine⟨_,rfl,a,C,od,_,_,_,rfl,ea.same (g10.trans u10),ex,rfl,fun _ h=>h,k11',zl9 2,fun t11 ht11=>?_⟩;have u11:=aE ht11 (.tup [.str "Floats",.bl (decide (11=j))]);have w11:upd J10 t11 (.tup [.str "Floats",.bl (decide (11=j))]) t11=some (.tup [.str "Floats",.bl (decide (11=j))]):=aB;generalize upd J10 t11 (.tup [.str "Floats",.bl (decide (11=j))])=J11 at u11 w11 ⊢;refine⟨zl9 2,fun M hM=>?_⟩;have uM:=aE hM (.lst [.ref t10,.ref t11]);have wM:upd J11 M (.lst [.ref t10,.ref t11]) M=some (.lst [.ref t10,.ref t11]):=aB;generalize upd J11 M (.lst [.ref t10,.ref t11])=JM at uM wM ⊢;have PB:Pbs Z.K JM [.ref t10,.ref t11] [("Ring",decide (10=j)),("Floats",decide (11=j))]:=.cons (uM.seqT (u11.seqT (SqT.of w10))) (.cons (uM.seqT (SqT.of w11)) .nil);have elM:=(u10.trans (u11.trans uM)) _ _ el10;have lx:=Pl10.length;rw[length_map,length_range] at lx;refine⟨l10,M,_,_,rfl,rfl,elM,wM,by rw[lx,sizeLine_eq];show 10+2<=_;lia,fun p hp=>?_⟩;have up:=aE hp (.lst (xs10++[.ref t10,.ref t11]));exact hX _ _ ⟨((g10.trans u10).trans u11).trans (uM.trans up),p,_,rfl,(((g10.trans u10).trans u11).trans uM).free hp,aB,((Pl10.same (u10.trans (u11.trans uM))).app PB).same up⟩
 rintro σ12 G12 ⟨g12,l12,xs12,rfl,nl12,el12,Pl12⟩;have lx:=Pl12.length;rw[length_map,length_range] at lx;refine⟨_,rfl,.inl ⟨rfl,_,SqL.of el12⟩,_,rfl,a,C,od,_,_,_,rfl,ea.same g12,ex,rfl,fun _ h=>h,k12',zl9 2,fun t12 ht12=>?_⟩;have u12:=aE ht12 (.tup [.str "Held",.bl (decide (12=j))]);have w12:upd G12 t12 (.tup [.str "Held",.bl (decide (12=j))]) t12=some (.tup [.str "Held",.bl (decide (12=j))]):=aB;generalize upd G12 t12 (.tup [.str "Held",.bl (decide (12=j))])=J12 at u12 w12 ⊢;have el13:=u12 _ _ el12;refine⟨l12,xs12,.ref t12,rfl,rfl,el13,bB (by lia),?_⟩;have sG:=(g12.trans u12).change nl12 (o:=.lst (xs12++[.ref t12]));have PB:Pbs Z.K (upd J12 l12 (.lst (xs12++[.ref t12]))) (xs12++[.ref t12]) ((List.range 13).map fun i=>(kNm.getD i "",decide (i=j))):=by
  have sq:∀{t:Addr} {p:Str × Bool},SqT Z.K J12 t [.str p.1,.bl p.2]->SqT Z.K (upd J12 l12 (.lst (xs12++[.ref t12]))) t [.str p.1,.bl p.2]:=fun h=>SqT.upd h el13;have go:∀{xs:List V} {ps:List (Str × Bool)},Pbs Z.K J12 xs ps->Pbs Z.K (upd J12 l12 (.lst (xs12++[.ref t12]))) xs ps:=fun h=>by
   induction h with
   |nil=>exact .nil
   |cons h _ ih=>exact .cons (sq h) ih
  exact go ((Pl12.same u12).app (.cons (p:=("Held",decide (12=j))) (SqT.of w12) .nil))
 have el14:upd J12 l12 (.lst (xs12++[.ref t12])) l12=some (.lst (xs12++[.ref t12])):=aB
 try dsimp only
 generalize upd J12 l12 (.lst (xs12++[.ref t12]))=G at sG PB el14 ⊢;refine⟨_,rfl,a,C,od,_,_,_,rfl,ea.same sG,ex,rfl,fun _ h=>h,kc.ve,_,rfl,L2.ifF rfl ?_⟩;refine⟨_,rfl,l12,rfl,⟨_,SqL.of el14⟩,fun D hD=>?_⟩;have sD:=aE hD (.lst []);have lP:=PB.length;refine dW (xs:=xs12++[.ref t12]) (fun i zs H'=>aS G H'/\H' D=some (.lst zs)/\zs=(((((List.range 13).map fun i=>(kNm.getD i "",decide (i=j))).take i).filter fun p=>p.2).map fun p=>V.str p.1)) ⟨sD,aB,rfl⟩ (fun i zs H' h=>h.2.1) (fun i zs H' _ h=>SqL.of (h.1 _ _ el14)) ?_ ?_
 ·rintro i zs x H4 hx ⟨s4,e4,rfl⟩ C' hC;obtain⟨tt,p,rfl,hp,hT⟩:=(PB.same s4).at hx;have hi:i < 13:=by have:=(List.getElem?_eq_some_iff.mp hp).1;rw[length_map,length_range] at this;exact this
  refine⟨tt,_,rfl,hT,rfl,_,_,rfl,_,_,rfl,rfl,iT.1,iT.2,?_⟩;have tk:((List.range 13).map fun i=>(kNm.getD i "",decide (i=j))).take (i+1)=((List.range 13).map fun i=>(kNm.getD i "",decide (i=j))).take i++[p]:=by rw[take_add_one,hp];rfl
  refine⟨_,rfl,_,rfl,?_⟩
  cases hb:p.2 with
  |false=>
   refine L2.ifF rfl (hC _ _ ⟨s4,e4,?_⟩);rw[tk,filter_append,filter_cons_of_neg (by rw[hb];simp)];simp
  |true=>
   refine L2.ifT rfl ⟨_,rfl,e4,bB ?_,hC _ _ ⟨s4.change hD,aB,?_⟩⟩
   ·rw[length_map];have:=length_filter_le (fun p:Str × Bool=>p.2) (((List.range 13).map fun i=>(kNm.getD i "",decide (i=j))).take i);rw[length_take] at this;lia
   ·rw[tk,filter_append,filter_cons_of_pos hb,map_append];rfl
 ·rintro zs H4 ⟨s4,e4,rfl⟩;rw[lP,take_length,Zf hj] at e4;exact q D H4 (sG.trans s4) (sG.free hD) e4
theorem Y75:DZ 3 Z.f75 Z.d75 ["_law_marks","_law_lifts","_law_start","_law_goal","_law_size"] (zV Z.K) "_law_joined":=by
 refine⟨?_,F75.b5 _ _ _ _ _ (by intros;rfl),F75.kp,m75⟩
 refine F75.ok9 Ay fun cdv A outer s H vs Q E hr h=>?_;obtain⟨M,L,z,u,v,n,ms,ls,xs,p,rfl,hM,hL,nML,hF,h20,hl,hu,hv,hne,fz,bz,bl,n19,q⟩:=h;refine⟨_,(aD (aR (i:=5) Ay.nd rfl (Or.inl rfl) (d9 Y72 hr rfl (aA (d9 Y72 hr rfl (aA (aU bL (pv 1) (pv 2) (fun _ _=>rfl)) (aA (aU bL (pv 1) (pv 3) (fun _ _=>rfl)) aC))) (aA (pv 4) aC))))
  (aD (aR (i:=6) Ay.nd rfl (Or.inl rfl) (aU bL (pv 0) (pv 3) (fun _ _=>rfl)))
  (aF (eZ PassesOwn.never rfl (iY rfl n_range (aA (bM bU rfl n_len PySem.boot_len (aA (pv 0) aC)) aC)) (aZ (i:=7) Ay.nd rfl (Or.inl rfl))
   (aF (cJ (bA eV (aU bL (pv 0) (pv 7) (fun _ _=>rfl)) (pv 6) (bH _)) (aD (mD (aU bL (pv 0) (pv 2) (fun _ _=>rfl)) (pB (pv 0) (pv 7) jJ))
  (aF (mD (d9 Y71 hr rfl (aA (aU bL (pv 1) (pv 7) (fun _ _=>rfl)) (aA (pv 5) aC))) (pB (pv 1) (pv 7) jJ)))) bO)))))),?_⟩
 have lx:=hF.length;obtain⟨xu,eu,fu⟩:=hF.at (yW (show u < ls.length by lia));obtain⟨xv,ev,fv⟩:=hF.at (yW (show v < ls.length by lia));have Bu:=fE bl (show u < ls.length by lia);have Bv:=fE bl (show v < ls.length by lia);refine⟨_,rfl,_,rfl,L,xs,_,_,rfl,rfl,SqL.of hL,bQ eu,_,rfl,_,rfl,L,xs,_,_,rfl,rfl,SqL.of hL,bQ ev,xu,xv,_,_,80,80,rfl,fu,fv,Bu.p2,Bv.p2,Bu.bd (by lia),Bv.bd (by lia),by decide,fun a1 H1 s1 e1=>?_⟩;have D1:=Bu.d1 Bv;refine⟨_,rfl,a1,z,_,p,80,80,rfl,Fq.of e1,s1.fq fz,D1.p2,bz.p2,D1.bd (by lia),bz.bd (by lia),by decide,fun a2 H2 s2 e2=>?_⟩;have s02:=s1.trans s2;have D2:=Bu.d2 Bv bz;have hM2:=s02 _ _ hM;have hL2:=s02 _ _ hL;refine⟨_,rfl,_,rfl,M,_,_,_,rfl,rfl,SqL.of hM2,bQ (by rw[getElem?_map,uA hv];rfl),?_⟩;refine⟨_,rfl,M,_,rfl,.inl (SqL.of hM2),_,rfl,?_⟩;have lm:(ms.map V.int).length=ms.length:=length_map _;refine⟨by lia,by lia,?_⟩;have e2':(((ms.map V.int).length:Nat):Int).toNat=ms.length:=by lia
 refine kM (fun i σ H'=>SX [M,L] H2 H'/\∃z7,σ=[some (.ref M),some (.ref L),some (.int (u:Int)),some (.int (v:Int)),some (.ref z),some (.ref a2),some (.int (ms.getD v 0)),z7]/\H' M=some (.lst (((jn ms u v).take i++ms.drop i).map V.int))/\∃xs',H' L=some (.lst xs')/\Fqs Z.K H' xs' ((jnL ms ls u v p).take i++ls.drop i)) ⟨fun b o h _=>h,none,rfl,by rw[take_zero,drop_zero,nil_append];exact hM2,xs,hL2,by rw[take_zero,drop_zero,nil_append];exact hF.same s02⟩ ?_ ?_
 ·rintro i σ H3 hi ⟨x3,z7,rfl,eM,xs',eL,F3⟩;have hi:i < ms.length:=by lia
  have ljn:(jn ms u v).length=ms.length:=by unfold jn;rw[length_map]
  have ljl:(jnL ms ls u v p).length=ls.length:=pL ..;have l3:=F3.length;have lmix:((jnL ms ls u v p).take i++ls.drop i).length=ls.length:=by rw[List.length_append,length_take,length_drop];lia
  have mi:=Gy (A:=jn ms u v) (B:=ms) (i:=i) ljn (Nat.le_refl i) (by lia);have mu:((jn ms u v).take i++ms.drop i)[u]?=some (ms.getD u 0):=by
   by_cases c:u < i
   ·rw[Zb c (by lia),Xe hu,if_neg hne]
   ·rw[Gy ljn (by lia) (by lia),uA hu]
  have li:=Gy (A:=jnL ms ls u v p) (B:=ls) (i:=i) (by lia) (Nat.le_refl i) (by lia);rw[uA hi] at mi;have li:=li.trans (yW (show i < ls.length by lia));have lsts:Fa [M,L] H2:=fun a ha=>by
   rcases mem_cons.mp ha with z | z
   ·exact⟨_,by rw[z];exact hM2⟩
   ·exact⟨_,by rw[mem_singleton.mp z];exact hL2⟩
  have fa2:Fq Z.K H3 a2 (Mq.minus (Mq.minus (ls.getD u (0,1)) (ls.getD v (0,1))) p):=SX.seqT lsts x3 (Fq.of e2);refine⟨_,rfl,_,rfl,M,_,_,_,rfl,rfl,SqL.of eM,bQ (by rw[Nat.zero_add,getElem?_map,mi];rfl),_,rfl,rfl,_,rfl,?_⟩;have jm:=Xe (u:=u) (v:=v) hi;have jl:=Yb (ms:=ms) (u:=u) (v:=v) (z:=p) (show i < ls.length by lia);have jg:=Jm (ms:=ms) (u:=u) (v:=v) (z:=p) (show i < ls.length by lia)
  by_cases c:ms.getD i 0=ms.getD v 0
  ·refine L2.ifT (by show decide (V.int (ms.getD i 0)=V.int (ms.getD v 0))=true;rw[c];simp) ?_;rw[if_pos c] at jm jg;refine⟨_,rfl,_,rfl,M,_,_,_,rfl,rfl,SqL.of eM,bQ (by rw[getElem?_map,mu];rfl),_,rfl,_,rfl,M,_,_,i,rfl,rfl,eM,by rw[Int.zero_add];exact kZ (by rw[length_map,List.length_append,length_take,length_drop];lia),?_⟩;have lsts3:Fa [M,L] H3:=fun a ha=>by
    rcases mem_cons.mp ha with z | z
    ·exact⟨_,by rw[z];exact eM⟩
    ·exact⟨_,by rw[mem_singleton.mp z];exact eL⟩
   have eM4:upd H3 M (.lst ((((jn ms u v).take i++ms.drop i).map V.int).set i (.int (ms.getD u 0)))) M=some (.lst (((jn ms u v).take (i+1)++ms.drop (i+1)).map V.int)):=by rw[aB,<- map_set,Ju ljn jm]
   have eL4:upd H3 M (.lst ((((jn ms u v).take i++ms.drop i).map V.int).set i (.int (ms.getD u 0)))) L=some (.lst xs'):=by rw[aQ (Ne.symm nML)];exact eL
   have x34:SX [M,L] H3 (upd H3 M (.lst ((((jn ms u v).take i++ms.drop i).map V.int).set i (.int (ms.getD u 0))))):=SX.write (fun b o h _=>h) (by simp)
   try dsimp only
   generalize upd H3 M (.lst ((((jn ms u v).take i++ms.drop i).map V.int).set i (.int (ms.getD u 0))))=H4 at eM4 eL4 x34 ⊢;have F4:=SX.fqs lsts3 x34 F3;have fa4:Fq Z.K H4 a2 _:=SX.seqT lsts3 x34 fa2;obtain⟨xi,ei,fi⟩:=F4.at li;have Bi:=fE bl (show i < ls.length by lia);refine⟨_,rfl,_,rfl,L,xs',_,_,rfl,rfl,SqL.of eL4,bQ (by rw[Nat.zero_add];exact ei),_,rfl,xi,a2,_,_,80,80,rfl,fi,fa4,Bi.p2,D2.p2,Bi.bd (by lia),D2.bd (by lia),by decide,fun a5 H5 s5 e5=>?_⟩;have eM5:=s5 _ _ eM4;have eL5:=s5 _ _ eL4;refine⟨_,rfl,_,rfl,L,xs',_,i,rfl,rfl,eL5,by rw[Int.zero_add];exact kZ (by lia),?_⟩;have lsts5:Fa [M,L] H5:=fun a ha=>by
    rcases mem_cons.mp ha with z | z
    ·exact⟨_,by rw[z];exact eM5⟩
    ·exact⟨_,by rw[mem_singleton.mp z];exact eL5⟩
   have x56:SX [M,L] H5 (upd H5 L (.lst (xs'.set i (.ref a5)))):=SX.write (fun b o h _=>h) (by simp);refine⟨x3.trans (x34.trans (SX.trans (fun b o h _=>s5 b o h) x56)),_,rfl,by rw[aQ nML];exact eM5,xs'.set i (.ref a5),aB,?_⟩;rw[<- Ju (by lia) jl,jg];exact Fqs.set (SX.seqT lsts5 x56 (Fq.of e5)) i (SX.fqs lsts5 x56 (F4.same s5))
  ·refine L2.ifF (by show decide (V.int (ms.getD i 0)=V.int (ms.getD v 0))=false;exact decide_eq_false fun z=>c (V.int.inj z)) ?_;rw[if_neg c] at jm jg;refine⟨x3,_,rfl,?_,xs',eL,?_⟩
   ·rw[<- Qs jm (uA hi)];exact eM
   ·rw[<- Qs jl (by rw[jg];exact yW (by lia))];exact F3
 ·rintro σ H3 ⟨x3,z7,rfl,eM,xs',eL,F3⟩;have ljn:(jn ms u v).length=ms.length:=by unfold jn;rw[length_map]
  have ljl:(jnL ms ls u v p).length=ls.length:=pL ..;rw[e2',<- ljn,take_length,ljn,drop_length,append_nil] at eM;rw[e2',<- hl,<- ljl,take_length,ljl,drop_length,append_nil] at F3;exact q xs' H3 (fun b o h nb=>x3 b o (s02 b o h) nb) eM eL F3
theorem Y76:DZ 4 Z.f76 Z.d76 ["_law_rows_here","_law_many"] (Wk Z.K) "_law_first_ring":=by
 refine⟨?_,F76.b2 _ _ (by intros;rfl),F76.kp,m76⟩
 refine F76.ok9 Eh fun _ _ _ s H _ Q E hr h=>?_;obtain⟨r,us,m,ds,rfl,hS,hR,pt,m20,h18,hz,q0,q1⟩:=h;have r2:=hr.mono (show 2<=3 by lia);refine⟨_,(aD (aR (i:=2) Eh.nd rfl (Or.inl rfl) (iX rfl rfl n_list rfl n_range (aA (pv 1) aC)))
  (aD (aR (i:=3) Eh.nd rfl (Or.inl rfl) (bC qO (cB (aA (cS (aA aG (aA aG aC))) aC)) (pv 1)))
  (aD (eZ PassesOwn.never rfl (iY rfl n_range (aA (bM bU rfl n_len PySem.boot_len (aA (pv 0) aC)) aC)) (aZ (i:=4) Eh.nd rfl (Or.inl rfl))
   (aD (mD (aU bL (pv 0) (pv 4) (fun _ _=>rfl)) (jD rfl (cE (aZ (i:=5) Eh.nd rfl (Or.inl rfl)) (cE (aZ (i:=6) Eh.nd rfl (Or.inl rfl)) (cE (aZ (i:=7) Eh.nd rfl (Or.inl rfl)) (cE (aZ (i:=8) Eh.nd rfl (Or.inl rfl)) gR))))))
  (aD (cJ (PW.pt (pC (bA eV (pv 5) bK (bH _)) (lK (bA eV (aU bL (pv 2) (pv 6) (fun _ _=>rfl)) (aU bL (pv 2) (pv 7) (fun _ _=>rfl)) (bH _))))) (aF (aW (cS (aA (pv 4) (aA (d9 Y72 r2 rfl (aA (pv 8) (aA (d9 Y72 r2 rfl (aA (aU bL (pv 3) (pv 6) (fun _ _=>rfl)) (aA (aU bL (pv 3) (pv 7) (fun _ _=>rfl)) aC))) aC))) aC))))) bO)
  (aF (cJ (bA eV (pv 5) bK (bH _)) (aF (bX (d9 Y75 hr rfl (aA (pv 2) (aA (pv 3) (aA (pv 6) (aA (pv 7) (aA (pv 8) aC)))))))) bO)))))
  (aF (aW zN))))),?_⟩
 refine⟨_,rfl,m,rfl,by lia,fun M hM=>?_⟩;have s1:=aE hM (.lst ((List.range m).map fun (i:Nat)=>V.int (i:Int)));have e1:upd H M (.lst ((List.range m).map fun (i:Nat)=>V.int (i:Int))) M=some (.lst ((mks m (dF [])).map V.int)):=by rw[aB];show _=some (HO.lst (((List.range m).map fun (i:Nat)=>(i:Int)).map V.int));rw[map_map];rfl
 generalize upd H M (.lst ((List.range m).map fun (i:Nat)=>V.int (i:Int)))=H1 at s1 e1 ⊢
 try dsimp only
 refine⟨zl9 2,fun T0 hT0=>⟨zl9 1,fun L0 hL0=>?_⟩⟩;have sT:=aE hT0 (.tup [.int 0,.int 1]);have eT:upd H1 T0 (.tup [.int 0,.int 1]) T0=some (.tup [.int 0,.int 1]):=aB;generalize upd H1 T0 (.tup [.int 0,.int 1])=H2 at sT eT hL0 ⊢;have sL:=aE hL0 (.lst [.ref T0]);have eL0:upd H2 L0 (.lst [.ref T0]) L0=some (.lst [.ref T0]):=aB;generalize upd H2 L0 (.lst [.ref T0])=H3 at sL eL0 ⊢;refine⟨_,rfl,L0,(m:Int),[.ref T0],rfl,rfl,eL0,by lia,by lia,?_,fun L hL=>?_⟩
 ·rw[Int.toNat_natCast,sizeLine_eq];show 1*m<=_;lia
 have er:(replicate (m:Int).toNat [V.ref T0]).flatten=replicate m (.ref T0):=by rw[Int.toNat_natCast];simp
 rw[er];have sR:=aE hL (.lst (replicate m (V.ref T0)));have eL:upd H3 L (.lst (replicate m (V.ref T0))) L=some (.lst (replicate m (V.ref T0))):=aB;generalize upd H3 L (.lst (replicate m (V.ref T0)))=H4 at sR eL ⊢;have s14:=sT.trans (sL.trans sR);have s04:=s1.trans s14;have eM:=s14 _ _ e1;have nL:H L=none:=(s1.trans (sT.trans sL)).free hL;have nML:M≠L:=fun z=>by rw[<- z] at hL;rw[(sT.trans sL) _ _ e1] at hL;cases hL
 have F0:Fqs Z.K H4 (replicate m (.ref T0)) (replicate m (0,1)):=jB (Fq.of (p:=(0,1)) ((sL.trans sR) _ _ eT)) m;have no2:∀x∈[M,L],H x=none:=fun x hx=>by
  rcases mem_cons.mp hx with z | z
  ·rw[z];exact hM
  ·rw[mem_singleton.mp z];exact nL
 have lu:=hR.length
 try dsimp only
 refine⟨_,rfl,r,us,rfl,.inl (s04.seq hS),_,rfl,by lia,by lia,?_⟩;have rk:=fun i (hi:i<=ds.length)=>jA (W:=wHo) (Di pt) i (by rw[oV];exact hi);refine kM (fun i σ H'=>SX [M,L] H4 H'/\(bY wHo (skl ds) i).2=[]/\∃z4 z5 z6 z7 z8,σ=[some (.ref r),some (.int (m:Int)),some (.ref M),some (.ref L),z4,z5,z6,z7,z8]/\H' M=some (.lst ((mks m (dF (bY wHo (skl ds) i).1)).map V.int))/\∃xs ls,H' L=some (.lst xs)/\Fqs Z.K H' xs ls/\LfI m i ds (bY wHo (skl ds) i).1 ls) ⟨fun b o h _=>h,rfl,none,none,none,none,none,rfl,eM,_,_,eL,F0,LfI.start m ds⟩ ?_ ?_
 ·rintro i σ H5 hi ⟨x5,hR0,z4,z5,z6,z7,z8,rfl,eM5,xs,ls,eL5,F5,LI⟩;have hi:i < ds.length:=by lia
  have s05:=SX.same s04 x5 no2;obtain⟨d,hd⟩:∃d,ds[i]?=some d:=⟨_,getElem?_eq_getElem hi⟩
  obtain⟨t,z,et,hT,fz⟩:=(hR.same s05).at hd;refine⟨_,rfl,_,rfl,r,us,_,_,rfl,rfl,s05.seq hS,bQ (by rw[Nat.zero_add];exact et),t,_,rfl,hT,rfl,_,_,rfl,_,_,rfl,_,_,rfl,_,_,rfl,rfl,?_⟩;obtain⟨kd,u,v,p⟩:=d;obtain⟨u0,u1,v0,v1⟩:cT (m:Int) u v:=pt _ (mem_of_getElem? hd);obtain⟨uN,rfl⟩:∃uN:Nat,u=(uN:Int):=⟨u.toNat,by lia⟩
  obtain⟨vN,rfl⟩:∃vN:Nat,v=(vN:Int):=⟨v.toNat,by lia⟩
  have hsk:(skl ds)[i]?=some (kd,uN,vN):=by unfold skl;rw[getElem?_map,hd];simp
  have suc:=gN (W:=wHo) hsk;have ri:=rk i (by lia);have fz:Fq Z.K H5 z p:=fz;have Bz:LfB 0 p:=hz _ (mem_of_getElem? hd);have dw:∀b,decide (kd=.ho)=b->decide (V.str kd.wd=V.str "hold")=b:=fun b e=>by rw[<- e];exact qj4 kd
  have lxs:=F5.length;have lls:=LI.ln;have mu:∀x,x < m->atI ((mks m (dF (bY wHo (skl ds) i).1)).map V.int) (x:Int)=some (.int (L2.mk m (dF (bY wHo (skl ds) i).1) x)):=fun x hx=>bQ (by rw[getElem?_map,uA (by rw[gL];exact hx)];rfl)
  by_cases kh:kd=.ho
  ·refine⟨_,rfl,rfl,_,rfl,L2.ifT (dw _ (decide_eq_true kh)) ?_⟩;refine⟨_,rfl,_,rfl,M,_,_,_,rfl,rfl,SqL.of eM5,mu uN (by lia),_,rfl,_,rfl,M,_,_,_,rfl,rfl,SqL.of eM5,mu vN (by lia),rfl,_,rfl,?_⟩;subst kh;have hpm:=ri.pt;have wi:=Io hpm m20 (show vN < m by lia) (show uN < m by lia);obtain⟨xu,eu,fu⟩:=F5.at (yW (show uN < ls.length by lia));obtain⟨xv,ev,fv⟩:=F5.at (yW (show vN < ls.length by lia));have Bu:=fE LI.bd (show uN < ls.length by lia);have Bv:=fE LI.bd (show vN < ls.length by lia)
   by_cases c:L2.mk m (dF (bY wHo (skl ds) i).1) uN=L2.mk m (dF (bY wHo (skl ds) i).1) vN
   ·refine L2.ifT (by show decide (V.int (L2.mk m (dF (bY wHo (skl ds) i).1) uN)=V.int (L2.mk m (dF (bY wHo (skl ds) i).1) vN))=true;rw[c];simp) ?_;obtain⟨st,hw⟩:=Option.isSome_iff_exists.mp (wi.mpr c);have sc:=Blk.ringS_so (n:=i) ((tL .ho).mpr rfl) hw;rw[<- suc] at sc;obtain⟨rr,hrr⟩:=xE (W:=wHo) (sk:=skl ds) (i+1) (ds.length - (i+1));rw[sc,hR0,show i+1+(ds.length - (i+1))=ds.length by lia] at hrr;obtain⟨pts,pp⟩:=qc7 hw;have D1:=Bu.d1 Bv;refine⟨_,rfl,_,rfl,_,rfl,_,rfl,L,xs,_,_,rfl,rfl,SqL.of eL5,bQ eu,_,rfl,_,rfl,L,xs,_,_,rfl,rfl,SqL.of eL5,bQ ev,xu,xv,_,_,80,80,rfl,fu,fv,Bu.p2,Bv.p2,Bu.bd (by lia),Bv.bd (by lia),by decide,fun a1 H6 s6 e6=>?_⟩;refine⟨z,a1,p,_,80,80,rfl,s6.fq fz,Fq.of e6,Bz.p2,D1.p2,Bz.bd (by lia),D1.bd (by lia),by decide,fun a2 H7 s7 e7=>?_⟩;refine⟨zl9 2,fun t9 ht9=>?_⟩;have s9:=aE ht9 (.tup [.int (0+(i:Int)),.ref a2]);refine q1 _ _ hrr t9 a2 _ _ (s05.trans (s6.trans (s7.trans s9))) (SqT.of (by rw[aB,Int.zero_add])) (s9.fq (Fq.of e7)) (Mq.eU Bz.p2 D1.p2) ?_;rw[Mq.eX Bz.p2 D1.p2,Mq.eX Bu.p2 Bv.p2];have su:=Yg (sz:=szR ds) (h:=fun x=>Mq.val (ls.getD x (0,1))) (fun e he=>by
     obtain⟨k,hk⟩:=ri.at_ e he;have le:=ri.lt e he;obtain⟨d',hd'⟩:∃d,ds[e.1]?=some d:=⟨_,getElem?_eq_getElem (by lia)⟩
     have o:=LI.po e he d' hd';show Mq.val (ls.getD e.2.1 (0,1)) - Mq.val (ls.getD e.2.2 (0,1))=szR ds e.1;unfold szR;rw[o,getD_eq_getElem?_getD (i:=e.1),hd'];rfl) pp
    have sz:szR ds i=Mq.val p:=by unfold szR;rw[getD_eq_getElem?_getD,hd];rfl
    show _=(((1:Int):Rat)*szR ds i)+(st.map fun s=>((s.2:Int):Rat)*szR ds s.1).sum;rw[su,sz,show ((1:Int):Rat)=1 by rfl];show _=1*Mq.val p+(Mq.val (ls.getD vN (0,1)) - Mq.val (ls.getD uN (0,1)))
    grind
   ·refine L2.ifF (by show decide (V.int (L2.mk m (dF (bY wHo (skl ds) i).1) uN)=V.int (L2.mk m (dF (bY wHo (skl ds) i).1) vN))=false;exact decide_eq_false fun z=>c (V.int.inj z)) ?_;refine⟨_,rfl,rfl,_,rfl,L2.ifT rfl ?_⟩;have hw:kW (bY wHo (skl ds) i).1 vN uN=none:=by
     cases hw:kW (bY wHo (skl ds) i).1 vN uN with
     |none=>rfl
     |some st=>rw[hw] at wi;exact absurd (wi.mp rfl) c
    have sc:=Blk.ringS_no (n:=i) ((tL .ho).mpr rfl) hw;rw[<- suc] at sc;rw[sc];have em:jn (mks m (dF (bY wHo (skl ds) i).1)) uN vN=mks m (dF ((bY wHo (skl ds) i).1++[(i,uN,vN)])):=by
     have:dF ((bY wHo (skl ds) i).1++[(i,uN,vN)])=dF (bY wHo (skl ds) i).1++[(.pc,(uN:Int),(vN:Int),(0,1))]:=by unfold dF;rw[map_append];rfl
     rw[this,kJ];unfold iC;rw[if_neg (fun z=>by cases z)];show _=jn _ (uN:Int).toNat (vN:Int).toNat;rw[Int.toNat_natCast,Int.toNat_natCast]
    refine⟨_,rfl,_,rfl,_,rfl,_,rfl,_,rfl,M,L,z,uN,vN,i,_,ls,xs,p,rfl,eM5,eL5,nML,F5,by rw[gL];exact m20,by rw[gL];exact lls,by rw[gL];lia,by rw[gL];lia,c,fz,Bz,LI.bd,by lia,fun xs' H6 x6 eM6 eL6 F6=>?_⟩;rw[em] at eM6;exact⟨x5.trans x6,hR0,_,_,_,_,_,rfl,eM6,xs',_,eL6,F6,LI.join hpm hd (by lia) (by lia) c Bz⟩
  ·refine⟨_,rfl,rfl,_,rfl,L2.ifF (dw _ (decide_eq_false kh)) ?_⟩;refine L2.ifF rfl ?_;refine⟨_,rfl,rfl,_,rfl,L2.ifF (dw _ (decide_eq_false kh)) ?_⟩;have e:bY wHo (skl ds) (i+1)=bY wHo (skl ds) i:=by rw[suc];unfold fP;rw[if_neg (fun z=>kh ((tL _).mp z))]
   rw[e];exact⟨x5,hR0,_,_,_,_,_,rfl,eM5,xs,ls,eL5,F5,LI.mono (Nat.le_succ i)⟩
 ·rintro σ H5 ⟨x5,hR0,z4,z5,z6,z7,z8,rfl,eM5,xs,ls,eL5,F5,LI⟩;exact q0 (by rw[show ((us.length:Nat):Int).toNat=ds.length by lia] at hR0;exact hR0) H5 (SX.same s04 x5 no2)
theorem Y77:DZ 4 Z.f77 Z.d77 ["_law_rows_here","_law_many"] (Ui Z.K) "_law_apart":=by
 refine⟨?_,F77.b2 _ _ (by intros;rfl),F77.kp,m77⟩
 refine F77.ok9 Ej fun _ _ _ s H _ Q E hr h=>?_;obtain⟨r,us,m,ds,rfl,hS,hR,pt,hm1,m20,h18,hz,q⟩:=h;refine⟨_,(aD (aR (i:=2) Ej.nd rfl (Or.inr rfl) (iX rfl rfl n_list rfl n_range (aA (pv 1) aC)))
  (aD (aR (i:=3) Ej.nd rfl (Or.inl rfl) (bC qO (cB (aA (cS (aA aG (aA aG aC))) aC)) (pv 1)))
  (aD (eZ PassesOwn.never rfl (cO (pv 0)) (jD rfl (cE (aZ (i:=4) Ej.nd rfl (Or.inl rfl)) (cE (aZ (i:=5) Ej.nd rfl (Or.inl rfl)) (cE (aZ (i:=6) Ej.nd rfl (Or.inl rfl)) (cE (aZ (i:=7) Ej.nd rfl (Or.inl rfl)) gR)))))
   (aF (cJ (PW.pt (pC (bA oQ (pv 4) bK (bH _)) (lK (bA oQ (aU bL (pv 2) (pv 5) (fun _ _=>rfl)) (aU bL (pv 2) (pv 6) (fun _ _=>rfl)) (bH _))))) (aF (bX (d9 Y75 hr rfl (aA (pv 2) (aA (pv 3) (aA (pv 5) (aA (pv 6) (aA (pv 7) aC)))))))) bO)))
  (aF (aW (eQ (nl:=1) (fr:=[2]) (Nc:=["_law_point","_law_marks"]) (cl:=[("_law_marks",s.heap.objs.size+1)]) rfl ⟨rfl,rfl,by decide +kernel,by decide +kernel,fun x c h=>h,fA rfl,rfl,fun i n h=>match i,h with | 0,h=>by cases h;exact⟨2,rfl,rfl,rfl,rfl,.inl rfl⟩ | k+1,h=>by rw[show 1+(k+1)=k+2 by lia] at h;cases h⟩
    (iY rfl n_range (aA (pv 1) aC)) (fun _ _ _ _ _=>(aZ (i:=0) vZ rfl (Or.inl rfl))) (fun _ _ _ _ _=>(nX (bA oQ (aU (iK (K:=Z.K) rfl) (pv 1) (pv 0) (fun _ _=>rfl)) (aU (iK (K:=Z.K) rfl) (pv 1) aG (fun _ _=>rfl)) (bH _))))
    (fun _ _ _ _ _=>(pv 0)))))))),?_⟩
 refine⟨_,rfl,m,rfl,by lia,fun M hM=>?_⟩;have s1:=aE hM (.lst ((List.range m).map fun (i:Nat)=>V.int (i:Int)));have e1:upd H M (.lst ((List.range m).map fun (i:Nat)=>V.int (i:Int))) M=some (.lst ((mks m (ds.take 0)).map V.int)):=by rw[aB];show _=some (HO.lst (((List.range m).map fun (i:Nat)=>(i:Int)).map V.int));rw[map_map];rfl
 generalize upd H M (.lst ((List.range m).map fun (i:Nat)=>V.int (i:Int)))=H1 at s1 e1 ⊢
 try dsimp only
 refine⟨zl9 2,fun T0 hT0=>⟨zl9 1,fun L0 hL0=>?_⟩⟩;have sT:=aE hT0 (.tup [.int 0,.int 1]);have eT:upd H1 T0 (.tup [.int 0,.int 1]) T0=some (.tup [.int 0,.int 1]):=aB;generalize upd H1 T0 (.tup [.int 0,.int 1])=H2 at sT eT hL0 ⊢;have sL:=aE hL0 (.lst [.ref T0]);have eL0:upd H2 L0 (.lst [.ref T0]) L0=some (.lst [.ref T0]):=aB;generalize upd H2 L0 (.lst [.ref T0])=H3 at sL eL0 ⊢;refine⟨_,rfl,L0,(m:Int),[.ref T0],rfl,rfl,eL0,by lia,by lia,?_,fun L hL=>?_⟩
 ·rw[Int.toNat_natCast,sizeLine_eq];show 1*m<=_;lia
 have er:(replicate (m:Int).toNat [V.ref T0]).flatten=replicate m (.ref T0):=by rw[Int.toNat_natCast];simp
 rw[er];have sR:=aE hL (.lst (replicate m (V.ref T0)));have eL:upd H3 L (.lst (replicate m (V.ref T0))) L=some (.lst (replicate m (V.ref T0))):=aB;generalize upd H3 L (.lst (replicate m (V.ref T0)))=H4 at sR eL ⊢;have s14:=sT.trans (sL.trans sR);have s04:=s1.trans s14;have eM:=s14 _ _ e1;have nL:H L=none:=(s1.trans (sT.trans sL)).free hL;have nML:M≠L:=fun z=>by rw[<- z] at hL;rw[(sT.trans sL) _ _ e1] at hL;cases hL
 have F0:Fqs Z.K H4 (replicate m (.ref T0)) (replicate m (0,1)):=jB (Fq.of (p:=(0,1)) ((sL.trans sR) _ _ eT)) m;have no2:∀x∈[M,L],H x=none:=fun x hx=>by
  rcases mem_cons.mp hx with z | z
  ·rw[z];exact hM
  ·rw[mem_singleton.mp z];exact nL
 have lu:=hR.length
 try dsimp only
 refine qV (fun σ' H'=>SX [M,L] H4 H'/\∃z4 z5 z6 z7,σ'=[some (.ref r),some (.int (m:Int)),some (.ref M),some (.ref L),z4,z5,z6,z7]/\H' M=some (.lst ((mks m ds).map V.int))) (fun X hX=>?_) ?_
 ·refine⟨_,rfl,r,rfl,⟨_,s04.seq hS⟩,?_⟩;refine eK (xs:=us) (fun i σ H'=>SX [M,L] H4 H'/\∃z4 z5 z6 z7,σ=[some (.ref r),some (.int (m:Int)),some (.ref M),some (.ref L),z4,z5,z6,z7]/\H' M=some (.lst ((mks m (ds.take i)).map V.int))/\∃xs ls,H' L=some (.lst xs)/\Fqs Z.K H' xs ls/\ls.length=m/\∀q∈ls,LfB i q) ⟨fun b o h _=>h,none,none,none,none,rfl,eM,_,_,eL,F0,length_replicate,fun q hq=>by rw[eq_of_mem_replicate hq];exact LfB.zero⟩ (fun i σ H' _ h=>(SX.same s04 h.1 no2).seq hS) ?_ ?_
  rotate_left
  ·rintro σ H5 ⟨x5,z4,z5,z6,z7,rfl,eM5,_⟩;rw[lu,take_length] at eM5;exact hX _ _ ⟨x5,_,_,_,_,rfl,eM5⟩
  rintro i x σ H5 hx ⟨x5,z4,z5,z6,z7,rfl,eM5,xs,ls,eL5,F5,lls,LB⟩;have hi:i < us.length:=(List.getElem?_eq_some_iff.mp hx).1;have s05:=SX.same s04 x5 no2;obtain⟨d,hd⟩:∃d,ds[i]?=some d:=⟨_,getElem?_eq_getElem (by lia)⟩
  obtain⟨t,z,et,hT,fz⟩:=(hR.same s05).at hd;obtain rfl:x=.ref t:=by rw[hx] at et;exact Option.some.inj et
  refine⟨t,_,rfl,hT,rfl,_,_,rfl,_,_,rfl,_,_,rfl,_,_,rfl,rfl,?_⟩;obtain⟨kd,u,v,p⟩:=d;obtain⟨u0,u1,v0,v1⟩:cT (m:Int) u v:=pt _ (mem_of_getElem? hd);obtain⟨uN,rfl⟩:∃uN:Nat,u=(uN:Int):=⟨u.toNat,by lia⟩
  obtain⟨vN,rfl⟩:∃vN:Nat,v=(vN:Int):=⟨v.toNat,by lia⟩
  have fz:Fq Z.K H5 z p:=fz;have Bz:LfB 0 p:=hz _ (mem_of_getElem? hd);have suc:mks m (ds.take (i+1))=iC (mks m (ds.take i)) (kd,(uN:Int),(vN:Int),p):=by rw[take_add_one,hd];exact kJ ..
  rw[suc];have dw:decide (V.str kd.wd=V.str "push")=decide (kd=.pu):=qh7 kd;have lm:=gL m (ds.take i);generalize mks m (ds.take i)=ms at eM5 lm;have LB':∀q∈ls,LfB (i+1) q:=fun q hq=>(LB q hq).mono (Nat.le_succ i);have mu:∀x,x < m->atI (ms.map V.int) (x:Int)=some (.int (ms.getD x 0)):=fun x hx=>bQ (by rw[getElem?_map,uA (by lia)];rfl);unfold iC
  by_cases kp:kd=.pu
  ·rw[if_pos kp];refine⟨_,rfl,rfl,_,rfl,L2.ifF (by show (!decide (V.str kd.wd=V.str "push"))=false;rw[dw,decide_eq_true kp];rfl) ?_⟩;exact L2.ifF rfl ⟨x5,_,_,_,_,rfl,eM5,xs,ls,eL5,F5,lls,LB'⟩
  ·rw[if_neg kp];refine⟨_,rfl,rfl,_,rfl,L2.ifT (by show (!decide (V.str kd.wd=V.str "push"))=true;rw[dw,decide_eq_false kp];rfl) ?_⟩;refine⟨_,rfl,_,rfl,M,_,_,_,rfl,rfl,SqL.of eM5,mu uN (by lia),_,rfl,_,rfl,M,_,_,_,rfl,rfl,SqL.of eM5,mu vN (by lia),rfl,_,rfl,?_⟩;show ite _ _ _;rw[show jn ms (kd,(uN:Int),(vN:Int),p).2.1.toNat (kd,(uN:Int),(vN:Int),p).2.2.1.toNat=jn ms uN vN by show jn ms (uN:Int).toNat (vN:Int).toNat=_;rw[Int.toNat_natCast,Int.toNat_natCast]]
   by_cases c:ms.getD uN 0=ms.getD vN 0
   ·refine L2.ifF (by show (!decide (V.int (ms.getD uN 0)=V.int (ms.getD vN 0)))=false;rw[c];simp) ?_;rw[qk3 c];exact⟨x5,_,_,_,_,rfl,eM5,xs,ls,eL5,F5,lls,LB'⟩
   ·refine L2.ifT (by show (!decide (V.int (ms.getD uN 0)=V.int (ms.getD vN 0)))=true;rw[decide_eq_false fun z=>c (V.int.inj z)];rfl) ?_;refine⟨_,rfl,_,rfl,_,rfl,_,rfl,_,rfl,M,L,z,uN,vN,i,ms,ls,xs,p,rfl,eM5,eL5,nML,F5,by lia,by lia,by lia,by lia,c,fz,Bz,LB,by lia,fun xs' H6 x6 eM6 eL6 F6=>?_⟩;exact⟨x5.trans x6,_,_,_,_,rfl,eM6,xs',_,eL6,F6,by rw[pL];exact lls,Nw LB (by lia) (by lia) Bz⟩
 rintro σ9 H9 ⟨x9,z4,z5,z6,z7,rfl,eM9⟩;have s09:=SX.same s04 x9 no2;refine⟨_,rfl,_,rfl,by lia,by lia,fun D hD=>?_⟩;have sD:=aE hD (.lst []);rw[Int.toNat_natCast];refine uZ (n:=m) (fun i zs H'=>aS H9 H'/\H' D=some (.lst zs)/\zs=((((List.range i).filter fun p=>decide (L2.mk m ds p≠L2.mk m ds 0)).map fun (p:Nat)=>(p:Int)).map V.int)) ⟨sD,aB,rfl⟩ (fun i zs H' h=>h.2.1) ?_ ?_
 ·rintro i zs H2 hi ⟨s2,e2,rfl⟩ C hC;rw[Int.zero_add];have mu:∀x,x < m->atI ((mks m ds).map V.int) (x:Int)=some (.int (L2.mk m ds x)):=fun x hx=>bQ (by rw[getElem?_map,uA (by rw[gL];exact hx)];rfl);have ll:=length_filter_le (fun p=>decide (L2.mk m ds p≠L2.mk m ds 0)) (List.range i);rw[length_range] at ll;refine⟨gF.1,gF.2,_,rfl,_,rfl,M,_,_,_,rfl,rfl,SqL.of (s2 _ _ eM9),mu i hi,_,rfl,M,_,_,_,rfl,rfl,SqL.of (s2 _ _ eM9),mu 0 (by lia),rfl,_,rfl,?_⟩
  by_cases c:L2.mk m ds i=L2.mk m ds 0
  ·refine L2.ifF (by show (!decide (V.int (L2.mk m ds i)=V.int (L2.mk m ds 0)))=false;rw[c];simp) (hC _ _ ⟨s2,e2,?_⟩);rw[range_succ,filter_append,filter_cons_of_neg (by simp[c])];simp
  ·refine L2.ifT (by show (!decide (V.int (L2.mk m ds i)=V.int (L2.mk m ds 0)))=true;rw[decide_eq_false fun z=>c (V.int.inj z)];rfl) ⟨_,rfl,e2,bB (by rw[length_map,length_map];lia),hC _ _ ⟨s2.change hD,aB,?_⟩⟩;rw[range_succ,filter_append,filter_cons_of_pos (by simp[c]),map_append,map_append];rfl
 ·rintro zs H2 ⟨s2,e2,rfl⟩;exact q D H2 (s09.trans s2) (s09.free hD) e2
theorem Y78:DZ 5 Z.f78 Z.d78 ["_law_kept","_law_rows_here","_law_many"] (Yq Z.c_Ring Z.c_Floats Z.K) "_law_of_the_net":=by
 refine⟨?_,F78.b3 _ _ _ (by intros;rfl),F78.kp,m78⟩
 refine F78.ok9 qb1 fun _ _ _ s H _ Q E hr h=>?_;obtain⟨x,r,us,m,ds,rfl,hS,hR,pt,hm1,m20,h18,hz,kp,q⟩:=h;have r1:=hr.mono (show 1<=4 by lia);have hu:=hr.units;refine⟨_,(aD (aR (i:=3) qb1.nd rfl (Or.inl rfl) (d9 Y76 hr rfl (aA (pv 1) (aA (pv 2) aC))))
  (aD (aR (i:=4) qb1.nd rfl (Or.inl rfl) (d9 Y77 hr rfl (aA (pv 1) (aA (pv 2) aC))))
  (aD (cJ (qK (Jl (pv 3))) (aF (aW (jX (gB (lB hu) (d9 Y74 r1 rfl (aA (pv 0) aC)) (cB (aA bK aC)) (bH _)) (jX (gB (lB hu) (aU bL (Al (pv 0) rfl) aG (fun _ _=>rfl)) (cS (aA (aU aY (pv 3) aG (fun _ _=>rfl)) (aA aG aC))) (bH _)) (nV (gB (lB hu) (Al (pv 0) rfl) (aU aY (pv 3) aG (fun _ _=>rfl)) (bH _))))))) bO)
  (aD (cJ (bA (Gi hu) (pv 4) (cB aC) (bH _)) (aF (aW (jX (gB (lB hu) (d9 Y74 r1 rfl (aA (pv 0) aC)) (cB (aA bK aC)) (bH _)) (nV (gB (lB hu) (Al (pv 0) rfl) (pv 4) (bH _)))))) bO)
  (aF (aW (Nq (vW (pv 0))))))))),?_⟩
 cases hG:rgH ds with
 |nil=>
  refine⟨_,rfl,_,rfl,r,us,m,ds,rfl,hS,hR,pt,m20,h18,hz,fun _ H1 s1=>?_,fun c rr e=>absurd (hG.symm.trans e) (by simp)⟩;refine⟨_,rfl,_,rfl,r,us,m,ds,rfl,s1.seq hS,hR.same s1,pt,hm1,m20,h18,hz,fun l H2 s2 nl el=>?_⟩;have s02:=s1.trans s2;refine⟨_,rfl,_,rfl,L2.ifF rfl ?_⟩;refine⟨_,rfl,zl9 0,fun e hE=>?_⟩;have s3:=aE hE (.lst []);have e3:upd H2 e (.lst []) e=some (.lst []):=aB;generalize upd H2 e (.lst [])=H3 at s3 e3 ⊢;have el3:=s3 _ _ el;have s03:=s02.trans s3;refine Dv (ns:=dC m ds) (SqL.of el3) (SqL.of e3) ⟨_,rfl,?_⟩
  by_cases hF:dC m ds=[]
  ·refine L2.ifF (by rw[hF];rfl) ?_;exact⟨_,rfl,by rw[kp.ok hG hF];exact q H3 s03⟩
  ·refine L2.ifT (by cases hx:dC m ds with | nil=>exact absurd hx hF | cons y ys=>rfl) ?_;obtain⟨a,dx,p,rfl,ea,ed,ep⟩:=kp.fl hG hF;refine⟨_,rfl,a,Z.c_Floats,some dx,11,"Floats",rfl,⟨s03 _ _ ea,fun dx' e=>by cases e;exact⟨_,s03 _ _ ed⟩⟩,kF,rfl,fun l1 H4 s4 n4 e4=>?_⟩;refine⟨zl9 1,fun l2 hl2=>?_⟩;have s5:=aE hl2 (.lst [.str "Floats"]);have e5:upd H4 l2 (.lst [.str "Floats"]) l2=some (.lst [.str "Floats"]):=aB;generalize upd H4 l2 (.lst [.str "Floats"])=H5 at s5 e5 ⊢;have s05:=s03.trans (s4.trans s5);refine Iu (SqL.of (s5 _ _ e4)) (SqL.of e5) (by decide +kernel) ⟨_,rfl,gC ?_⟩;refine⟨_,rfl,a,Z.c_Floats,dx,_,.ref p,rfl,s05 _ _ ea,s05 _ _ ed,kF.ex,fc.hf,fc.np,rfl,_,rfl,qd9 (ns:=dC m ds) (SqL.of (s05 _ _ ep)) (SqL.of ((s4.trans s5) _ _ el3)) (q H5 s05)⟩
 |cons c rr=>
  obtain⟨a,dx,p,t,us',rfl,ea,ed,ep,st,ft⟩:=kp.rg c rr hG;refine⟨_,rfl,_,rfl,r,us,m,ds,rfl,hS,hR,pt,m20,h18,hz,fun e=>absurd (hG.symm.trans e) (by simp),fun c' rr' e t1 z1 p1 H1 s1 hT1 fz1 lo1 hv1=>?_⟩;obtain rfl:c=c':=by rw[hG] at e;exact(List.cons.inj e).1
  refine⟨_,rfl,_,rfl,r,us,m,ds,rfl,s1.seq hS,hR.same s1,pt,hm1,m20,h18,hz,fun l H2 s2 nl el=>?_⟩;have s02:=s1.trans s2;have T1:=s2.seqT hT1;refine⟨_,rfl,_,rfl,L2.ifT rfl ?_⟩;refine⟨_,rfl,a,Z.c_Ring,some dx,10,"Ring",rfl,⟨s02 _ _ ea,fun dx' e=>by cases e;exact⟨_,s02 _ _ ed⟩⟩,kG,rfl,fun l1 H4 s4 n4 e4=>?_⟩;refine⟨zl9 1,fun l2 hl2=>?_⟩;have s5:=aE hl2 (.lst [.str "Ring"]);have e5:upd H4 l2 (.lst [.str "Ring"]) l2=some (.lst [.str "Ring"]):=aB;generalize upd H4 l2 (.lst [.str "Ring"])=H5 at s5 e5 ⊢;have s05:=s02.trans (s4.trans s5);refine Iu (SqL.of (s5 _ _ e4)) (SqL.of e5) (by decide +kernel) ⟨_,rfl,gC ?_⟩;have ri:=jA (W:=wHo) (Di pt) ds.length (by rw[oV];exact Nat.le_refl _);obtain⟨c1,k',u',v',st',pts,_,ec,_⟩:=ri.r c (by show c∈rgH ds;rw[hG];exact mem_cons_self ..);have st5:=st.same s05;obtain⟨t0,e0,h0⟩:∃t0,us'[0]?=some (.ref t0)/\SqT Z.K H5 t0 [.int (c.1:Int),.int 1]:=by
   rw[ec] at st5
   cases st5 with
   |cons h _=>exact⟨_,rfl,h⟩
  refine⟨_,rfl,a,Z.c_Ring,dx,_,.ref p,rfl,s05 _ _ ea,s05 _ _ ed,kG.ex,fc.hg,fc.nr,rfl,p,us',_,_,rfl,rfl,SqL.of (s05 _ _ ep),bQ (j:=0) e0,?_⟩;refine⟨_,rfl,t1,_,0,_,rfl,rfl,(s4.trans s5).seqT T1,rfl,zl9 2,fun t6 ht6=>?_⟩;have s6:=aE ht6 (.tup [.int (c.1:Int),.int 1]);have e6:upd H5 t6 (.tup [.int (c.1:Int),.int 1]) t6=some (.tup [.int (c.1:Int),.int 1]):=aB;generalize upd H5 t6 (.tup [.int (c.1:Int),.int 1])=H6 at s6 e6 ⊢;have s06:=s05.trans s6;refine Uq (s6.seqT h0) (SqT.of e6) ⟨_,rfl,gC ?_⟩;have pe:tot (c.2.map (fV ds))=p1:=Mq.Vd (Qd hz c.2).1 lo1 (by rw[hv1];exact(Qd hz c.2).2);refine⟨_,rfl,a,Z.c_Ring,dx,_,.ref t,rfl,s06 _ _ ea,s06 _ _ ed,kG.ex,fc.hg,fc.nt,rfl,_,rfl,t1,_,1,_,rfl,rfl,(s4.trans (s5.trans s6)).seqT T1,rfl,Td (s06.fq ft) ((s2.trans (s4.trans (s5.trans s6))).fq fz1) ?_⟩;rw[pe];simp only[decide_true];exact q H6 s06
theorem Y79:DZ 2 Z.f79 Z.d79 ["_law_script","_law_many"] (Za Z.K) "_law_rows":=by
 refine⟨?_,F79.b2 _ _ (by intros;rfl),F79.kp,m79⟩
 refine F79.ok9 Ls fun _ _ _ s H _ Q E hr h=>?_;obtain⟨a,ns,m,rfl,hS,h63,hm1,hm20,q⟩:=h;refine⟨_,(aD (aR (i:=2) Ls.nd rfl (Or.inl rfl) (cB aC))
  (aD (eZ PassesOwn.never rfl (cO (gJ iH (pv 0) (gM aG) (gM (bC gZ aG (d9 Y69 hr rfl (aA (d9 Y68 hr rfl (aA (pv 0) (aA aG aC))) (aA aG (aA aG aC)))))))) (aZ (i:=3) Ls.nd rfl (Or.inl rfl))
   (aD (aR (i:=4) Ls.nd rfl (Or.inl rfl) (aU bL (cB (aA bK (aA bK (aA bK (aA bK aC))))) (d9 Y69 hr rfl (aA (pv 3) (aA aG (aA aG aC)))) (fun _ _=>rfl)))
  (aD (aR (i:=5) Ls.nd rfl (Or.inl rfl) (d9 Y70 hr rfl (aA (bC gZ aG (d9 Y69 hr rfl (aA (pv 3) (aA aG (aA aG aC))))) (aA (bC gZ aG (d9 Y69 hr rfl (aA (pv 3) (aA aG (aA aG aC))))) aC))))
  (aD (cJ (bA oQ (pv 4) bK (bH _)) (aF (aR (i:=5) Ls.nd rfl (Or.inl rfl) (d9 Y70 hr rfl (aA (bC lL (d9 Y69 hr rfl (aA (pv 3) (aA aG (aA aG aC)))) aG) (aA (bC gZ aG (d9 Y69 hr rfl (aA (pv 3) (aA aG (aA aG aC))))) aC))))) bO)
  (aF (bX (mB PySem.F.plainAttrs_list PySem.F.slot_list_append PySem.F.type_list_append dU (pv 2) (aA (cS (aA (pv 4) (aA (d9 Y69 hr rfl (aA (pv 3) (aA aG (aA (pv 1) aC)))) (aA (d9 Y69 hr rfl (aA (pv 3) (aA aG (aA (pv 1) aC)))) (aA (pv 5) aC))))) aC))))))))
  (aF (aW (pv 2))))),?_⟩
 refine⟨zl9 0,fun r hr0=>?_⟩;have s1:=aE hr0 (.lst []);have e1:upd H r (.lst []) r=some (.lst []):=aB;generalize upd H r (.lst [])=H1 at s1 e1 ⊢;refine⟨_,rfl,3,rfl,_,rfl,a,ns,1,1,rfl,rfl,s1.seq hS,h63,fun v H2 s2=>?_⟩;refine⟨v,3,13,rfl,by lia,by lia,by lia,fun j H2' j0 j13 s2'=>?_⟩;have s2:=s2.trans s2';have s02:=s1.trans s2;refine⟨_,_,rfl,rfl,3+j,rfl,a,_,rfl,s02.seq hS,fun C hC=>?_⟩;have c38:(lV (ns.map V.int) (some 3) (some (3+j))).length<=12:=by
  obtain⟨n,rfl⟩:∃n:Nat,j=(n:Int):=⟨j.toNat,by lia⟩
  unfold lV;have h1:HT.sIx (ns.map V.int).length (ns.map V.int).length (some (3+(n:Int)))=min (3+n) (ns.map V.int).length:=by
   simp only[HT.sIx];split<;>lia
  have h2:HT.sIx (ns.map V.int).length 0 (some 3)=min 3 (ns.map V.int).length:=by simp[HT.sIx]
  rw[h1,h2,length_take,length_drop];lia
 obtain⟨ms,em⟩:=Kr ns (some 3) (some (3+j));rw[em] at c38 ⊢;rw[length_map] at c38;have s3:=aE hC (.lst (ms.map V.int));have eC:upd H2' C (.lst (ms.map V.int)) C=some (.lst (ms.map V.int)):=aB;have nCr:C≠r:=Ne.symm (aX (s2 _ _ e1) hC);have e3:=s3 _ _ (s2 _ _ e1);generalize upd H2' C (.lst (ms.map V.int))=H3 at s3 eC e3 ⊢;refine⟨C,rfl,⟨_,SqL.of eC⟩,?_⟩;refine eK (xs:=ms.map V.int) (fun n σ H'=>aS H H'/\H' C=some (.lst (ms.map V.int))/\∃(us:List V) (ds:List RD) (z4 z5 z6:Option V),σ=[some (.ref a),some (.int (m:Int)),some (.ref r),z4,z5,z6]/\H' r=some (.lst us)/\Rts Z.K H' us ds/\(∀d∈ds,D76 m d)/\ds.length=n) ⟨s02.trans s3,eC,[],[],none,none,none,rfl,e3,.nil,(fun d hd=>by cases hd),rfl⟩ (fun n σ H' _ h=>SqL.of h.2.1) ?_ ?_
 rotate_left
 ·rintro σ H4 ⟨s4,eC4,us,ds,z4,z5,z6,rfl,er,hR,hK,hlen⟩;exact⟨_,rfl,q r us ds H4 s4 hr0 er hR hK (by rw[hlen,length_map];exact c38)⟩
 rintro n x σ H4 hx ⟨s4,eC4,us,ds,z4,z5,z6,rfl,er,hR,hK,hlen⟩;have hn:n < 12:=by
  have:=(List.getElem?_eq_some_iff.mp hx).1;rw[length_map] at this;lia
 obtain⟨c,rfl⟩:∃c,x=.int c:=by
  rw[getElem?_map] at hx
  cases hm:ms[n]? with
  |none=>rw[hm] at hx;cases hx
  |some c=>rw[hm] at hx;cases hx;exact⟨c,rfl⟩
 have lus:=hR.length;refine⟨zl9 4,fun L hL=>?_⟩;have s5:=aE hL (.lst [V.str "piece",.str "push",.str "hold",.str "hold"]);have e5:upd H4 L (.lst [V.str "piece",.str "push",.str "hold",.str "hold"]) L=some (.lst [V.str "piece",.str "push",.str "hold",.str "hold"]):=aB;generalize upd H4 L (.lst [V.str "piece",.str "push",.str "hold",.str "hold"])=H5 at s5 e5 ⊢;refine⟨_,rfl,c,0,4,rfl,by lia,by lia,by lia,fun w0 H6 w00 w04 s6=>?_⟩;obtain⟨k,ek⟩:=qo1 w00 w04;refine⟨L,_,_,_,rfl,rfl,SqL.of (s6 _ _ e5),ek,?_⟩;have s46:=s4.trans (s5.trans s6);refine⟨_,rfl,c,3,12,rfl,by lia,by lia,by lia,fun t1 H7 t0 t12 s7=>⟨_,_,rfl,rfl,_,rfl,c,4,6,rfl,by lia,by lia,by lia,fun b1' H8 b0 b6 s8=>⟨_,_,rfl,rfl,1+t1,1+b1',30,rfl,by lia,Lq (by lia) (by lia),by lia,fun z1 H9 s9 e9=>?_⟩⟩⟩
 try dsimp only
 refine qV (fun σ' H'=>aS H9 H'/\∃(z2:Addr) (q2:Mq.Q2),σ'=[some (.ref a),some (.int (m:Int)),some (.ref r),some (.int c),some (.str k.wd),some (.ref z2)]/\Fq Z.K H' z2 q2/\∃t b:Int,q2=red t b/\1<=b/\b<=12/\-60<=t/\t<=60/\(k=.pc->1<=t/\t<=12/\b<=6)) (fun X hX=>?_) ?_
 ·refine⟨_,rfl,rfl,_,rfl,?_⟩
  by_cases kp:k=.pc
  ·exact L2.ifF (by show (!decide (V.str k.wd=V.str "piece"))=false;rw[Xl,decide_eq_true kp];rfl) (hX _ _ ⟨aS.refl _,z1,_,rfl,Fq.of e9,1+t1,1+b1',rfl,by lia,by lia,by lia,by lia,fun _=>⟨by lia,by lia,by lia⟩⟩)
  ·refine L2.ifT (by show (!decide (V.str k.wd=V.str "piece"))=true;rw[Xl,decide_eq_false kp];rfl) ?_;exact⟨_,rfl,c,3,121,rfl,by lia,by lia,by lia,fun t2 H10 t20 t21 s10=>⟨_,_,rfl,rfl,_,rfl,c,4,12,rfl,by lia,by lia,by lia,fun b2 H11 b20 b21 s11=>⟨_,_,rfl,rfl,t2 - 60,1+b2,30,rfl,by lia,Lq (by lia) (by lia),by lia,fun z2 H12 s12 e12=>hX _ _ ⟨s10.trans (s11.trans s12),z2,_,rfl,Fq.of e12,t2 - 60,1+b2,rfl,by lia,by lia,by lia,by lia,fun z=>absurd z kp⟩⟩⟩⟩
 rintro σ9 H10 ⟨s10,z2,q2,rfl,fz2,szq⟩;have s410:=(s5.trans s6).trans ((s7.trans s8).trans (s9.trans s10));have er10:=s410 _ _ er;refine⟨_,rfl,.inl ⟨rfl,_,SqL.of er10⟩,_,rfl,_,rfl,_,rfl,c,1,(m:Int),rfl,by lia,by lia,by lia,fun u H11 u0 um s11=>⟨_,rfl,_,rfl,c,2,(m:Int),rfl,by lia,by lia,by lia,fun v' H12 v0 vm s12=>⟨_,rfl,zl9 4,fun t ht=>?_⟩⟩⟩;have s13:=aE ht (.tup [.str k.wd,.int u,.int v',.ref z2]);have et:SqT Z.K (upd H12 t (.tup [.str k.wd,.int u,.int v',.ref z2])) t [.str k.wd,.int u,.int v',.ref z2]:=SqT.of aB;generalize upd H12 t (.tup [.str k.wd,.int u,.int v',.ref z2])=H13 at s13 et ⊢;have s413:=s410.trans (s11.trans (s12.trans s13));have er13:=s413 _ _ er;refine⟨r,us,.ref t,rfl,rfl,er13,bB (by lia),?_⟩;refine⟨(s4.trans s413).change hr0,by rw[aQ nCr];exact s413 _ _ eC4,us++[.ref t],ds++[(k,u,v',q2)],_,_,_,rfl,aB,Rts.upd er13 ((hR.same s413).app (.cons et ((s11.trans (s12.trans s13)).fq fz2) .nil)),fun d hd=>?_,by rw[List.length_append,hlen];rfl⟩;rcases mem_append.mp hd with z | z
 ·exact hK d z
 ·have:d=(k,u,v',q2):=by simpa using z
  subst this;exact⟨⟨u0,um,v0,vm⟩,szq⟩
theorem Y80:DZ 12 Z.f80 Z.d80 ["_law_word","_law_net_here","_law_k"] (rW Z.c_Net Z.c_NoRow Z.c_Ring Z.c_Floats Z.K) "_law_refusal":=by
 refine⟨?_,F80.b3 _ _ _ (by intros;rfl),F80.kp,m80⟩
 refine F80.ok Iw (fun vs H Q E h=>?_) fun cdv A outer s H vs Q E hr h=>?_
 ·unfold rW at h;obtain⟨n,l,x,m,ds,nt,pt,hm1,m20,h40,hz,hA,wd,rfl,hw⟩:=h;rfl
 skip
 obtain⟨n,l,x,m,ds,nt,pt,hm1,m20,h40,hz,hA,wd,rfl,hw⟩:=h;have r6:=hr.mono (show 6<=11 by lia);have r9:=hr.mono (show 9<=11 by lia);obtain⟨CO,mO,eP,eG,eF⟩:=oc.oe;refine⟨_,(aD (aR (i:=3) Iw.nd rfl (Or.inl rfl) zN)
  (aD (Zt ⟨rfl,rfl,rfl⟩ (nH (Px (bA eV (pv 0) bK (bH _)) (nH (vT (Im R61 ⟨rfl,rfl,rfl⟩ r6 rfl m61 F61.kp b61 .nil (aA (pv 1) (aA (pv 2) aC))))) (nH (Px (bA eV (pv 0) bK (bH _)) (nH (vT (Im R65 ⟨rfl,rfl,rfl⟩ r9 rfl m65 F65.kp b65 .nil (aA (pv 1) (aA (pv 2) aC))))) (nH (vT (Wr MWa R66 ⟨rfl,rfl,rfl⟩ hr rfl mc_Watch b66 .nil (aA (pv 1) aC)))))))) bO (qk8 (j:=4) ⟨rfl,rfl,rfl⟩ Iw.nd rfl rfl rfl (.inl mO) (fun a=>aF (aR (i:=3) Iw.nd rfl (Or.inl rfl) (pv 4))) Qf))
  (aF (aW (pv 3))))),?_⟩
 have RF:∀{H0:Hp} {E:XK} (s0:aS H H0) (q:QRf Z.c_Net Z.c_Ring Z.c_Floats Z.K H Q n l m ds),(∀C d H',W.exmOne Z.K (.ref C) (.ref CO)=some true->(∀a,H' a=none->Q (.ref a) (upd H' a (jN a (.ref C) d)))->E (.ref C) d H')->Rfs Z.c_Ring Z.c_Floats Z.K H0 E m ds:=fun s0 q hE=>⟨fun c r e dx p t us H' s' ed np ep st ft=>hE _ _ _ eG fun a ha=>by
   have sa:=aE ha (jN a (.ref Z.c_Ring) (some dx));exact q.rg c r e a dx p t us _ ((s0.trans s').trans sa) aB (sa _ _ ed) (sa _ _ ep) (st.same sa) (sa.fq ft),fun e1 e2 dx p H' s' ed np ep=>hE _ _ _ eF fun a ha=>by
   have sa:=aE ha (jN a (.ref Z.c_Floats) (some dx));exact q.fl e1 e2 a dx p _ ((s0.trans s').trans sa) aB (sa _ _ ed) (sa _ _ ep)⟩
 rcases hw with ⟨rfl,q1,q2⟩ | ⟨rfl,q1,q2⟩ | ⟨rfl,q2⟩
 ·refine⟨_,rfl,rfl,_,rfl,L2.ifT rfl ?_⟩;refine⟨_,rfl,_,rfl,n,l,x,m,ds,rfl,nt,pt,m20,h40,hA,fun ex a ha=>?_,fun ex v H' s'=>⟨_,rfl,q2 ex H' s'⟩⟩;refine⟨true,eP,?_⟩;rw[if_pos rfl];refine⟨_,rfl,?_⟩;exact⟨_,rfl,q1 ex a _ (aE ha _) aB⟩
 ·refine⟨_,rfl,rfl,_,rfl,L2.ifF (by decide +kernel) ?_⟩;refine⟨_,rfl,rfl,_,rfl,L2.ifT rfl ?_⟩;refine⟨_,rfl,_,rfl,n,l,x,m,ds,rfl,nt,pt,hm1,m20,h40,hz,hA,fun ex a ha=>?_,fun ex=>⟨RF (aS.refl _) (q2 ex) fun C d H' eC hq a ha=>?_,fun hR hF=>?_⟩⟩
  ·refine⟨true,eP,?_⟩;rw[if_pos rfl];refine⟨_,rfl,?_⟩;exact⟨_,rfl,q1 ex a _ (aE ha _) aB⟩
  ·refine⟨true,eC,?_⟩;rw[if_pos rfl];refine⟨_,rfl,?_⟩;exact⟨_,rfl,hq a ha⟩
  ·obtain⟨⟨b',kb,L,NB,_⟩,q3⟩:=(q2 ex).ok hR hF;exact⟨⟨b',kb,L,NB⟩,fun v H' s'=>⟨_,rfl,q3 H' s'⟩⟩
 ·refine⟨_,rfl,rfl,_,rfl,L2.ifF (by decide +kernel) ?_⟩;refine⟨_,rfl,rfl,_,rfl,L2.ifF (by decide +kernel) ?_⟩;refine⟨_,rfl,fun xw dxw hx0 hdx nxd=>?_⟩;have sm:=pO (C:=Z.c_Watch) hx0 hdx;refine⟨xw,dxw,n,l,m,ds,rfl,aB,nt.same sm,pt,hm1,m20,h40,hz,RF sm q2 fun C d H' eC hq a ha=>?_,fun hR hF=>?_⟩
  ·refine⟨true,eC,?_⟩;rw[if_pos rfl];refine⟨_,rfl,?_⟩;exact⟨_,rfl,hq a ha⟩
  ·obtain⟨⟨b',kb,L,NB,bw39,eR⟩,q3⟩:=q2.ok hR hF;exact⟨⟨b',kb,L,NB.same sm,bw39,eR⟩,fun lv H' sx _ _ _=>⟨rfl,_,rfl,q3 H' (Cg hx0 hdx sx)⟩⟩
theorem Y81:DZ 13 Z.f81 Z.d81 ["_law_net_here","_law_rows_here","_law_many","_law_k"] (Rp Z.c_Net Z.K) "_law_all":=⟨Xz (CX:=CX0) F81 Y80.G Y80.b F80.kp m80 Y78.G Y78.b F78.kp m78,F81.b4 _ _ _ _ (by intros;rfl),F81.kp,m81⟩
theorem X11:fM Z.K Z.c_Watch "heights" Z.f67:=⟨a67_0,i67,F67.kp⟩
theorem Rlaw:FZ CX0 14 Z.f82 (W.fnOf ("law") ("law") (dY yX) (cU yX) (aH yX) .none Z.kV82 Z.dc82 Z.pm82 Z.an82 Z.cd82 Z.ct82) ["_law_script"] (Ct Z.K):=by
 refine F82.ok9 nA fun cdv A outer s H vs Q E hr h=>?_;obtain⟨a,ns,rfl,hS,h63,q⟩:=h;have r1:=hr.mono (show 1<=13 by lia);have r2:=hr.mono (show 2<=13 by lia);have r3:=hr.mono (show 3<=13 by lia);have r4:=hr.mono (show 4<=13 by lia);have r5:=hr.mono (show 5<=13 by lia);have r6:=hr.mono (show 6<=13 by lia);have r10:=hr.mono (show 11<=13 by lia);have r12:=hr.mono (show 12<=13 by lia);have hu:=hr.units;refine⟨_,(aD (aR (i:=1) nA.nd rfl (Or.inl rfl) (bC gZ aG (bC Ex (aI Y68.G r1 rfl m68 F68.kp Y68.b .nil aM (aA (pv 0) (aA aG aC))) aG)))
  (aD (aR (i:=2) nA.nd rfl (Or.inl rfl) (aI Y79.G r2 rfl m79 F79.kp Y79.b .nil aM (aA (pv 0) (aA (pv 1) aC))))
  (aD (aR (i:=3) nA.nd rfl (Or.inl rfl) (aI Y73.G r6 rfl m73 F73.kp Y73.b .nil aM (aA (pv 1) (aA (pv 2) aC))))
  (aD (aR (i:=4) nA.nd rfl (Or.inl rfl) (aI Y68.G r1 rfl m68 F68.kp Y68.b .nil aM (aA (pv 0) (aA aG aC))))
  (aD (aR (i:=5) nA.nd rfl (Or.inl rfl) (aU bL (cB (aA (Cd wF aG) (aA (bM bU rfl n_len PySem.boot_len (aA (pv 2) aC)) (aA lW (aA zN (aA bK (aA (cS (aA aG (aA aG aC))) aC))))))) (aI Y69.G r1 rfl m69 F69.kp Y69.b .nil aM (aA (pv 4) (aA aG (aA aG aC)))) (fun _ _=>rfl)))
  (aD (eZ PassesOwn.never rfl (cO (cB (aA bK (aA bK aC)))) (aZ (i:=6) nA.nd rfl (Or.inl rfl))
   (aF (cJ (bA (Gi hu) (aI Y74.G r1 rfl m74 F74.kp Y74.b .nil aM (aA (aI Y80.G r12 rfl m80 F80.kp Y80.b .nil aM (aA (pv 6) (aA (pv 3) (aA (pv 5) aC)))) aC)) (cB (aA bK aC)) (bH _)) (aF (aW lW)) bO)))
  (aD (aR (i:=7) nA.nd rfl (Or.inl rfl) aG)
  (aD (cJ (bA (Gi hu) (pv 2) (cB aC) (bH _)) (aF (aR (i:=7) nA.nd rfl (Or.inl rfl) (aI Y69.G r1 rfl m69 F69.kp Y69.b .nil aM (aA (pv 4) (aA aG (aA (bM bU rfl n_len PySem.boot_len (aA (pv 2) aC)) aC)))))) bO)
  (aD (cJ (gX (fB (aI Y81.G hr rfl m81 F81.kp Y81.b .nil aM (aA (pv 3) (aA (pv 2) (aA (pv 1) (aA (pv 7) aC))))))) (aF (aW lW)) bO)
  (aD (eZ PassesOwn.never rfl (cO (aI Y77.G r4 rfl m77 F77.kp Y77.b .nil aM (aA (pv 2) (aA (pv 1) aC)))) (aZ (i:=8) nA.nd rfl (Or.inl rfl))
   (aD (bX (mB PySem.F.plainAttrs_list PySem.F.slot_list_append PySem.F.type_list_append dU (pv 2) (aA (cS (aA bK (aA (pv 8) (aA aG (aA (cS (aA aG (aA aG aC))) aC))))) aC)))
  (aF (bX (Iy (pv 3) NTx.cl X10 R32 r5 b32 .nil aM (aA (aI Y21.G r3 rfl m21 F21.kp Y21.b .nil aM (aA (aU bL (pv 2) (Cd wF aG) (fun _ _=>rfl)) aC)) aC))))))
  (aD (cJ (gX (fB (aI Y81.G hr rfl m81 F81.kp Y81.b .nil aM (aA (pv 3) (aA (pv 2) (aA (pv 1) (aA (pv 7) aC))))))) (aF (aW lW)) bO)
  (aD (cJ (qK (Jl (aI Y76.G r4 rfl m76 F76.kp Y76.b .nil aM (aA (pv 2) (aA (pv 1) aC))))) (aF (aW lW)) bO)
  (aD (aR (i:=9) nA.nd rfl (Or.inl rfl) (dD (jR MWa R66.calm r10 rfl WBx.mW b66 .nil aM (aA (pv 3) aC)) WBx.cl X11 R67 r2 b67 .nil aM))
  (aF (aW (jX (kR (i:=9) rfl (Or.inl rfl) bl.isi n_list rfl rfl PyProof.Rows.boot_list) (jX (gB eV (bM bU rfl n_len PySem.boot_len (aA (pv 9) aC)) (pv 1) (bH _)) (nV (gB (lB hu) (aU bL (pv 9) aG (fun _ _=>rfl)) (cS (aA aG (aA aG aC))) (bH _)))))))))))))))))))),?_⟩
 refine qV (fun σ' H'=>aS H H'/\∃m:Nat,1<=m/\m<=6/\σ'=[some (.ref a),some (.int (m:Int)),none,none,none,none,none,none,none,none]) (fun X hX=>?_) ?_
 ·refine⟨_,rfl,a,ns,0,0,rfl,rfl,hS,h63,fun c H1 s1=>?_⟩;have c0:=Int.emod_nonneg c (show (6:Int)≠0 by decide);have c1:=Int.emod_lt_of_pos c (show (0:Int) < 6 by decide);obtain⟨m,hm⟩:∃m:Nat,1+c % 6=(m:Int):=⟨(1+c % 6).toNat,by lia⟩
  exact⟨_,_,rfl,rfl,(show (0:Int) < 6 by decide),_,_,rfl,rfl,hX _ _ ⟨s1,m,by lia,by lia,by rw[<- hm];rfl⟩⟩
 rintro σ1 H1 ⟨s1,m,m68,m80,rfl⟩;refine⟨_,rfl,_,rfl,a,ns,m,rfl,s1.seq hS,h63,m68,by lia,fun r us ds H2 s2 nr er hR D l12=>?_⟩;refine⟨_,rfl,_,rfl,(m:Int),r,us,ds,rfl,by lia,by lia,SqL.of er,hR,fun d hd=>(D d hd).rd,by lia,fun n ln H3 s3 nln nt=>?_⟩;have lr:ln≠r:=fun z=>by rw[z,er] at nln;cases nln
 have s03:=s1.trans (s2.trans s3);refine⟨_,rfl,a,ns,2,2,rfl,rfl,s03.seq hS,h63,fun c H4 s4=>?_⟩;have s24:=s3.trans s4;have er4:=s24 _ _ er;have hR4:=hR.same s24;have nt4:=nt.same s4;have pt:∀d∈ds,cT (m:Int) d.2.1 d.2.2.1:=fun d hd=>(D d hd).pt;have nr4:NR Z.c_Net Z.K H4 n ln r us m ds:=Xm m68 m80 (by lia) D nt4 (SqL.of er4) hR4;have lus:=hR.length;clear hS h63 s03 s3 s4 s24 nt er hR
 try dsimp only
 refine qV (fun σ' H'=>aS H4 H'/\∃x:V,σ'=[some (.ref a),some (.int (m:Int)),some (.ref r),some (.ref n),some (.int c),some x,none,none,none,none]/\(∀H'',aS H' H''->vX Z.K H'' x)/\iL (ds.length:Int) x=false) (fun X hX=>?_) ?_
 ·refine⟨1,rfl,_,rfl,r,us,rfl,.inl (SqL.of er4),zl9 2,fun t ht=>?_⟩;have s5:=aE ht (.tup [.int 0,.int 1]);have e5:upd H4 t (.tup [.int 0,.int 1]) t=some (.tup [.int 0,.int 1]):=aB;generalize upd H4 t (.tup [.int 0,.int 1])=H5 at s5 e5 ⊢;refine⟨zl9 6,fun L hL=>?_⟩;have s6:=aE hL (.lst [V.int (-1),.int (us.length:Int),.bl true,.non,.str "0",.ref t]);have e6:upd H5 L (.lst [V.int (-1),.int (us.length:Int),.bl true,.non,.str "0",.ref t]) L=some (.lst [V.int (-1),.int (us.length:Int),.bl true,.non,.str "0",.ref t]):=aB;generalize upd H5 L (.lst [V.int (-1),.int (us.length:Int),.bl true,.non,.str "0",.ref t])=H6 at s6 e6 ⊢;refine⟨_,rfl,c,1,6,rfl,by lia,by lia,by lia,fun j H7 j0 j6 s7=>?_⟩;obtain⟨x,ex,hx,px⟩:=qc8 (K:=Z.K) us.length ((s6.trans s7) _ _ e5) j0 j6;exact⟨L,_,_,_,rfl,rfl,SqL.of (s7 _ _ e6),ex,hX _ _ ⟨s5.trans (s6.trans s7),x,rfl,hx,by rw[<- lus];exact px⟩⟩
 rintro σ5 H5 ⟨s5,x,rfl,hx,px⟩;have odd:∀(wd:Str) (H6:Hp) (s6:aS H5 H6) (Q1:VK),(wd = "block"\/wd = "shape")->(∀bl H7,aS H6 H7->H7 bl=some (jN bl (.ref Z.c_NoRow) none)->Q1 (.ref bl) H7)->rW Z.c_Net Z.c_NoRow Z.c_Ring Z.c_Floats Z.K [.str wd,.ref n,x] H6 Q1 E0:=fun wd H6 s6 Q1 hw go=>by
  have A:=nr4.same (s5.trans s6)
  skip
  refine⟨n,ln,x,m,ds,A.nt,A.pt,A.m1,A.m20,by have:=A.ln;lia,A.bd,hx _ s6,wd,rfl,?_⟩;rcases hw with rfl | rfl
  ·exact .inl ⟨rfl,fun _=>go,fun z=>absurd (px.symm.trans z) (by simp)⟩
  ·exact .inr (.inl ⟨rfl,fun _=>go,fun z=>absurd (px.symm.trans z) (by simp)⟩)
 try dsimp only
 refine qV (fun σ' H'=>aS H5 H'/\∃z6,σ'=[some (.ref a),some (.int (m:Int)),some (.ref r),some (.ref n),some (.int c),some x,z6,none,none,none]) (fun X hX=>?_) ?_
 ·refine⟨zl9 2,fun W hW=>?_⟩;have sW:=aE hW (.lst [.str "block",.str "shape"]);have eW:upd H5 W (.lst [.str "block",.str "shape"]) W=some (.lst [.str "block",.str "shape"]):=aB;generalize upd H5 W (.lst [.str "block",.str "shape"])=H6 at sW eW ⊢;refine⟨W,rfl,⟨_,SqL.of eW⟩,?_⟩;refine eK (xs:=[.str "block",.str "shape"]) (fun i σ H'=>aS H6 H'/\∃z6,σ=[some (.ref a),some (.int (m:Int)),some (.ref r),some (.ref n),some (.int c),some x,z6,none,none,none]) ⟨aS.refl _,none,rfl⟩ (fun i σ H' _ h=>SqL.of (h.1 _ _ eW)) ?_ ?_
  ·rintro i y σ H7 hy ⟨s7,z6,rfl⟩;obtain⟨wd,rfl,hwd⟩:∃wd:Str,y=.str wd/\(wd = "block"\/wd = "shape"):=by
    match i,hy with
    |0,e=>exact⟨_,(Option.some.inj e).symm,.inl rfl⟩
    |1,e=>exact⟨_,(Option.some.inj e).symm,.inr rfl⟩
   refine⟨_,rfl,_,rfl,_,rfl,?_⟩;refine odd wd H7 (sW.trans s7) _ hwd fun bl H8 s8 e8=>?_;refine⟨bl,Z.c_NoRow,none,3,"NoRow",rfl,⟨e8,fun dx e=>by cases e⟩,kP,rfl,fun l H9 s9 nl el=>?_⟩;refine⟨zl9 1,fun l2 hl2=>?_⟩;have sA:=aE hl2 (.lst [.str "NoRow"]);have eA:upd H9 l2 (.lst [.str "NoRow"]) l2=some (.lst [.str "NoRow"]):=aB;generalize upd H9 l2 (.lst [.str "NoRow"])=HA at sA eA ⊢;exact Vu (SqL.of (sA _ _ el)) (SqL.of eA) (by decide +kernel) ⟨_,rfl,L2.ifF rfl ⟨s7.trans (s8.trans (s9.trans sA)),_,rfl⟩⟩
  ·rintro σ H7 ⟨s7,z6,rfl⟩;exact hX _ _ ⟨sW.trans s7,z6,rfl⟩
 rintro σ6 H6 ⟨s6,z6,rfl⟩;clear odd hx px;have s46:=s5.trans s6;have nr6:=nr4.same s46
 try dsimp only
 refine Zm (fun σ' H'=>aS H6 H'/\∃k:Nat,σ'=[some (.ref a),some (.int (m:Int)),some (.ref r),some (.ref n),some (.int c),some x,z6,some (.int (k:Int)),none,none]/\(ds≠[]->k < ds.length)/\(ds=[]->k=0)) (fun X hX=>?_) ?_
 ·refine⟨_,rfl,zl9 0,fun e hE=>?_⟩;have s7:=aE hE (.lst []);have e7:upd H6 e (.lst []) e=some (.lst []):=aB;generalize upd H6 e (.lst [])=H7 at s7 e7 ⊢;have nr7:=nr6.same s7;refine zB nr7.sl nr7.rt (SqL.of e7) ⟨_,rfl,?_⟩
  by_cases hd:ds=[]
  ·exact L2.ifF (by rw[hd];rfl) (hX _ _ ⟨s7,0,rfl,fun z=>absurd hd z,fun _=>rfl⟩)
  ·refine L2.ifT (by cases hx:ds with | nil=>exact absurd hx hd | cons y ys=>rfl) ?_;have lp:0 < us.length:=by rw[lus];exact length_pos_iff.mpr hd
   refine⟨_,rfl,_,rfl,r,us,rfl,.inl nr7.sl,?_⟩;refine⟨c,2,(us.length:Int),rfl,by lia,by lia,by lia,fun j H8 j0 j1 s8=>?_⟩;obtain⟨k,rfl⟩:∃k:Nat,j=(k:Int):=⟨j.toNat,by lia⟩
   exact hX _ _ ⟨s7.trans s8,k,rfl,fun _=>by lia,fun z=>absurd z hd⟩
 rintro σ7 H7 ⟨s7,k,rfl,hk,hk0⟩;have nr7:=nr6.same s7;refine⟨_,rfl,_,rfl,_,rfl,_,rfl,n,ln,r,us,m,k,ds,rfl,nr7,hk,fun H8 s8=>⟨_,rfl,L2.ifF rfl ?_⟩⟩;have nr8:=nr7.same s8;have er8:=s8 _ _ (s7 _ _ (s46 _ _ er4));have lf5:=Va m m68 ds;clear nr4 nr6 nr7 s46 s5 s6 s7 s8 er4 hR4 nt4
 try dsimp only
 refine Zm (fun σ' H'=>∃us' z8,σ'=[some (.ref a),some (.int (m:Int)),some (.ref r),some (.ref n),some (.int c),some x,z6,some (.int (k:Int)),z8,none]/\NR Z.c_Net Z.K H' n ln r us' m (ds++pcF (dC m ds))) (fun X hX=>?_) ?_
 ·refine⟨_,rfl,_,rfl,r,us,m,ds,rfl,nr8.sl,nr8.rt,pt,m68,nr8.m20,nr8.ln,nr8.lf,fun l H9 s9 nl el=>?_⟩;have er9:=s9 _ _ er8;have l_r:l≠r:=fun z=>by rw[z,er8] at nl;cases nl
  have l_n:l≠ln:=fun z=>by
   obtain⟨_,ts,e,_⟩:=nr8.nt;rw[z,e] at nl;cases nl
  have nr9:=nr8.same s9;refine⟨l,rfl,⟨_,SqL.of el⟩,?_⟩;refine eK (xs:=(dC m ds).map V.int) (fun i σ H'=>H' l=some (.lst ((dC m ds).map V.int))/\∃us' z8,σ=[some (.ref a),some (.int (m:Int)),some (.ref r),some (.ref n),some (.int c),some x,z6,some (.int (k:Int)),z8,none]/\H' r=some (.lst us')/\Rts Z.K H' us' (ds++pcF ((dC m ds).take i))/\cZ Z.c_Net Z.K H' n ln (m:Int) (ds++pcF ((dC m ds).take i))) ⟨el,us,none,rfl,er9,by simpa[pcF] using nr9.rt,by simpa[pcF] using nr9.nt⟩ (fun i σ H' _ h=>SqL.of h.1) ?_ ?_
  rotate_left
  ·rintro σ HA ⟨_,us',z8,rfl,erA,hRA,ntA⟩;rw[length_map,take_length] at hRA ntA;refine hX _ _ ⟨us',z8,rfl,Xm m68 m80 ?_ ?_ ntA (SqL.of erA) hRA⟩
   ·rw[List.length_append];unfold pcF;rw[length_map];lia
   ·intro d hd;rcases mem_append.mp hd with z | z
    ·exact D d z
    ·obtain⟨p,hp,rfl⟩:=mem_map.mp z;obtain⟨p',rfl,pm⟩:=Jv hp;exact d53 m68 (by lia) (by lia)
  rintro i y σ HA hy ⟨elA,us',z8,rfl,erA,hRA,ntA⟩;obtain⟨p,hp,rfl⟩:∃p,(dC m ds)[i]?=some p/\y=.int p:=by
   rw[getElem?_map] at hy
   cases h:(dC m ds)[i]? with
   |none=>rw[h] at hy;cases hy
   |some p=>rw[h] at hy;cases hy;exact⟨p,rfl,rfl⟩
  have hi:=(List.getElem?_eq_some_iff.mp hp).1;obtain⟨p',rfl,pm⟩:=Jv (mem_of_getElem? hp);have lA:=hRA.length;have lpc:(ds++pcF ((dC m ds).take i)).length<=16:=by
   rw[List.length_append];unfold pcF;rw[length_map,length_take];lia
  refine⟨_,rfl,.inl ⟨rfl,_,SqL.of erA⟩,_,rfl,zl9 2,fun z hz=>?_⟩;have sz:=aE hz (.tup [.int 5,.int 3]);have ez:upd HA z (.tup [.int 5,.int 3]) z=some (.tup [.int 5,.int 3]):=aB;generalize upd HA z (.tup [.int 5,.int 3])=HB at sz ez ⊢;refine⟨zl9 4,fun t ht=>?_⟩;have st:=aE ht (.tup [.str "piece",.int (p':Int),.int 0,.ref z]);have et:upd HB t (.tup [.str "piece",.int (p':Int),.int 0,.ref z]) t=some (.tup [.str "piece",.int (p':Int),.int 0,.ref z]):=aB;generalize upd HB t (.tup [.str "piece",.int (p':Int),.int 0,.ref z])=HC at st et ⊢;have sC:=sz.trans st;have erC:=sC _ _ erA;refine⟨r,us',.ref t,rfl,rfl,erC,bB (by lia),?_⟩;have TC:SqT Z.K HC t [.str "piece",.int (p':Int),.int 0,.ref z]:=SqT.of et;have FC:Fq Z.K HC z (5,3):=Fq.of (p:=(5,3)) (st _ _ ez);have RD1:Rts Z.K (upd HC r (.lst (us'++[.ref t]))) (us'++[.ref t]) ((ds++pcF ((dC m ds).take i))++[(.pc,(p':Int),0,(5,3))]):=Rts.upd erC ((hRA.same sC).app (.cons (k:=.pc) TC FC .nil));have xD:cD r HC (upd HC r (.lst (us'++[.ref t]))):=fun bl o h ne=>by rw[aQ ne];exact h
  have ntD:=(ntA.same sC).x erC xD lr;have elD:upd HC r (.lst (us'++[.ref t])) l=some (.lst ((dC m ds).map V.int)):=xD _ _ (sC _ _ elA) l_r;have TD:=xD.seqT erC TC;have FD:=xD.seqT erC FC;have erD:upd HC r (.lst (us'++[.ref t])) r=some (.lst (us'++[.ref t])):=aB;clear xD TC FC et ez erC sC st sz ntA hRA erA elA;generalize upd HC r (.lst (us'++[.ref t]))=HD at RD1 ntD elD TD FD erD ⊢;obtain⟨dn,hn⟩:=ntD.ob;refine⟨_,rfl,n,dn,_,rfl,hn,dE _ _ (by decide +kernel) (by decide +kernel),_,rfl,1,rfl,r,_,_,.ref t,rfl,rfl,SqL.of erD,?_,?_⟩
  ·exact Oz us' (.ref t)
  refine⟨t,_,_,_,_,rfl,TD,.pc,rfl,fun y HE sE ny rw=>?_⟩;have d5:=d53 (m:=m) (p:=(p':Int)) m68 (by lia) (by lia);refine⟨n,ln,y,z,(m:Int),_,.pc,(p':Int),0,(5,3),rfl,ntD.same sE,rw,sE.fq FD,d5.rd,by lia,fun HF xF ntF=>?_⟩;have tk:(dC m ds).take (i+1)=(dC m ds).take i++[(p':Int)]:=by rw[take_add_one,hp];rfl
  have pk:ds++pcF ((dC m ds).take (i+1))=(ds++pcF ((dC m ds).take i))++[(.pc,(p':Int),0,(5,3))]:=by rw[tk];unfold pcF;rw[map_append,List.append_assoc];rfl
  obtain⟨ts,hts,_⟩:=(ntD.same sE).ls;refine⟨xF _ _ (sE _ _ elD) l_n,us'++[.ref t],_,rfl,xF _ _ (sE _ _ erD) (Ne.symm lr),?_,?_⟩
  ·rw[pk];exact cD.rts hts xF (RD1.same sE)
  ·rw[pk];exact ntF
 rintro σ8 H9 ⟨us',z8,rfl,nr9⟩;refine⟨_,rfl,_,rfl,_,rfl,_,rfl,n,ln,r,us',m,k,_,rfl,nr9,fun ne=>?_,fun HA sA=>⟨_,rfl,L2.ifF rfl ?_⟩⟩
 ·by_cases hd:ds=[]
  ·rw[hk0 hd];exact length_pos_iff.mpr ne
  ·rw[List.length_append];have:=hk hd;lia
 have nrA:=nr9.same sA;have fd0:=Sb m68 pt nrA.pt;generalize ds++pcF (dC m ds)=es at nrA fd0 ⊢;refine⟨_,rfl,_,rfl,r,us',m,es,rfl,nrA.sl,nrA.rt,nrA.pt,nrA.m20,nrA.ln,nrA.lf,fun hR0 HB sB=>⟨_,rfl,L2.ifF rfl ?_⟩,fun c rr hc t z p HB sB T F82 lo hv=>⟨_,rfl,L2.ifT rfl (q HB)⟩⟩;have nrB:=nrA.same sB;refine⟨_,rfl,fun xw dxw hx0 hdx nxd=>?_⟩;have sm:=pO (C:=Z.c_Watch) hx0 hdx;refine⟨xw,dxw,n,ln,m,es,rfl,aB,nrB.nt.same sm,nrB.pt,m68,nrB.m20,by have:=nrB.ln;lia,nrB.bd,⟨fun c r e=>absurd (hR0.symm.trans e) (by simp),fun _ e=>absurd fd0 e⟩,fun hR hF=>⟨(nrB.ok hR hF).same sm,fun lv HC sx hh hl WS=>⟨rfl,?_⟩⟩⟩;obtain⟨dw,aw,nw,fl,hw,AT⟩:=WS;refine⟨xw,dw,_,rfl,hw,Qu _ _ (by decide +kernel) (by decide +kernel),xw,lv,rfl,⟨dw,aw,nw,fl,hw,AT⟩,fun l xs HD sD nl el Fl=>?_⟩;refine⟨_,_,true,rfl,.lst (SqL.of el),rfl,_,rfl,gC ?_⟩;have lx:=Fl.length;refine⟨_,rfl,l,xs,rfl,.inl (SqL.of el),_,rfl,rfl,_,rfl,L2.ifT (by rw[lx,hl];simp) ?_⟩;obtain⟨v,ev,fv⟩:∃v,xs[0]?=some (.ref v)/\Fq Z.K HD v (0,1):=by
  cases Fl with
  |nil=>cases hh
  |cons Z.f82 r=>cases hh;exact⟨_,rfl,Z.f82⟩
 refine⟨_,rfl,l,xs,0,_,rfl,rfl,SqL.of el,bQ (j:=0) ev,zl9 2,fun t ht=>?_⟩;have sE:=aE ht (.tup [.int 0,.int 1]);have eE:upd HD t (.tup [.int 0,.int 1]) t=some (.tup [.int 0,.int 1]):=aB;generalize upd HD t (.tup [.int 0,.int 1])=HE at sE eE ⊢;refine Td (sE.fq fv) (Fq.of (p:=(0,1)) eE) ?_;exact q HE
end
theorem Yy (c:CZ){fa:Addr}(hfa:c.mg "law"=some (.ref fa))(h:GZ c):
  ∃fd:FuncData,(∀(s:Shared) (v:Value),BindsTo s fd ⟨[v],[]⟩ [("_law_script",v)])/\∀base:Heap,c.K.In base->base.Ns mainGlobals c.mg->aK c.P c.w c.K c.mg base CX0 14 fa fd ["_law_script"] (Ct c.K):=by
 have e:=hfa.symm.trans h.m82
 cases e
 refine⟨W.fnOf "law" "law" (dY yX) (cU yX) (aH yX) .none c.kV82 c.dc82 c.pm82 c.an82 c.cd82 c.ct82,fun s v=>.of_eq rfl,fun base _ _=>?_⟩
 refine Classical.byContradiction fun n=>?_
 have e:=Classical.epsilon_spec (p:=fun x:CZ×Heap=>GZ x.1/\¬OZ x.1 x.2) ⟨(c,base),h,n⟩
 have i:GZ Z:=by unfold Z;exact e.1
 have j:=@Rlaw i
 unfold FZ Z ZB at j;exact e.2 j
theorem qn3 {l:W.OpenLaw}{XP:(Str->Option Value)->Heap->Prop}{K:Params->Frag}(hn:l.most=some 63)(hdf:d.params.defaults=[])(hY:∀(w:World) (h:Heap),YP w h->(K w.params).In h)(F:∀(w:World) (mg:Str->Option Value) (fa:Addr) (h:Heap),(K w.params).In h->h.Ns mainGlobals mg->mg d.name=some (.ref fa)->
   ∃fd:FuncData,(∀(s:Shared) (u:Value),BindsTo s fd ⟨[u],[]⟩ [("_law_script",u)])/\∀base:Heap,(K w.params).In base->base.Ns mainGlobals mg->aK l.prog w (K w.params) mg base CX0 14 fa fd ["_law_script"] (Ct (K w.params))):
  W.WalkO q loose XP YP l.row.toRowW d [] (fun f vs=>PySem.call f vs):=
 L2.Ty (n:=63) (k:=14) (x:="_law_script") (CX:=fun _=>CX0) (sp:=fun w=>Ct (K w.params)) hn (by decide) hdf ⟨rfl,by decide,by decide⟩ hY F (fun _ _ a ns hl _ hS=>⟨a,ns,rfl,hS,hl,fun _=>rfl⟩) fun _ _ _ _ _ z=>z
end K76
local macro_rules | `(tactic| walk_at "F9")=>`(tactic| (refine' L2.tQ ?l9 ?c9 ?kk9;(case l9=>k_is);(case c9=>k_is);(case kk9=>show _=_;k_is)))
namespace PySem.W.Fast
noncomputable section
def Q:=Nat
def tw7652836796466972499:=Q
def tw593833778834576648:=Q
def tw5201479084033434017:=Q
def tw9965835410656887550:=Q
def tw12981484416804064653:=Q
def tw5832894340097728024:=Q
def tw17529054737124201263:=Q
def tw10374610137055110317:=Q
def tw14484863816468543264:=Q
def tw12837780358739510461:=Q
def tw5143929588309077537:=Q
def tw10475948872425506536:=Q
def tw10202904660788173066:=Q
def tw15665313917522872796:=Q
def tw5694704730558246950:=Q
def tw188609600804637845:=Q
def tw8757107887813980403:=Q
def tw10096173140349698439:=Q
def tw12126926036067002749:=Q
def tw8589163751825408084:=Q
def tw6968626284406850694:=Q
def tw4414934495637420513:=Q
def tw5018459362002163707:=Q
def tw3674986694818498589:=Q
def tw2576485394403338378:=Q
def tw7382351541163459874:=Q
def tw7340363637918863100:=Q
def tw13380831445233342257:=Q
def tw8338458876092874385:=Q
def tw3246911054277377702:=Q
def tw13901855453560346643:=Q
def tw4894558389555602999:=Q
def tw15195339578907985459:=Q
def tw7872168371919659411:=Q
def tw7454634673731952022:=Q
def tw4723907515716309470:=Q
def tw15844950120759753049:=Q
def tw17576724691605692740:=Q
def tw708347053283076280:=Q
def tw15690722981375803664:=Q
def tw12530981430868435518:=Q
def tw10039834470832248085:=Q
def tw14058290555927494286:=Q
def tw95594804569643803:=Q
def tw17977529041523215295:=Q
def tw4600552440387083082:=Q
def tw1760365054637077060:=Q
def tw3468830121947578059:=Q
def tw17608132467299259643:=Q
def tw3366697746031261018:=Q
def tw3577276842502308704:=Q
def tw12120437011791713963:=Q
def tw1681574285237043090:=Q
def tw8395943651434848070:=Q
def tw5099441680947814561:=Q
def tw13587067005373494562:=Q
def tw17059716182877754929:=Q
def tw7040109912109011159:=Q
def tw8231760378620726094:=Q
def tw16572421150510583170:=Q
def tw2850089589312412032:=Q
def tw8276509979822669771:=Q
def tw7521700438809805620:=Q
def tw17618068592774121721:=Q
def tw4863109381937164196:=Q
def tw11267843568154357104:=Q
def tw7302806382510595583:=Q
def tw17460045943900582090:=Q
def tw12905823957994047806:=Q
def tw10193516148197492467:=Q
def tw15239356136346665052:=Q
def tw9436342232917737648:=Q
def tw4548019977538438183:=Q
def tw17025172276822173974:=Q
def tw17040179506179240481:=Q
def tw2582278533072556872:=Q
def tw4489346995526427353:=Q
def tw3011727918638010190:=Q
def tw10638602480024741127:=Q
def tw15191083293524063410:=Q
def tw892864447721093129:=Q
def tw3543507843838232702:=Q
def tw16943135965977777191:=Q
def tw16095906123159560404:=Q
def tw5145041426865548115:=Q
def tw1520051521823352261:=Q
def tw13188971925459394641:=Q
def tw1755909214115948880:=Q
def tw7919667675459065405:=Q
def tw15201987861891194910:=Q
def tw7404498503128862709:=Q
def tw14608330469586218513:=Q
def tw12565359578975949387:=Q
def tw9183125416616347916:=Q
def tw13530515311619463451:=Q
def tw7259995103464876481:=Q
def tw17864919797201022982:=Q
def tw772335001886668795:=Q
def tw2601413285382847197:=Q
def tw8272463265507020207:=Q
def tw4133904961491697423:=Q
def tw14610721755406807245:=Q
def tw17963121039582594115:=Q
def tw18265175006459194518:=Q
def tw11490781419079786900:=Q
def tw9503408043104430185:=Q
def tw10704482557283822103:=Q
def tw6826271676279877872:=Q
def tw14256071784503423256:=Q
def tw11747880991088333966:=Q
def tw9907277678375835758:=Q
def tw5384279968709426665:=Q
def tw13063357210187542854:=Q
def tw3637448913533832081:=Q
def tw14096515739979094252:=Q
def tw2466020333047414886:=Q
def tw13988976867667271795:=Q
def tw12214689261513568849:=Q
def tw5172788978887138605:=Q
def tw12241313350911808886:=Q
def tw9354452796324081312:=Q
def tw13469708518102209636:=Q
def tw2438661280692351132:=Q
def tw8214599338617565230:=Q
def tw12326012946968603443:=Q
def tw5445614710827664573:=Q
def tw10840509962762147138:=Q
def tw12951893322010910380:=Q
def tw12723702037591461084:=Q
def tw10760129354458111637:=Q
def tw11646653321038490642:=Q
def tw10358880785277207979:=Q
def tw7984505158126472442:=Q
def tw8621845702813877748:=Q
def tw17067008097714356543:=Q
def tw12433146319377961976:=Q
def tw4721361325777788402:=Q
def tw6631214990981101220:=Q
def tw18054714064381105597:=Q
def tw190796505278246659:=Q
def tw8886538873998608992:=Q
def tw16229834800138301543:=Q
def tw4321279843655271129:=Q
def tw4563527712845097770:=Q
def tw2551778054876466624:=Q
def tw5902569806258180803:=Q
def tw10177933918730583266:=Q
def tw11907334660272713786:=Q
def tw1379695758482149816:=Q
def tw10786682555812603663:=Q
def tw3921055696669513398:=Q
def tw18314870129980801115:=Q
def tw17154648148032605706:=Q
def tw5651890725342961592:=Q
def tw10143173443660316229:=Q
def tw4676479126691004797:=Q
def tw802270539879607876:=Q
def tw14388679129697915034:=Q
def tw213762452710589277:=Q
def tw18054701215447087658:=Q
def tw6183426491621638510:=Q
def tw10418419547167816527:=Q
def tw18279458840402919775:=Q
def tw5649855867113916731:=Q
def tw1781015163487021150:=Q
def tw1197028360551084256:=Q
def tw6636976510884575721:=Q
def tw14748698328366899270:=Q
def tw1102306417198293792:=Q
def tw4628029283516683681:=Q
def tw5405462500871525031:=Q
def tw9282486431891169677:=Q
def tw3851719834011222325:=Q
def tw10789010165952483033:=Q
def tw1280165079651074426:=Q
def tw11983342916762542191:=Q
def tw12084245176865171310:=Q
def tw16875122987589986567:=Q
def tw12369058008481987923:=Q
def tw7838849844121082731:=Q
def tw9486122831264479238:=Q
def tw17998321727673430618:=Q
def tw14332513411012417087:=Q
def tw10539903023833761595:=Q
def tw5052069255939189883:=Q
def tw2371546766007297114:=Q
def tw6571736344946248085:=Q
def tw17839017615773966807:=Q
def tw6619631625060438383:=Q
def tw12992840373204676947:=Q
def tw10985009723764952130:=Q
def tw15314259138343211403:=Q
def tw2285671497881695470:=Q
def tw6726593786899205011:=Q
def tw252738263659224696:=Q
def tw6367267594148129678:=Q
def tw7807587444927500811:=Q
def tw7213575007896088821:=Q
def tw7922500224380661111:=Q
def tw3094753060348627159:=Q
def tw1992634669577520678:=Q
def tw8337396996130704581:=Q
def tw15533819190589224696:=Q
def tw2461758250993966230:=Q
def tw13939070483940483008:=Q
def tw6535569908139086516:=Q
def tw12887116042587499400:=Q
def tw1762193383886348635:=Q
def tw9087325448080914246:=Q
def tw15373552049694017391:=Q
def tw13340223919031008692:=Q
def tw2189252496573049808:=Q
def tw3480171748473075409:=Q
def tw9828148907047387209:=Q
def tw3396412227496842604:=Q
def tw12734469044200455889:=Q
def tw8964481671715558629:=Q
def tw16083168464973714464:=Q
def tw13791870019493246464:=Q
def tw15397354143677920128:=Q
def tw10743977975941979322:=Q
def tw205200521989844859:=Q
def tw146727362327045602:=Q
def tw13378763800402290561:=Q
def tw2823725566249702926:=Q
def tw5460165035432784618:=Q
def tw10686667768943314714:=Q
def tw17888019066324717078:=Q
def tw16491629354550069744:=Q
def tw16852311170564732777:=Q
def tw13285857652967166332:=Q
def tw17870920859093055035:=Q
def tw11541404569522179985:=Q
def tw18446278930341484873:=Q
def tw18240149947389925132:=Q
def tw18137911682678250586:=Q
def tw17351014252714825640:=Q
def tw5736285753384189185:=Q
def tw2752164469428219923:=Q
def tw7422073596218194195:=Q
def tw887243407643598936:=Q
def tw13403405098116570760:=Q
def tw6587070470835436698:=Q
def tw15508481870434823316:=Q
def tw11674736912574611077:=Q
def tw670244515087841905:=Q
def tw12203980840237190727:=Q
def tw7592811003099702675:=Q
def tw8093260436495412662:=Q
def tw12057025477164097862:=Q
def tw15547256128215827768:=Q
def tw14862091341195004139:=Q
def tw16115699660559492542:=Q
def tw10182471288611263008:=Q
def tw12327275815385228961:=Q
def tw3631851868575897885:=Q
def tw3504827116178550546:=Q
def tw16757577388672723850:=Q
def tw6994571788890283091:=Q
def tw17317279187075589614:=Q
def tw13786325385403902245:=Q
def tw2158292769356529827:=Q
def tw15112173846157283131:=Q
def tw10618559180751017607:=Q
def tw15673786804152207284:=Q
def tw5389382373648138994:=Q
def tw7492288323265403427:=Q
def tw717609440788596236:=Q
def tw15208452236508404189:=Q
def tw13482481925896863516:=Q
def tw9686900932123617196:=Q
def tw4309764087570394426:=Q
def tw18440369048414097040:=Q
def tw13768660461865064629:=Q
def tw4026751272774973901:=Q
def tw668316105080888165:=Q
def tw16530264699342236501:=Q
def tw8838197466341389218:=Q
def tw173234733646179592:=Q
def tw974746031063673992:=Q
def tw2940256486965332596:=Q
def tw9816776319527452926:=Q
def tw13928746819432255117:=Q
def tw16687447767356190743:=Q
def tw8435345278928180194:=Q
def tw17966329969516987020:=Q
def tw13638602325925076362:=Q
def tw15681461513380355216:=Q
def tw1507665891731677713:=Q
def tw5516801000627004758:=Q
def tw1278871767416695254:=Q
def tw5706917151911340427:=Q
def tw2969758392256096843:=Q
def tw121884448147954696:=Q
def tw14772992473417918713:=Q
def tw12440483598224707738:=Q
def tw2448272823131937329:=Q
def tw16649633045863536627:=Q
def tw13975068883646906979:=Q
def tw16905081179368575484:=Q
def tw18248123301541476150:=Q
def tw3541318354672380601:=Q
def tw11526384290343813273:=Q
def tw12818609572135407638:=Q
def tw10239191966544209034:=Q
def tw12106513233808263612:=Q
def tw4146046675716246100:=Q
def tw10963374314054114239:=Q
def tw10468717928960683104:=Q
def tw2095978885977273986:=Q
def tw13726542352931672980:=Q
def tw18247192931456285610:=Q
def tw5482957689686237696:=Q
def tw11371649021758871259:=Q
def tw838073710847304730:=Q
def tw14690937670023112441:=Q
def tw9074971700074587357:=Q
def tw10230395348560032997:=Q
def tw18367176072377034889:=Q
def tw17030496416083851578:=Q
def tw14962829485400534724:=Q
def tw16315220153083916068:=Q
def tw4766176408997954418:=Q
def tw15538296633649492295:=Q
def tw12906852698054132764:=Q
def tw13363005853499652191:=Q
def tw6867192773213299132:=Q
def tw4218512442760908744:=Q
def tw4322072777516711052:=Q
def tw1045900546685335642:=Q
def tw5419203428179238496:=Q
def tw16510596990993460293:=Q
def tw6212925383920320301:=Q
def tw2342462208286991160:=Q
def tw8357443375109397993:=Q
def tw8351032184496137791:=Q
def tw1804963181766519540:=Q
def tw16860077523273437831:=Q
def tw17611477203299536802:=Q
def tw2238149631370338974:=Q
def tw14407688793199478806:=Q
def tw12435096935640785599:=Q
def tw5263721181362000179:=Q
def tw17084661558173056481:=Q
def tw1603671275018192673:=Q
def tw10609628518464249194:=Q
def tw17884635550500169460:=Q
def tw17495012537896837465:=Q
def tw14677763439519187483:=Q
def tw5519256118899394590:=Q
def tw14737154425976891887:=Q
def tw8566307252914070347:=Q
def tw7331727607415345817:=Q
def tw4083971649471767612:=Q
def tw6690343766479767418:=Q
def tw3548542131805838562:=Q
def tw14054224643261229755:=Q
def tw2163737587259740861:=Q
def tw7382091340490358921:=Q
def tw5950916784451482091:=Q
def tw15764114876578969101:=Q
def tw5206741231919627125:=Q
def tw10279723923915287093:=Q
def tw17559054316773598963:=Q
def tw1478849868944261594:=Q
def tw10072690081622897945:=Q
def tw1441715941793664916:=Q
def tw15143780265282601853:=Q
def tw13314600772717514225:=Q
def tw13187430939298587949:=Q
def tw8935591176278406954:=Q
def tw11597231898222155678:=Q
def tw13757100848322973451:=Q
def tw6700033484912560827:=Q
def tw17800481669447252240:=Q
def tw2666599665650511422:=Q
def tw7789082700283674936:=Q
def tw2141797460481195450:=Q
def tw7266038245642280610:=Q
def tw11906548835066287791:=Q
def tw4267511309879495484:=Q
def tw14292568633822592635:=Q
def tw10040947605911912318:=Q
def tw7483188676530514399:=Q
def tw2643977879366436093:=Q
def tw2045816027942493967:=Q
def tw12759164220835965232:=Q
def tw2126204586446994454:=Q
def tw1569071374740028185:=Q
def tw12003529775016066919:=Q
def tw7990910168207466976:=Q
def tw4248715976011882352:=Q
def tw2343402669988368165:=Q
def tw5910871760189365047:=Q
def tw8165006675737585154:=Q
def tw7679792830357812749:=Q
def tw18391841657818620190:=Q
def tw6975410028682925058:=Q
def tw13360643904023591441:=Q
def tw15052608991968780969:=Q
def tw12231565441507077720:=Q
def tw2685974337790670701:=Q
def tw1753238830986893327:=Q
def tw501207354773613502:=Q
def tw6592361681416720078:=Q
def tw5186893648252014938:=Q
def tw11875375237379224345:=Q
def tw3728557594424736979:=Q
def tw16395510957454883243:=Q
def tw4079823165876385204:=Q
def tw15808301480797346747:=Q
def tw425425216429185179:=Q
def tw6948693266176354207:=Q
def tw11034116000232499931:=Q
def tw10230691227635647170:=Q
def tw14367699125604133346:=Q
def tw7169465329340034831:=Q
def tw766926427197805730:=Q
def tw15212273375575215463:=Q
def tw11816768014732273712:=Q
def tw1103298934522987791:=Q
def tw14538251281084888834:=Q
def tw16934398519932194624:=Q
def tw12567613166973412401:=Q
def tw15420816710488724804:=Q
def tw8092540292448110073:=Q
def tw53078928991940866:=Q
def tw16581898382122233283:=Q
def tw14986638853486094066:=Q
def tw1284468504500010316:=Q
def tw8919589392804915609:=Q
def tw11127921895420299456:=Q
def tw755190463345433242:=Q
def tw18244651292861055332:=Q
def tw15351373977787888360:=Q
def tw12172234774538508954:=Q
def tw8043811012999707257:=Q
def tw4050358540966436551:=Q
def tw5761068356100399605:=Q
def tw14127258093260919322:=Q
def tw17447662570539907936:=Q
def tw210160932555333470:=Q
def tw339117623265840962:=Q
def tw2531682329993261800:=Q
def tw6997109944537417917:=Q
def tw8980856360422515160:=Q
def tw4610253698288137054:=Q
def tw4604450424033817600:=Q
def tw11647465341384739757:=Q
def tw17306831681916007777:=Q
def tw18293129115036385799:=Q
def tw12796731727016924534:=Q
def tw11933112045262003109:=Q
def tw12326581313792530611:=Q
def tw654084644632138626:=Q
def tw10827851344805586040:=Q
def tw11390670768607375665:=Q
def tw13971085037739435629:=Q
def tw6143285130049494348:=Q
def tw16102770725096532393:=Q
def tw13321593978745356921:=Q
def tw14006818765412974505:=Q
def tw3288354874709513998:=Q
def tw4062645307797984611:=Q
def tw9037683167759845354:=Q
def tw13055545899820655331:=Q
def tw11950407937162878617:=Q
def tw13573344646897257619:=Q
def tw3236767517828816942:=Q
def tw2842032295934512602:=Q
def tw5353791692258403661:=Q
def tw9754016283211046756:=Q
def tw399274479029572417:=Q
def tw15289096091164375336:=Q
def tw11665941301730609417:=Q
def tw15043452112375784950:=Q
def tw1075313035766658638:=Q
def tw9160222080283001490:=Q
def tw6921068469982637468:=Q
def tw10280498029039260893:=Q
def tw11185374620786764819:=Q
def tw4534891609935112086:=Q
def tw7889307966948792059:=Q
def tw142805241778459312:=Q
def tw6248404904814657245:=Q
def tw17141533210100401731:=Q
def tw17627146595537402070:=Q
def tw2317006549996940003:=Q
def tw11497718314227587645:=Q
def tw5223733998070747612:=Q
def tw1311066522528145964:=Q
def tw13058521041338694402:=Q
def tw647775993622417985:=Q
def tw12948092237787796172:=Q
def tw14766828030387028599:=Q
def tw6046529429901950066:=Q
def tw2412263175321923539:=Q
def tw11190197928779110198:=Q
def tw359348011585735426:=Q
def tw2302716740893662848:=Q
def tw1215059251260366882:=Q
def tw13807855943241843776:=Q
def tw6530258777315712519:=Q
def tw1225987177729003184:=Q
def tw15831004383721935440:=Q
def tw813162693290071281:=Q
def tw11041149464103379455:=Q
def tw13150887047812846991:=Q
def tw832589465161421612:=Q
def tw728942763614209140:=Q
def tw15916958170882808942:=Q
def tw5192379651241766948:=Q
def tw7237917476151123528:=Q
def tw2024476294838879019:=Q
def tw9316181617654432724:=Q
def tw7374553156551047269:=Q
def tw1767218692968591225:=Q
def tw3398213223712425617:=Q
def tw6937562907546427072:=Q
def tw1008387345845541403:=Q
def tw13188124319436721923:=Q
def tw377334484614458516:=Q
def tw40263751644760401:=Q
def tw9943293739369874061:=Q
def tw14763322956486967339:=Q
def tw7808847114896631988:=Q
def tw1607703058047005592:=Q
def tw2466488016490509270:=Q
def tw4398500324054505248:=Q
def tw9612605932559632763:=Q
def tw1913190666138139829:=Q
def tw15999570268884265851:=Q
def tw5344481888309974973:=Q
def tw15352230099713999885:=Q
def tw17753766201272388321:=Q
def tw16174116966454745288:=Q
def tw5544232175404422845:=Q
def tw13783756847641290834:=Q
def tw2614257082225582974:=Q
def tw10356537899451998920:=Q
def tw13893656946155460039:=Q
def tw12713143641398133967:=Q
def tw579474830313161245:=Q
def tw4650748948704333684:=Q
def tw15729480757200878518:=Q
def tw17381345983772587228:=Q
def tw16023328674648625835:=Q
def tw14013409499254992581:=Q
def tw13021662577302927373:=Q
def tw16434871136691048926:=Q
def tw6498929335911011852:=Q
def tw12859777134384134968:=Q
def tw17819043045596628652:=Q
def tw16085519806142248703:=Q
def tw15506528016390415609:=Q
def tw13928063352469027414:=Q
def tw11497302640496776071:=Q
def tw12054750040685198789:=Q
def tw16308121548527635400:=Q
def tw7931863811323389399:=Q
def tw11612928370440288198:=Q
def tw862474909989756654:=Q
def tw8539331531542646154:=Q
def tw16427513116098351266:=Q
def tw12988483588583130167:=Q
def tw10677105493986750820:=Q
def tw11293805713682026072:=Q
def tw3808239887503382166:=Q
def tw13916657162785021163:=Q
def tw7883469860364098445:=Q
def tw15153722753735607247:=Q
def tw12959345142575828222:=Q
def tw16130587102408466959:=Q
def tw6275181399964312202:=Q
def tw1760461580106988065:=Q
def tw1629982876540343890:=Q
def tw16998430733524128359:=Q
def tw18161614852317346686:=Q
def tw17630943539111481378:=Q
def tw16413309330296119868:=Q
def tw6970912412474924311:=Q
end
end PySem.W.Fast
open PySem PySem.W PyProof.Rows
set_option maxRecDepth 100000 in
set_option maxHeartbeats 0 in
theorem PySem.Challenge.cw_ohmyard_k76_refused_watch_holds : PySem.Challenge.rw_ohmyard_k76_refused_watch.Holds := by
  w_on; o_law; z_head; (case hw => w_witness2)
  k_fill
  refine L2.Oo (fun _ => by kernel_rfl) (K76.qn3 (l := PySem.Challenge.rw_ohmyard_k76_refused_watch) rfl rfl (fun w h Y => Y) ?F)
  case F =>
    intro w mg fa h KX G hmg
    refine' K76.Yy {P:=PySem.Challenge.rw_ohmyard_k76_refused_watch.prog,w:=w,mg:=mg,K:=PySem.Challenge.cw_ohmyard_k76_refused_watch_holds.heap_813 w.params,..} hmg (.mk ?_ ?_ ?_ ?_ ?_ ?_ ?_ ?_ ?_ ?_ ?_ ?_ ?_ ?_ ?_ ?_ ?_ ?_ ?_ ?_ ?_ ?_ ?_ ?_ ?_ ?_ ?_ ?_ ?_ ?_ ?_ ?_ ?_ ?_ ?_ ?_ ?_ ?_ ?_ ?_ ?_ ?_ ?_ ?_ ?_ ?_ ?_ ?_ ?_ ?_ ?_ ?_ ?_ ?_ ?_ ?_ ?_ ?_ ?_ ?_ ?_ ?_ ?_ ?_ ?_ ?_ ?_ ?_ ?_ ?_ ?_ ?_ ?_ ?_ ?_ ?_ ?_ ?_ ?_ ?_ ?_ ?_ ?_ ?_ ?_ ?_ ?_ ?_ ?_ ?_ ?_ ?_ ?_ ?_ ?_ ?_ ?_ ?_ ?_ ?_ ?_ ?_ ?_ ?_ ?_ ?_ ?_ ?_ ?_ ?_ ?_ ?_ ?_ ?_ ?_ ?_ ?_ ?_ ?_ ?_ ?_ ?_ ?_ ?_ ?_ ?_ ?_ ?_ ?_ ?_ ?_ ?_ ?_ ?_ ?_ ?_ ?_ ?_ ?_ ?_ ?_ ?_ ?_ ?_ ?_ ?_ ?_ ?_ ?_ ?_ ?_ ?_ ?_ ?_ ?_ ?_ ?_ ?_ ?_ ?_ ?_ ?_ ?_ ?_ ?_ ?_ ?_ ?_ ?_ ?_ ?_ ?_ ?_ ?_ ?_ ?_ ?_ ?_ ?_ ?_ ?_ ?_ ?_ ?_ ?_ ?_ ?_ ?_ ?_ ?_ ?_ ?_ ?_ ?_ ?_ ?_ ?_ ?_ ?_ ?_ ?_ ?_ ?_ ?_ ?_ ?_ ?_ ?_ ?_ ?_ ?_ ?_ ?_ ?_ ?_ ?_ ?_ ?_ ?_ ?_ ?_ ?_ ?_ ?_ ?_ ?_ ?_ ?_ ?_ ?_ ?_ ?_ ?_ ?_ ?_ ?_ ?_ ?_ ?_ ?_ ?_ ⟨(mg_none_of KX G ?_),(mg_none_of KX G ?_),(mg_none_of KX G ?_),(mg_none_of KX G ?_)⟩ ⟨L2.jC ⟨?_,?_,?_,?_⟩ ⟨?_,?_,?_,?_⟩ ⟨?_,?_,?_,?_⟩,L2.jC ?_ ?_ ?_,L2.jC ?_ ?_ ?_,L2.jC ?_ ?_ ?_,L2.jC ?_ ?_ ?_,?_,?_,L2.jC ?_ ?_ ?_,L2.jC ?_ ?_ ?_,L2.jC (L2.jC (L2.pT _ _) ?_ ?_) (L2.jC ?_ (L2.pT _ _) ?_) (L2.jC ?_ ?_ (L2.pT _ _)),(mg_of KX G ?_),L2.jC (mg_of KX G ?_) (mg_of KX G ?_) (mg_of KX G ?_)⟩ (L2.Fq.mod ?_) (L2.Fq.mod ?_) ⟨⟨?_,?_,?_,?_⟩,?_,?_,?_,?_,?_,?_,(mg_of KX G ?_)⟩ ⟨⟨?_,?_,?_,?_⟩,?_,?_,?_,(mg_of KX G ?_)⟩ ⟨⟨?_,?_,?_,?_⟩,?_,?_,(mg_of KX G ?_)⟩ (K76.Vy (mg_of KX G ?_) (mg_of KX G ?_) (mg_of KX G ?_) (mg_of KX G ?_) (mg_of KX G ?_) (mg_of KX G ?_) (mg_of KX G ?_) (mg_of KX G ?_) (mg_of KX G ?_) (mg_of KX G ?_) (mg_of KX G ?_) (mg_of KX G ?_) (mg_of KX G ?_)) ⟨_,(mg_of KX G ?_),?_,?_,?_⟩ ⟨?_,?_,?_,?_,?_⟩ ⟨⟨_,_,_,_,_,_,_,_,_,_,_,_,_,_,?_⟩,⟨_,_,_,_,_,_,_,_,_,_,_,_,_,_,_,?_⟩,?_,?_,?_⟩ ⟨⟨_,_,_,_,_,_,_,_,_,_,_,_,_,_,?_⟩,⟨_,_,_,_,_,_,_,_,_,_,_,_,_,_,_,?_⟩,?_,?_,?_⟩ ⟨?_,?_,?_⟩ ⟨?_,?_⟩ ⟨?_,?_⟩ ⟨?_,?_⟩ (L2.jC (⟨?_,?_,?_,?_⟩) (⟨?_,?_,?_,?_⟩) (⟨?_,?_,?_,?_⟩)) ⟨?_,?_,?_,?_⟩ ⟨?_,?_,?_,?_⟩ ⟨?_,?_,?_,?_⟩)
    any_goals first|(refine mg_of KX G ?_;k_is)|(refine mg_none_of KX G ?_;k_is)
    all_goals try dsimp only
    any_goals first|k_is|walk_at "F9"|kit_is|kts_exm|k_exc|(unfold L2.Nn;k_exc)|(show _=_;k_is)|rfl|decide
    any_goals first|k_is|walk_at "F9"|kit_is|kts_exm|k_exc|(unfold L2.Nn;k_exc)|(show _=_;k_is)|rfl|decide
