import PyProof.Rows.All
import Wide.All
import OpenK.AllK
import Wide.FinOn
import Lean
import PyProof.EqAt
import PyProof.EqKinds
import PyProof.TupleCall
import PyProof.Cells
import PyProof.SumWalkG
import PyProof.EnumStmt
import PyProof.EnumMake
import PyProof.InstStoreFacts
import KE.KDictList
import PySem.Challenge.RW_ohmyard_k69_whole_trees_by_trees
set_option Elab.async false
set_option linter.all false
set_option maxRecDepth 100000
open PySem.W (Frag)
set_option maxHeartbeats 4000000
open List
namespace L2
open PySem PySem.Spec PyProof.Rows
abbrev Key:=Sum Int Str
def vY:Key->Value->Bool
 | .inl k,v=>Value.isInt k v
 | .inr x,v=>Value.isStrOf x v
def qf9 (w:World):Key->Int
 | .inl k=>hashInt k
 | .inr x=>hashStr w x
theorem dI:∀{k:Key} {v:Value},vY k v=true->(∃i t,k=Sum.inl i/\v=Value.int i t)\/(∃x t,k=Sum.inr x/\v=Value.str x t)
 | .inl i,v,h=>by
  obtain⟨t,e⟩:=Value.isInt_shape (k:=i) (v:=v) h;exact .inl ⟨i,t,rfl,e⟩
 | .inr x,v,h=>by
  obtain⟨t,e⟩:=Value.isStrOf_shape (x:=x) (v:=v) h;exact .inr ⟨x,t,rfl,e⟩
theorem Iu (i:Int)(t:Tok):vY (.inl i) (.int i t)=true:=by simp[vY,Value.isInt]
theorem Hj (x:Str)(t:Tok):vY (.inr x) (.str x t)=true:=by simp[vY,Value.isStrOf]
theorem Vv (a b:Int):decide ((Sum.inl a:Key)=Sum.inl b)=(a == b):=by
 by_cases e:a=b
 ·subst e;simp
 ·have h:¬(Sum.inl a:Key)=Sum.inl b:=fun q=>e (Sum.inl.inj q);rw[decide_eq_false h];exact(beq_eq_false_iff_ne.mpr e).symm
theorem Xm (a b:Str):decide ((Sum.inr a:Key)=Sum.inr b)=decide (a=b):=by
 by_cases e:a=b
 ·subst e;simp
 ·have h:¬(Sum.inr a:Key)=Sum.inr b:=fun q=>e (Sum.inr.inj q);rw[decide_eq_false h,decide_eq_false e]
theorem Wr (a:Int)(b:Str):decide ((Sum.inl a:Key)=Sum.inr b)=false:=decide_eq_false (fun q=>nomatch q)
theorem Yc (a:Str)(b:Int):decide ((Sum.inr a:Key)=Sum.inl b)=false:=decide_eq_false (fun q=>nomatch q)
def dE (prog:Program)(w:World):PySem.KeyKind prog w Key where
 is:=vY
 hash:=qf9 w
 inj:=fun v a b ha hb=>by
  rcases dI ha with ⟨i,t,rfl,rfl⟩ | ⟨x,t,rfl,rfl⟩
  ·rcases dI hb with ⟨j,u,rfl,e⟩ | ⟨y,u,rfl,e⟩
   ·injection e with e1 _;rw[e1]
   ·exact nomatch e
  ·rcases dI hb with ⟨j,u,rfl,e⟩ | ⟨y,u,rfl,e⟩
   ·exact nomatch e
   ·injection e with e1 _;rw[e1]
 byValue:=fun k v h=>by
  rcases dI h with ⟨i,t,rfl,rfl⟩ | ⟨x,t,rfl,rfl⟩<;>rfl
 pyHash:=fun hv h=>by
  rcases dI hv with ⟨i,t,rfl,rfl⟩ | ⟨x,t,rfl,rfl⟩
  ·exact wpAny_pyHash_int h
  ·exact wpAny_pyHash_str h
 eqBool:=fun hu hv h=>by
  rcases dI hu with ⟨i,t,rfl,rfl⟩ | ⟨x,t,rfl,rfl⟩
  ·rcases dI hv with ⟨j,u,rfl,rfl⟩ | ⟨y,u,rfl,rfl⟩
   ·rw[Vv] at h;exact wpAny_eqBool_int h
   ·rw[Wr] at h;exact SeqAt.EqAt.int_str i t y u _ _ _ _ h
  ·rcases dI hv with ⟨j,u,rfl,rfl⟩ | ⟨y,u,rfl,rfl⟩
   ·rw[Yc] at h;exact SeqAt.EqAt.str_int x t j u _ _ _ _ h
   ·rw[Xm] at h;exact wpAny_eqBool_str h
 «strs»:=fun k x t v h=>by
  rcases dI h with ⟨i,u,rfl,e⟩ | ⟨y,u,rfl,e⟩
  ·exact nomatch e
  ·injection e with e1 _
   subst e1
   cases v<;>rfl
theorem Ag (prog:Program)(w:World)(i:Int)(t:Tok):(dE prog w).is (.inl i) (.int i t)=true:=Iu i t
theorem zU (prog:Program)(w:World)(x:Str)(t:Tok):(dE prog w).is (.inr x) (.str x t)=true:=Hj x t
inductive V where
 |non | bl (b:Bool) | int (i:Int) | str (x:Str) | byt (b:Array UInt8) | flt (b:UInt64) | ref (a:Addr) | ty (n:String)
 deriving DecidableEq
def bU:V->Value->Prop
 | .non,u=>u=Value.none
 | .bl b,u=>u=Value.bool b
 | .int i,u=>∃t,u=Value.int i t
 | .str x,u=>∃t,u=Value.str x t
 | .byt b,u=>∃t,u=Value.bytes b t
 | .flt b,u=>∃t,u=Value.float b t
 | .ref a,u=>u=Value.ref a
 | .ty n,u=>u=Value.type n
abbrev bQ:List V->List Value->Prop:=Paired bU
theorem bQ.length {xs:List V}{us:List Value}(r:bQ xs us):xs.length=us.length:=Paired.length r
theorem bQ.get:∀{xs:List V} {us:List Value} {i:Nat} {x:V},bQ xs us->xs[i]?=some x->∃u,us[i]?=some u/\bU x u
 |_,_,_,_,.nil,e=>by simp at e
 |_,_,0,_,.cons r _,e=>by simp at e;subst e;exact⟨_,rfl,r⟩
 |_,_,i+1,x,.cons _ t,e=>by
  obtain⟨u,h1,h2⟩:=bQ.get (i:=i) (x:=x) t (by simpa using e);exact⟨u,by simpa using h1,h2⟩
theorem bQ.set {x:V}{u:Value}(r:bU x u):∀{xs:List V} {us:List Value} (i:Nat),bQ xs us->bQ (xs.set i x) (us.set i u)
 |_,_,_,.nil=>.nil
 |_,_,0,.cons _ t=>.cons r t
 |_,_,i+1,.cons q t=>.cons q (bQ.set r i t)
theorem bQ.append:∀{xs ys:List V} {us ws:List Value},bQ xs us->bQ ys ws->bQ (xs++ys) (us++ws)
 |_,_,_,_,.nil,s=>s
 |_,_,_,_,.cons r t,s=>.cons r (bQ.append t s)
theorem bQ.take:∀{xs:List V} {us:List Value} (n:Nat),bQ xs us->bQ (xs.take n) (us.take n)
 |_,_,0,_=>.nil
 |_,_,_+1,.nil=>.nil
 |_,_,n+1,.cons r t=>.cons r (bQ.take n t)
theorem bQ.drop:∀{xs:List V} {us:List Value} (n:Nat),bQ xs us->bQ (xs.drop n) (us.drop n)
 |_,_,0,r=>r
 |_,_,_+1,.nil=>.nil
 |_,_,n+1,.cons _ t=>bQ.drop n t
def jN:Option V->Option Value->Prop
 |some v,some u=>bU v u
 |none,none=>True
 |_,_=>False
def KV {κ:Type}:List (κ × V)->List (κ × Value)->Prop:=Paired fun (p:κ × V) (q:κ × Value)=>p.1=q.1/\bU p.2 q.2
def kV:Key->V
 | .inl i=>.int i
 | .inr x=>.str x
inductive HO where
 |lst (xs:List V)
 |tup (xs:List V)
 |dK (kvs:List (Key × V)) | dT (kvs:List (List Key × V))
 |set (S:Int->Bool) (n:Nat)
 |ins (C dx:Addr) (fs:List (Str × V))
 |own (x:Addr)
 |xd (fs:List (Str × V))
 |met (f x:Addr)
 |rng (lo hi:Int)
 |frz (o:Obj) (u:HO)
 |tbl (ps:Array Value)
 |ext (φ:Heap->Prop)
abbrev Hp:=Addr->Option HO
def upd (H:Hp)(a:Addr)(o:HO):Hp:=fun b=>if b=a then some o else H b
theorem aD {H:Hp}{a:Addr}{o:HO}:upd H a o a=some o:=by unfold upd;rw[if_pos rfl]
theorem aW {H:Hp}{a b:Addr}{o:HO}(h:b≠a):upd H a o b=H b:=by unfold upd;rw[if_neg h]
theorem oC {H:Hp}{a:Addr}{o u:HO}:upd (upd H a o) a u=upd H a u:=by
 funext b;unfold upd;split<;>rfl
theorem kI {H:Hp}{a b:Addr}{o u:HO}(h:H a=some o)(h':H b=some u)(d:o≠u):a≠b:=by
 intro e;subst e;rw[h] at h';exact d (Option.some.inj h')
theorem bC {H:Hp}{a b:Addr}{o:HO}(h:H a=some o)(h':H b=none):a≠b:=by
 intro e;subst e;rw[h] at h';cases h'
section
variable (P:Program) (w:World)
def dL (H:Hp)(h:Heap)(a:Addr):HO->Prop
 | .lst xs=>xs.length<=sizeLine/\∃(its:List Value) (n:Nat),bQ xs its/\h.get? a=some { cls:=.type "list",data:=.seq its.toArray n }
 | .tup xs=>xs.length<=sizeLine/\∃its:List Value,bQ xs its/\IsTup h a its.toArray
 | .dK kvs=>kvs.length<=sizeLine/\(a == sysModules)=false/\∃vs,KV kvs vs/\h.DictOf (dE P w) a vs
 | .dT kvs=>kvs.length<=sizeLine/\(a == sysModules)=false/\∃xs:List (List Key × Addr × Value),
   Paired (fun (p:List Key × V) (q:List Key × Addr × Value)=>p.1=q.1/\H q.2.1=some (.tup (p.1.map kV))/\bU p.2 q.2.2) kvs xs/\
   ∃o es ep,h.get? a=some o/\o.ExactDict/\o.data=.dict es ep/\es.toList=xs.map (entryOfKey (tupleKind (dE P w)))/\(xs.map (·.1)).Nodup
 | .set S n=>h.SetOf (intKind P w) a S n
 | .ins C dx fs=>H dx=some (.own a)/\fs.length<=1000/\dx≠a/\h.get? a=some (W.instObj C dx)/\
   ∃mA,h.Ns1 dx mA/\(∀f,jN (fs.lookup f) (mA f))/\PySem.Within mA (fs.map (·.1))
 | .own _=>∃o,h.get? a=some o
 | .xd fs=>∃mA,h.Ns1 a mA/\∀f,jN (fs.lookup f) (mA f)
 | .rng lo hi=>∃t u v,h.get? a=some { cls:=.type "range",data:=.fields #[.int lo t,.int hi u,.int 1 v] }
 | .frz o u=>h.get? a=some o/\dL H h a u
 | .tbl ps=>h.get? a=some { cls:=.none,data:=.fields ps }
 | .met f x=>h.get? a=some (W.methodObj (.ref f) (.ref x))
 | .ext φ=>φ h/\(∃o,h.get? a=some o)/\∀h1 h2:Heap,φ h1->(∀o,h1.get? a=some o->h2.get? a=some o)->φ h2
def HOk (H:Hp)(h:Heap):Prop:=∀a o,H a=some o->dL P w H h a o
end
section
variable {P:Program} {w:World} {H H':Hp} {h h':Heap} {a:Addr} {o:HO}
theorem dL.lt (x:dL P w H h a o):a < h.objs.size:=by
 cases o with
 |lst xs=>obtain⟨_,_,_,_,e⟩:=x;exact Heap.lt_size e
 |tup xs=>obtain⟨_,_,_,p⟩:=x;exact p.lt
 |dK kvs=>obtain⟨_,_,_,_,o,_,_,e,_⟩:=x;exact Heap.lt_size e
 |dT kvs=>obtain⟨_,_,_,_,o,_,_,e,_⟩:=x;exact Heap.lt_size e
 |set S n=>obtain⟨o,_,_,_,e,_⟩:=x;exact Heap.lt_size e
 |ins C dx fs=>obtain⟨_,_,_,e,_⟩:=x;exact Heap.lt_size e
 |own y=>obtain⟨_,e⟩:=x;exact Heap.lt_size e
 |xd fs=>obtain⟨_,⟨_,_,_,e,_⟩,_⟩:=x;exact Heap.lt_size e
 |rng lo hi=>obtain⟨_,_,_,e⟩:=x;exact Heap.lt_size e
 |frz ob u=>obtain⟨e,_⟩:=x;exact Heap.lt_size e
 |tbl ps=>exact Heap.lt_size (show h.get? a=some _ from x)
 |met f y=>exact Heap.lt_size (show h.get? a=some _ from x)
 |ext φ=>obtain⟨_,⟨_,e⟩,_⟩:=x;exact Heap.lt_size e
theorem Paired.mapP {α β:Type}{F G:α->β->Prop}:∀{l₁:List α} {l₂:List β},Paired F l₁ l₂->(∀a b,F a b->G a b)->Paired G l₁ l₂
 |_,_,.nil,_=>.nil
 |_,_,.cons r t,f=>.cons (f _ _ r) (Paired.mapP t f)
theorem dL.stay (x:dL P w H h a o)(k:∀b u,(b=a\/H b=some (.own a))->h.get? b=some u->h'.get? b=some u)(ho:∀b,H b=some (.own a)->H' b=some (.own a))(ht:∀b xs,H b=some (.tup xs)->H' b=some (.tup xs)):dL P w H' h' a o:=by
 induction o with
 |lst xs=>obtain⟨z,its,n,r,e⟩:=x;exact⟨z,its,n,r,k _ _ (.inl rfl) e⟩
 |tup xs=>obtain⟨z,its,r,ob,e,c⟩:=x;exact⟨z,its,r,ob,k _ _ (.inl rfl) e,c⟩
 |dK kvs=>obtain⟨z,y,vs,r,ob,es,ep,e,c⟩:=x;exact⟨z,y,vs,r,ob,es,ep,k _ _ (.inl rfl) e,c⟩
 |dT kvs=>
  obtain⟨z,y,xs,r,ob,es,ep,e,c⟩:=x;exact⟨z,y,xs,Paired.mapP r fun p q z=>⟨z.1,ht _ _ z.2.1,z.2.2⟩,ob,es,ep,k _ _ (.inl rfl) e,c⟩
 |set S n=>obtain⟨ob,es,ep,t,e,c⟩:=x;exact⟨ob,es,ep,t,k _ _ (.inl rfl) e,c⟩
 |ins C dx fs=>
  obtain⟨d,z,ne,e,mA,⟨od,es,ep,e2,c⟩,r⟩:=x;exact⟨ho _ d,z,ne,k _ _ (.inl rfl) e,mA,⟨od,es,ep,k _ _ (.inr d) e2,c⟩,r⟩
 |own y=>obtain⟨ob,e⟩:=x;exact⟨ob,k _ _ (.inl rfl) e⟩
 |xd fs=>obtain⟨mA,⟨od,es,ep,e,c⟩,r⟩:=x;exact⟨mA,⟨od,es,ep,k _ _ (.inl rfl) e,c⟩,r⟩
 |rng lo hi=>obtain⟨t,u,v,e⟩:=x;exact⟨t,u,v,k _ _ (.inl rfl) e⟩
 |frz ob u ih=>obtain⟨e,q⟩:=x;exact⟨k _ _ (.inl rfl) e,ih q⟩
 |tbl ps=>
  have e:h.get? a=some { cls:=.none,data:=.fields ps }:=x;show h'.get? a=some { cls:=.none,data:=.fields ps };exact k a _ (.inl rfl) e
 |met f y=>
  have e:h.get? a=some (W.methodObj (.ref f) (.ref y)):=x;show h'.get? a=some (W.methodObj (.ref f) (.ref y));exact k a _ (.inl rfl) e
 |ext φ=>obtain⟨p,⟨o,e⟩,st⟩:=x;exact⟨st _ _ p fun o q=>k _ _ (.inl rfl) q,⟨o,k _ _ (.inl rfl) e⟩,st⟩
theorem HOk.lt (x:HOk P w H h)(e:H a=some o):a < h.objs.size:=(x a o e).lt
theorem HOk.fresh (x:HOk P w H h)(e:h.objs.size<=a):H a=none:=by
 cases q:H a with
 |none=>rfl
 |some u=>exact absurd (Nat.lt_of_lt_of_le (x.lt q) e) (Nat.lt_irrefl _)
theorem HOk.kept (x:HOk P w H h)(k:∀b u,h.get? b=some u->h'.get? b=some u):HOk P w H h':=fun a o e=>
 (x a o e).stay (fun b u _ q=>k b u q) (fun _ q=>q) fun _ _ q=>q
theorem HOk.laid (x:HOk P w H h)(k:∀b u,h.get? b=some u->h'.get? b=some u)(hp:h.objs.size<=a)(new:dL P w (upd H a o) h' a o):HOk P w (upd H a o) h':=fun b u e=>by
 have hn:=x.fresh hp
 by_cases hb:b=a
 ·subst hb;rw[aD] at e;cases e;exact new
 ·rw[aW hb] at e;exact(x b u e).stay (fun c v _ q=>k c v q) (fun c q=>by rw[aW (bC q hn)];exact q) fun c xs q=>by rw[aW (bC q hn)];exact q
end
def Rd (H:Hp)(a:Addr)(u:HO):Prop:=H a=some u\/∃o,H a=some (.frz o u)
theorem Rd.ok {P:Program}{w:World}{H:Hp}{h:Heap}{a:Addr}{u:HO}(r:Rd H a u)(x:HOk P w H h):dL P w H h a u:=by
 rcases r with r | ⟨o,r⟩
 ·exact x a u r
 ·obtain⟨_,q⟩:=x a _ r;exact q
def Mut:Option HO->Prop
 |some (.lst _)=>True
 |some (.dK _)=>True
 |some (.dT _)=>True
 |some (.set _ _)=>True
 |some (.ins _ _ _)=>True
 |some (.ext _)=>True
 |_=>False
section
variable {P:Program} {w:World} {H:Hp} {h h':Heap} {x e:Addr} {o':HO}
theorem HOk.write (ok:HOk P w H h)(mu:Mut (H x))(he:e=x\/H e=some (.own x))(k:∀b u,b≠e->h.get? b=some u->h'.get? b=some u)(heo:∃u,h'.get? e=some u)(new:dL P w (upd H x o') h' x o'):HOk P w (upd H x o') h':=fun b u q=>by
 have nown:∀c y,H c=some (.own y)->c≠x:=fun c y r z=>by subst z;rw[r] at mu;exact mu
 have ntup:∀c xs,H c=some (.tup xs)->c≠x:=fun c xs r z=>by subst z;rw[r] at mu;exact mu
 by_cases hb:b=x
 ·subst hb;rw[aD] at q;cases q;exact new
 ·rw[aW hb] at q
  by_cases hbe:b=e
  ·have q':H b=some (.own x):=by
    rcases he with z | z
    ·exact absurd (hbe.trans z) hb
    ·rw[hbe];exact z
   rw[q] at q';cases q';obtain⟨v,hv⟩:=heo;exact⟨v,by rw[hbe];exact hv⟩
  ·refine(ok b u q).stay (fun c v hc r=>k c v ?_ r) (fun c r=>by rw[aW (nown c b r)];exact r) fun c xs r=>by rw[aW (ntup c xs r)];exact r
   rcases hc with rfl | hc
   ·exact hbe
   ·rintro rfl;rcases he with z | z
    ·exact nown c b hc z
    ·rw[hc] at z;cases z;exact hb rfl
end
structure Un (fs ex:List Addr) (H H':Hp) (h h':Heap):Prop where
 keep:∀b o,h.get? b=some o->H b=none->b∉fs->b∉ex->h'.get? b=some o
 slot:∀b o,h.get? b=some o->H b=none->b∈fs->b∉ex->∃sl,h'.get? b=some { o with slots:=sl }
 free:∀b o,h.get? b=some o->H b=none->b∉ex->H' b=none
 there:∀b o,h.get? b=some o->b∉ex->∃o',h'.get? b=some o'
 tups:∀b xs,H b=some (.tup xs)->H' b=some (.tup xs)
 frzs:∀b o u,H b=some (.frz o u)->H' b=some (.frz o u)
 tbls:∀b ps,H b=some (.tbl ps)->∃more,H' b=some (.tbl (ps++more))
section
variable {fs fs' ex ex':List Addr} {H H1 H2:Hp} {h h1 h2 h':Heap} {a x e:Addr} {o:HO}
theorem Un.any (u:Un fs ex H H1 h h1){b:Addr}{ob:Obj}(q:h.get? b=some ob)(n:H b=none)(hx:b∉ex):∃sl,h1.get? b=some { ob with slots:=sl }:=by
 by_cases hb:b∈fs
 ·exact u.slot b ob q n hb hx
 ·exact⟨ob.slots,u.keep b ob q n hb hx⟩
theorem Un.kept (k:∀b u,h.get? b=some u->h'.get? b=some u):Un fs ex H H h h':=
 ⟨fun b ob q _ _ _=>k b ob q,fun b ob q _ _ _=>⟨ob.slots,k b ob q⟩,fun _ _ _ n _=>n,fun b ob q _=>⟨ob,k b ob q⟩,fun _ _ q=>q,fun _ _ _ q=>q,fun _ ps q=>⟨#[],by rw[q];simp⟩⟩
theorem Un.refl:Un fs ex H H h h:=Un.kept fun _ _ q=>q
theorem Un.laid (k:∀b u,h.get? b=some u->h'.get? b=some u)(hp:h.objs.size<=a)(hn:H a=none):Un fs ex H (upd H a o) h h' where
 keep:=fun b u q _ _ _=>k b u q
 slot:=fun b u q _ _ _=>⟨u.slots,k b u q⟩
 free:=fun b u q n _=>by rw[aW (Nat.ne_of_lt (Nat.lt_of_lt_of_le (Heap.lt_size q) hp))];exact n
 there:=fun b u q _=>⟨u,k b u q⟩
 tups:=fun b xs q=>by rw[aW (bC q hn)];exact q
 frzs:=fun b u xs q=>by rw[aW (bC q hn)];exact q
 tbls:=fun b ps q=>⟨#[],by rw[aW (bC q hn),q];simp⟩
theorem Un.write (mu:Mut (H x))(he:e=x\/H e=some (.own x))(k:∀b u,b≠e->h.get? b=some u->h'.get? b=some u)(heo:∃u,h'.get? e=some u):Un fs ex H (upd H x o) h h':=by
 have hx:∀b,H b=none->b≠x:=fun b n z=>by subst z;rw[n] at mu;exact mu
 have hb:∀b,H b=none->b≠e:=fun b n z=>by
  subst z;rcases he with r | r
  ·exact hx b n r
  ·rw[n] at r;cases r
 have hm:∀b u,H b=some u->¬Mut (some u)->b≠x:=fun b u q nm z=>by subst z;rw[q] at mu;exact nm mu
 refine⟨fun b u q n _ _=>k b u (hb b n) q,fun b u q n _ _=>⟨u.slots,k b u (hb b n) q⟩,fun b u q n _=>by rw[aW (hx b n)];exact n,fun b u q _=>?_,
  fun b xs q=>by rw[aW (hm b _ q fun z=>z)];exact q,fun b u xs q=>by rw[aW (hm b _ q fun z=>z)];exact q,fun b ps q=>⟨#[],by rw[aW (hm b _ q fun z=>z),q];simp⟩⟩
 by_cases hbe:b=e
 ·subst hbe;exact heo
 ·exact⟨u,k b u hbe q⟩
end
def trk (h:Heap)(H:Hp):List Addr:=(List.range h.objs.size).filter fun a=>(H a).isSome
def xX (h:Heap)(H:Hp):Heap:=W.hideAll h (trk h H)
theorem Io (h:Heap)(H:Hp):(xX h H).objs.size=h.objs.size:=W.hideAll_size _ _
theorem Le {h:Heap}{H:Hp}{b:Addr}{o:Obj}(e:h.get? b=some o)(n:H b=none):(xX h H).get? b=some o:=
 W.hideAll_get _ e fun hm=>by
  have q:(H b).isSome=true:=(mem_filter.mp hm).2;rw[n] at q;simp at q
theorem Qw {h:Heap}{H:Hp}{b:Addr}{o:Obj}(e:(xX h H).get? b=some o):h.get? b=some o/\H b=none:=by
 have e':h.get? b=some o:=W.of_hideAll (trk h H) e;refine⟨e',?_⟩
 cases q:H b with
 |none=>rfl
 |some x=>
  have hm:b∈trk h H:=mem_filter.mpr ⟨mem_range.mpr (Heap.lt_size e'),by simp[q]⟩;have z:(xX h H).get? b=none:=W.hideAll_none (trk h H) hm;rw[z] at e;cases e
structure Mod (K:Frag) (mg:Str->Option Value) (base:Heap):Prop where
 kin:K.In base
 glob:base.Ns mainGlobals mg
 blt:∃mb,base.Ns builtinsNs mb/\∀x:Str,x≠"__name__"->mb x=bootBuiltins x
 nolimit:base.NoLimit
structure Cx where
 prog:Program
 w:World
 K:Frag
 mg:Str->Option Value
 base:Heap
 A:Around
 N:List Str
 s₀:Shared
 H₀:Hp
 env:Env
 outer:List Env
 stack:List Env
 ex:List Addr
 fn:Str->Bool
 calm:Bool
 pn:List (Addr × Obj)
 xe:Value->Shared->Prop
def frs (l:List Env):List Addr:=l.filterMap (·.frame)
abbrev Cx.fs (X:Cx):List Addr:=frs X.outer
def Vis (sc:Scope)(x:Str):Prop:=sc.names.lookup x=some .local\/sc.names.lookup x=some .cell\/sc.names.lookup x=some .free
def Loc (sc:Scope)(x:Str):Prop:=sc.names.lookup x=some .local\/sc.names.lookup x=some .cell
def qh4 (env:Env)(h:Heap)(m:Str->Option Value)(x:Str)(u:Value):Prop:=
 (env.kindOf x=some .local/\m x=some u)\/((env.kindOf x=some .cell\/env.kindOf x=some .free)/\∃c,env.cells.lookup x=some c/\h.IsCell c (some u))
structure Cx.Ok (X:Cx):Prop where
 mod:Mod X.K X.mg X.base
 kind:X.env.scope.kind=.function
 glob:X.env.globals=mainGlobals
 blt:X.env.builtins=builtinsNs
 above:X.s₀.heap.objs.size<=X.env.locals
 inj:∀x y c,X.env.cells.lookup x=some c->X.env.cells.lookup y=some c->x=y
 has:∀x,(X.env.kindOf x=some .cell\/X.env.kindOf x=some .free)->∃c,X.env.cells.lookup x=some c
 cab:∀x c,X.fn x=true->X.env.cells.lookup x=some c->X.s₀.heap.objs.size<=c
 hd:X.calm=true->X.A.handled=none
 frames:X.A.frames=some X.stack
 stk:X.stack=X.outer\/(X.stack=X.env :: X.outer/\X.env.frame=some X.env.locals)
 exf:∀b∈X.ex,b≠X.env.locals/\∀x c,X.env.cells.lookup x=some c->c≠b
 bs:∀b o,X.base.get? b=some o->X.s₀.heap.get? b=some o/\X.H₀ b=none
 bsz:X.base.objs.size<=X.s₀.heap.objs.size
 noex:∀b o,X.base.get? b=some o->b∉X.ex
 exfs:∀b∈X.ex,b∉X.fs
 funs:X.s₀.heap.FunFrames X.base X.outer
 frf:∀b∈X.fs,X.H₀ b=none
structure Inv (X:Cx) (pins:List (Addr × Obj)) (σ:List (Option V)) (H:Hp) (s:Shared):Prop where
 ok:X.Ok
 os:s.os=X.s₀.os
 bare:AllBare s.gens
 base:Un X.fs X.ex X.H₀ H X.s₀.heap s.heap
 loc:∃m,s.heap.Ns X.env.locals m/\∀(i:Nat) (x:Str) (v:V),X.N[i]?=some x->σ[i]?=some (some v)->Vis X.env.scope x->∃u,bU v u/\qh4 X.env s.heap m x u
 cell:∀x c,X.env.cells.lookup x=some c->∃v,s.heap.IsCell c v
 free:H X.env.locals=none
 freeC:∀x c,X.env.cells.lookup x=some c->H c=none
 pin:∀p∈X.pn++pins,s.heap.get? p.1=some p.2/\H p.1=none/\p.1≠X.env.locals/\p.1∉X.fs/\∀v,p.2.data≠.cell v
 hok:HOk X.prog X.w H s.heap
 len:σ.length=X.N.length
section
variable {X:Cx} {pins:List (Addr × Obj)} {σ:List (Option V)} {H H':Hp} {s:Shared} {h':Heap}
theorem Cx.Ok.nofr (ok:X.Ok){b:Addr}{o:Obj}(e:X.base.get? b=some o):b∉X.fs:=fun hb=>by
 have:=(ok.funs.mem hb).1;rw[e] at this;cases this
theorem Inv.bs (I:Inv X pins σ H s):∀b o,X.base.get? b=some o->s.heap.get? b=some o/\H b=none:=fun b o e=>
 ⟨I.base.keep b o (I.ok.bs b o e).1 (I.ok.bs b o e).2 (I.ok.nofr e) (I.ok.noex b o e),I.base.free b o (I.ok.bs b o e).1 (I.ok.bs b o e).2 (I.ok.noex b o e)⟩
theorem Inv.bk (I:Inv X pins σ H s):∀b o,X.base.get? b=some o->s.heap.get? b=some o:=fun b o e=>(I.bs b o e).1
theorem Inv.mod (I:Inv X pins σ H s):Mod X.K X.mg X.base:=I.ok.mod
theorem Inv.kIn (I:Inv X pins σ H s):X.K.In s.heap:=I.ok.mod.kin.keeps I.bk
theorem Inv.lt (I:Inv X pins σ H s):X.env.locals < s.heap.objs.size:=let ⟨_,hn,_⟩:=I.loc;hn.lt
theorem Inv.sz (I:Inv X pins σ H s):X.s₀.heap.objs.size<=s.heap.objs.size:=Nat.le_trans I.ok.above (Nat.le_of_lt I.lt)
theorem Inv.nofs (I:Inv X pins σ H s){a:Addr}(h:s.heap.objs.size<=a):a∉X.fs:=fun hb=>by
 obtain⟨_,o,ho,_⟩:=I.ok.funs.mem hb;exact absurd (Nat.lt_of_lt_of_le (Heap.lt_size ho) (Nat.le_trans I.sz h)) (Nat.lt_irrefl _)
theorem Inv.cne (I:Inv X pins σ H s):∀x c,X.env.cells.lookup x=some c->c≠X.env.locals:=fun x c e z=>by
 obtain⟨v,o,ho,hd⟩:=I.cell x c e;obtain⟨m,⟨o',es,ep,ho',hd',_⟩,_⟩:=I.loc;rw[z,ho'] at ho;cases ho;rw[hd'] at hd;cases hd
theorem Inv.funs (I:Inv X pins σ H s):s.heap.FunFrames X.base X.outer:=by
 have all:∀(l:List Env),(∀b∈frs l,b∈X.fs)->X.s₀.heap.FunFrames X.base l->s.heap.FunFrames X.base l:=by
  intro l
  induction l with
  |nil=>intro _ _;trivial
  |cons env r ih=>
   intro hs hl;obtain⟨hk,⟨L,o,hf,hn,ho,hd⟩,hr⟩:=hl;have hL:L∈X.fs:=hs L (by unfold frs;rw[filterMap_cons,hf];exact mem_cons_self);obtain⟨sl,e⟩:=I.base.slot L o ho (I.ok.frf L hL) hL fun z=>I.ok.exfs L z hL;exact⟨hk,⟨L,_,hf,hn,e,hd⟩,ih (fun b hb=>hs b (by unfold frs;rw[filterMap_cons,hf];exact mem_cons_of_mem _ hb)) hr⟩
 exact all X.outer (fun _ hb=>hb) I.ok.funs
theorem Inv.stack (I:Inv X pins σ H s):s.heap.FunFrames X.base X.stack:=by
 rcases I.ok.stk with e | ⟨e,hf⟩
 ·rw[e];exact I.funs
 ·rw[e];obtain⟨m,hn,_⟩:=I.loc;refine .cons (by rw[I.ok.kind];decide) hf hn ?_ I.funs;exact Heap.get?_none_of_le (Nat.le_trans I.ok.bsz I.ok.above)
theorem Inv.stkSub (I:Inv X pins σ H s):∀b∈frs X.stack,b∈X.env.locals :: X.fs:=fun b hb=>by
 rcases I.ok.stk with e | ⟨e,hf⟩
 ·rw[e] at hb;exact mem_cons_of_mem _ hb
 ·rw[e] at hb;unfold frs at hb;rw[filterMap_cons,hf] at hb;exact hb
theorem Inv.stkFree (I:Inv X pins σ H s):∀b∈frs X.stack,H b=none:=fun b hb=>by
 rcases mem_cons.mp (I.stkSub b hb) with e | hb
 ·rw[e];exact I.free
 ·obtain⟨_,o,ho,_⟩:=I.ok.funs.mem hb;exact I.base.free b o ho (I.ok.frf b hb) fun z=>I.ok.exfs b z hb
theorem Inv.step {g':Array GenState}{t':Nat}{d':Drawn}{ch:List Addr}(I:Inv X pins σ H s)(hch:∀b∈ch,(b∈X.ex\/X.s₀.heap.objs.size<=b)/\b≠X.env.locals/\(∀x c,X.env.cells.lookup x=some c->c≠b)/\∀p∈X.pn++pins,p.1≠b)(keep:∀b o,b≠X.env.locals->b∉X.fs->b∉ch->s.heap.get? b=some o->H b=none->h'.get? b=some o)(slot:∀b o,b≠X.env.locals->b∈X.fs->b∉ch->s.heap.get? b=some o->H b=none->∃sl,h'.get? b=some { o with slots:=sl })(free:∀b o,b∉ch->s.heap.get? b=some o->H b=none->H' b=none)(there:∀b o,b∉ch->s.heap.get? b=some o->∃o',h'.get? b=some o')(tups:∀b xs,H b=some (.tup xs)->H' b=some (.tup xs))(frzs:∀b o u,H b=some (.frz o u)->H' b=some (.frz o u))(tbls:∀b ps,H b=some (.tbl ps)->∃more,H' b=some (.tbl (ps++more)))(ns:∀m,s.heap.Ns X.env.locals m->h'.Ns X.env.locals m)(hok:HOk X.prog X.w H' h')(hg:AllBare g') :
  Inv X pins σ H' { s with heap:=h',gens:=g',drawn:=d',toks:=t' }:=by
 have neL:∀b o,X.s₀.heap.get? b=some o->b≠X.env.locals:=fun b o e=>Nat.ne_of_lt (Nat.lt_of_lt_of_le (Heap.lt_size e) I.ok.above);have neC:∀b o,X.s₀.heap.get? b=some o->b∉X.ex->b∉ch:=fun b o e hx hb=>by
  rcases (hch b hb).1 with z | z
  ·exact hx z
  ·exact absurd (Nat.lt_of_lt_of_le (Heap.lt_size e) z) (Nat.lt_irrefl _)
 have cellK:∀x c,X.env.cells.lookup x=some c->∀v,s.heap.IsCell c v->h'.IsCell c v:=fun x c e v ⟨o,ho,hd⟩=>by
  have nch:c∉ch:=fun z=>(hch c z).2.2.1 x c e rfl
  by_cases hc:c∈X.fs
  ·obtain⟨sl,q⟩:=slot c o (I.cne x c e) hc nch ho (I.freeC x c e);exact⟨_,q,hd⟩
  ·exact⟨o,keep c o (I.cne x c e) hc nch ho (I.freeC x c e),hd⟩
 refine⟨I.ok,I.os,hg,⟨fun b o e n hb hx=>?_,fun b o e n hb hx=>?_,fun b o e n hx=>?_,fun b o e hx=>?_,fun b xs e=>tups b xs (I.base.tups b xs e),fun b o xs e=>frzs b o xs (I.base.frzs b o xs e),fun b ps e=>?_⟩,?_,fun x c e=>?_,?_,fun x c e=>?_,fun p hp=>?_,hok,I.len⟩
 ·exact keep b o (neL b o e) hb (neC b o e hx) (I.base.keep b o e n hb hx) (I.base.free b o e n hx)
 ·obtain⟨sl,e1⟩:=I.base.slot b o e n hb hx;obtain⟨sl',e2⟩:=slot b _ (neL b o e) hb (neC b o e hx) e1 (I.base.free b o e n hx);exact⟨sl',e2⟩
 ·obtain⟨o',e1⟩:=I.base.there b o e hx;exact free b o' (neC b o e hx) e1 (I.base.free b o e n hx)
 ·obtain⟨o',e1⟩:=I.base.there b o e hx;exact there b o' (neC b o e hx) e1
 ·obtain⟨m1,e1⟩:=I.base.tbls b ps e;obtain⟨m2,e2⟩:=tbls b _ e1;exact⟨m1++m2,by rw[e2,Array.append_assoc]⟩
 ·obtain⟨m,hn,hl⟩:=I.loc;refine⟨m,ns m hn,fun i x v e1 e2 e3=>?_⟩;obtain⟨u,r,l⟩:=hl i x v e1 e2 e3;refine⟨u,r,?_⟩;rcases l with l | ⟨k,c,e,z⟩
  ·exact .inl l
  ·exact .inr ⟨k,c,e,cellK x c e _ z⟩
 ·obtain⟨v,z⟩:=I.cell x c e;exact⟨v,cellK x c e v z⟩
 ·obtain⟨m,⟨o,_,_,ho,_⟩,_⟩:=I.loc;exact free _ o (fun z=>(hch _ z).2.1 rfl) ho I.free
 ·obtain⟨v,o,ho,hd⟩:=I.cell x c e;exact free c o (fun z=>(hch c z).2.2.1 x c e rfl) ho (I.freeC x c e)
 ·obtain⟨e,n,ne,nf,d⟩:=I.pin p hp;have nch:p.1∉ch:=fun z=>(hch p.1 z).2.2.2 p hp rfl;exact⟨keep p.1 p.2 ne nf nch e n,free p.1 p.2 nch e n,ne,nf,d⟩
theorem Inv.un {t':Nat}(I:Inv X pins σ H s)(u:Un X.fs [] H H' s.heap h')(hok:HOk X.prog X.w H' h'):Inv X pins σ H' { s with heap:=h',toks:=t' }:=by
 obtain⟨m,⟨o,es,ep,ho,r⟩,_⟩:=id I.loc;obtain⟨sl,hL⟩:=u.any ho I.free (by simp);exact I.step (g':=s.gens) (d':=s.drawn) (ch:=[]) (fun _ z=>nomatch z) (fun b o _ hb _ e n=>u.keep b o e n hb (by simp)) (fun b o _ hb _ e n=>u.slot b o e n hb (by simp)) (fun b o _ e n=>u.free b o e n (by simp)) (fun b o _ e=>u.there b o e (by simp)) u.tups u.frzs u.tbls (fun m' hm=>by
  obtain⟨o',es',ep',ho',r'⟩:=hm;rw[ho] at ho';cases ho';exact⟨_,es',ep',hL,r'⟩) hok I.bare
theorem Inv.call {g':Array GenState}{t':Nat}{d':Drawn}{ch:List Addr}(I:Inv X pins σ H s)(u:Un (frs X.stack) ch H H' s.heap h')(hok:HOk X.prog X.w H' h')(hg:AllBare g')(hch:∀b∈ch,(b∈X.ex\/X.s₀.heap.objs.size<=b)/\b≠X.env.locals/\(∀x c,X.env.cells.lookup x=some c->c≠b)/\∀p∈X.pn++pins,p.1≠b) :
  Inv X pins σ H' { s with heap:=h',gens:=g',drawn:=d',toks:=t' }:=by
 obtain⟨m,⟨o,es,ep,ho,r⟩,_⟩:=id I.loc;obtain⟨sl,hL⟩:=u.any ho I.free fun z=>(hch _ z).2.1 rfl;exact I.step (ch:=ch) hch (fun b o hL hb hc e n=>u.keep b o e n (fun z=>(mem_cons.mp (I.stkSub b z)).elim hL hb) hc) (fun b o _ _ hc e n=>u.any e n hc) (fun b o hc e n=>u.free b o e n hc) (fun b o hc e=>u.there b o e hc) u.tups u.frzs u.tbls (fun m' hm=>by
  obtain⟨o',es',ep',ho',r'⟩:=hm;rw[ho] at ho';cases ho';exact⟨_,es',ep',hL,r'⟩) hok hg
theorem Inv.turned {t':Nat}{it:Addr}(I:Inv X pins σ H s)(k:∀b o,b≠it->s.heap.get? b=some o->h'.get? b=some o)(hn:H it=none)(hL:it≠X.env.locals)(h1:it∈X.ex\/X.s₀.heap.objs.size<=it)(h2:∀x c,X.env.cells.lookup x=some c->c≠it)(h3:∀p∈X.pn++pins,p.1≠it):Inv X pins σ H { s with heap:=h',toks:=t' }:=by
 have nit:∀b u,H b=some u->b≠it:=fun b u e z=>by rw[z,hn] at e;cases e
 refine I.step (g':=s.gens) (d':=s.drawn) (ch:=[it]) (fun b hb=>?_) (fun b o _ _ hc e _=>k b o (fun z=>hc (by simp[z])) e) (fun b o _ _ hc e _=>⟨o.slots,k b o (fun z=>hc (by simp[z])) e⟩) (fun _ _ _ _ n=>n)
  (fun b o hc e=>⟨o,k b o (fun z=>hc (by simp[z])) e⟩) (fun _ _ e=>e) (fun _ _ _ e=>e) (fun b ps e=>⟨#[],by rw[e];simp⟩) (fun m hm=>?_) (fun b u e=>?_) I.bare
 ·have e:b=it:=by simpa using hb
  subst e;exact⟨h1,hL,h2,h3⟩
 ·obtain⟨o,es,ep,ho,r⟩:=hm;exact⟨o,es,ep,k _ o (Ne.symm hL) ho,r⟩
 ·refine(I.hok b u e).stay (fun c v hc q=>k c v ?_ q) (fun _ q=>q) fun _ _ q=>q;rcases hc with z | z
  ·rw[z];exact nit b u e
  ·exact nit c _ z
theorem Inv.tok (I:Inv X pins σ H s)(t:Nat):Inv X pins σ H { s with toks:=t }:=I.un (h':=s.heap) (t':=t) Un.refl I.hok
theorem Inv.kept {t':Nat}(I:Inv X pins σ H s)(k:∀b u,s.heap.get? b=some u->h'.get? b=some u):Inv X pins σ H { s with heap:=h',toks:=t' }:=I.un (Un.kept k) (I.hok.kept k)
theorem Inv.laid {a:Addr}{o:HO}{t':Nat}(I:Inv X pins σ H s)(k:∀b u,s.heap.get? b=some u->h'.get? b=some u)(hp:s.heap.objs.size<=a)(new:dL X.prog X.w (upd H a o) h' a o) :
  Inv X pins σ (upd H a o) { s with heap:=h',toks:=t' }:=I.un (Un.laid k hp (I.hok.fresh hp)) (I.hok.laid k hp new)
theorem Inv.write {x e:Addr}{o:HO}{t':Nat}(I:Inv X pins σ H s)(mu:Mut (H x))(he:e=x\/H e=some (.own x))(k:∀b u,b≠e->s.heap.get? b=some u->h'.get? b=some u)(heo:∃u,h'.get? e=some u)(new:dL X.prog X.w (upd H x o) h' x o):Inv X pins σ (upd H x o) { s with heap:=h',toks:=t' }:=I.un (Un.write mu he k heo) (I.hok.write mu he k heo new)
theorem Inv.weak {σ':List (Option V)}(I:Inv X pins σ H s)(hl:σ'.length=σ.length)(w:∀(i:Nat) v,σ'[i]?=some (some v)->σ[i]?=some (some v)):Inv X pins σ' H s:=
 ⟨I.ok,I.os,I.bare,I.base,let ⟨m,hn,hl'⟩:=I.loc;⟨m,hn,fun i x v e1 e2 e3=>hl' i x v e1 (w i v e2) e3⟩,I.cell,I.free,I.freeC,I.pin,I.hok,hl.trans I.len⟩
theorem Inv.pins_of {pins':List (Addr × Obj)}(I:Inv X pins σ H s)(h:∀p∈pins',s.heap.get? p.1=some p.2/\H p.1=none/\p.1≠X.env.locals/\p.1∉X.fs/\∀v,p.2.data≠.cell v):Inv X pins' σ H s:=
 ⟨I.ok,I.os,I.bare,I.base,I.loc,I.cell,I.free,I.freeC,fun p hp=>(mem_append.mp hp).elim (fun z=>I.pin p (mem_append_left _ z)) (h p),I.hok,I.len⟩
theorem Ai {N:List Str}(hN:N.Nodup){i j:Nat}{x:Str}(a:N[i]?=some x)(b:N[j]?=some x):i=j:=by
 obtain⟨h1,e1⟩:=List.getElem?_eq_some_iff.mp a;obtain⟨h2,e2⟩:=List.getElem?_eq_some_iff.mp b;exact(getElem_inj hN).mp (e1.trans e2.symm)
theorem wC {M:Model}{A:Around}{E:Value->Shared->Prop}{i:Nat}{x:Str}{v:V}{u:Value}{Q:Unit->Shared->Prop}(I:Inv X pins σ H s)(hN:X.N.Nodup)(hi:X.N[i]?=some x)(hx:Loc X.env.scope x)(r:bU v u)(h:∀s',Inv X pins (σ.set i (some v)) H s'->(∃a,Heap.SameBut a s.heap s'.heap/\(a=X.env.locals\/X.env.cells.lookup x=some a))->Q () s')(hf:X.fn x=true\/X.env.scope.names.lookup x=some .local:=by first | exact .inl rfl | exact .inr rfl | assumption):wpAny M A (storeName X.env x u) Q E s:=by
 obtain⟨m,hn,hl⟩:=id I.loc;have hcls:(X.env.scope.kind == .class || (X.env.scope.kind == .module && X.env.locals != X.env.globals))=false:=by rw[I.ok.kind];rfl
 have hiσ:i < σ.length:=by rw[I.len];exact(List.getElem?_eq_some_iff.mp hi).1
 have cne:=I.cne;have tracked:∀{a:Addr} {h':Heap},(∃o,s.heap.get? a=some o/\H a=none)->Heap.SameBut a s.heap h'->HOk X.prog X.w H h':=fun {a h'} ha hs b ob e=>by
  obtain⟨_,_,hfree⟩:=ha;refine(I.hok b ob e).stay (fun c w' hc q=>(hs.2 c ?_).trans q) (fun _ q=>q) fun _ _ q=>q;rintro rfl;rcases hc with rfl | hc
  ·rw[hfree] at e;cases e
  ·rw[hfree] at hc;cases hc
 rcases hx with hk | hk
 ·refine wpAny_storeName_local hk hn (fun h' hn' hs=>?_) hcls;obtain⟨oL,_,_,hoL,_⟩:=id hn;refine h _ ⟨I.ok,I.os,I.bare,⟨fun b o e n hb hx=>?_,fun b o e n hb hx=>?_,I.base.free,fun b o e hx=>?_,I.base.tups,I.base.frzs,I.base.tbls⟩,⟨_,hn',fun j y v' e1 e2 e3=>?_⟩,fun y c e=>?_,I.free,I.freeC,fun p hp=>?_,tracked ⟨oL,hoL,I.free⟩ hs,by simpa using I.len⟩ ⟨_,hs,.inl rfl⟩
  ·exact(hs.2 b (Nat.ne_of_lt (Nat.lt_of_lt_of_le (Heap.lt_size e) I.ok.above))).trans (I.base.keep b o e n hb hx)
  ·obtain⟨sl,e1⟩:=I.base.slot b o e n hb hx;exact⟨sl,(hs.2 b (Nat.ne_of_lt (Nat.lt_of_lt_of_le (Heap.lt_size e) I.ok.above))).trans e1⟩
  ·obtain⟨o',e1⟩:=I.base.there b o e hx;exact⟨o',(hs.2 b (Nat.ne_of_lt (Nat.lt_of_lt_of_le (Heap.lt_size e) I.ok.above))).trans e1⟩
  ·by_cases hj:j=i
   ·subst hj;rw[hi] at e1;cases e1;rw[getElem?_set_self hiσ] at e2
    cases e2
    exact⟨u,r,.inl ⟨hk,by simp⟩⟩
   ·rw[getElem?_set_ne (Ne.symm hj)] at e2;obtain⟨u',r',q⟩:=hl j y v' e1 e2 e3;refine⟨u',r',?_⟩;rcases q with ⟨k,e⟩ | ⟨k,c,e,z⟩
    ·refine .inl ⟨k,?_⟩;have:y≠x:=fun e=>hj (Ai hN e1 (e ▸ hi));simp[this,e]
    ·exact .inr ⟨k,c,e,z.sameBut hs (cne y c e)⟩
  ·obtain⟨w',z⟩:=I.cell y c e;exact⟨w',z.sameBut hs (cne y c e)⟩
  ·obtain⟨e,n,ne,nf,d⟩:=I.pin p hp;exact⟨(hs.2 p.1 ne).trans e,n,ne,nf,d⟩
 ·have hfn:X.fn x=true:=by
   rcases hf with z | z
   ·exact z
   ·rw[z] at hk;cases hk
  obtain⟨c,hc⟩:=I.ok.has x (.inl hk);obtain⟨w',z⟩:=I.cell x c hc;refine wpAny_storeName_cell I.ok.kind hk hc z (fun h' hc' hs=>?_);obtain⟨oc,hoc,hocd⟩:=id z;refine h { s with heap:=h' } ⟨I.ok,I.os,I.bare,⟨fun b o e n hb hx=>?_,fun b o e n hb hx=>?_,I.base.free,fun b o e hx=>?_,I.base.tups,I.base.frzs,I.base.tbls⟩,⟨m,hn.sameBut hs (Ne.symm (cne x c hc)),fun j y v' e1 e2 e3=>?_⟩,fun y c' e=>?_,I.free,I.freeC,fun p hp=>?_,tracked ⟨oc,hoc,I.freeC x c hc⟩ hs,by simpa using I.len⟩ ⟨c,hs,.inr hc⟩
  ·exact(hs.2 b (Nat.ne_of_lt (Nat.lt_of_lt_of_le (Heap.lt_size e) (I.ok.cab x c hfn hc)))).trans (I.base.keep b o e n hb hx)
  ·obtain⟨sl,e1⟩:=I.base.slot b o e n hb hx;exact⟨sl,(hs.2 b (Nat.ne_of_lt (Nat.lt_of_lt_of_le (Heap.lt_size e) (I.ok.cab x c hfn hc)))).trans e1⟩
  ·obtain⟨o',e1⟩:=I.base.there b o e hx;exact⟨o',(hs.2 b (Nat.ne_of_lt (Nat.lt_of_lt_of_le (Heap.lt_size e) (I.ok.cab x c hfn hc)))).trans e1⟩
  ·by_cases hj:j=i
   ·subst hj;rw[hi] at e1;cases e1;rw[getElem?_set_self hiσ] at e2
    cases e2
    exact⟨u,r,.inr ⟨.inl hk,c,hc,hc'⟩⟩
   ·rw[getElem?_set_ne (Ne.symm hj)] at e2;obtain⟨u',r',q⟩:=hl j y v' e1 e2 e3;refine⟨u',r',?_⟩;rcases q with q | ⟨k,c',e,z'⟩
    ·exact .inl q
    ·refine .inr ⟨k,c',e,z'.sameBut hs ?_⟩;rintro rfl;exact hj (Ai hN e1 (I.ok.inj _ _ _ e hc ▸ hi))
  ·by_cases hcc:c'=c
   ·subst hcc;exact⟨_,hc'⟩
   ·obtain⟨w2,z2⟩:=I.cell y c' e;exact⟨w2,z2.sameBut hs hcc⟩
  ·obtain⟨e,n,ne,nf,d⟩:=I.pin p hp;refine⟨(hs.2 p.1 ?_).trans e,n,ne,nf,d⟩;intro q;rw[q,hoc] at e;have q':oc=p.2:=Option.some.inj e;exact d w' (by rw[<- q'];exact hocd)
theorem jS {M:Model}{A:Around}{E:Value->Shared->Prop}{i:Nat}{x:Str}{v:V}{u:Value}{Q:Unit->Shared->Prop}(I:Inv X pins σ H s)(hN:X.N.Nodup)(hi:X.N[i]?=some x)(hx:Loc X.env.scope x)(r:bU v u)(h:∀s',Inv X pins (σ.set i (some v)) H s'->Q () s')(hf:X.fn x=true\/X.env.scope.names.lookup x=some .local:=by first | exact .inl rfl | exact .inr rfl | assumption):wpAny M A (storeName X.env x u) Q E s:=
 wC I hN hi hx r (fun s' I' _=>h s' I') hf
theorem Inv.call' {s':Shared}{ch:List Addr}(I:Inv X pins σ H s)(ho:s'.os=s.os)(u:Un (frs X.stack) ch H H' s.heap s'.heap)(hok:HOk X.prog X.w H' s'.heap)(hg:AllBare s'.gens)(hch:∀b∈ch,(b∈X.ex\/X.s₀.heap.objs.size<=b)/\b≠X.env.locals/\(∀x c,X.env.cells.lookup x=some c->c≠b)/\∀p∈X.pn++pins,p.1≠b):Inv X pins σ H' s':=by
 obtain⟨h',g',d',t',o'⟩:=s';have e:o'=s.os:=ho;subst e;exact I.call (g':=g') (t':=t') (d':=d') u hok hg hch
end
abbrev XK:=Value->Option Addr->Hp->Prop
abbrev St:=List (Option V)
abbrev VK:=V->Hp->Prop
abbrev TE:=St->Hp->VK->Prop
abbrev TT:=St->Hp->(Bool->Hp->Prop)->Prop
abbrev TA:=St->Hp->(List V->Hp->Prop)->Prop
structure lY where
 nx:St->Hp->Prop
 rt:VK
 bk:St->Hp->Prop:=fun _ _=>False
 ct:St->Hp->Prop:=fun _ _=>False
abbrev TS:=lY->St->Hp->Prop
def EP (X:Cx)(pins:List (Addr × Obj))(σ:St)(Q:VK)(u:Value)(s':Shared):Prop:=∃v H',Inv X pins σ H' s'/\bU v u/\Q v H'
def TP (X:Cx)(pins:List (Addr × Obj))(σ:St)(Q:Bool->Hp->Prop)(b:Bool)(s':Shared):Prop:=∃H',Inv X pins σ H' s'/\Q b H'
def AP (X:Cx)(pins:List (Addr × Obj))(σ:St)(Q:List V->Hp->Prop)(us:List Value)(s':Shared):Prop:=∃vs H',Inv X pins σ H' s'/\bQ vs us/\Q vs H'
def SP (X:Cx)(pins:List (Addr × Obj))(D:lY)(f:Flow)(s':Shared):Prop:=
 match f with
 | .next=>∃σ' H',Inv X pins σ' H' s'/\D.nx σ' H'
 | .brk=>∃σ' H',Inv X pins σ' H' s'/\D.bk σ' H'
 | .cont=>∃σ' H',Inv X pins σ' H' s'/\D.ct σ' H'
 | .ret u=>∃v σ' H',Inv X pins σ' H' s'/\bU v u/\D.rt v H'
def PE (X:Cx)(e:Expr)(t:TE):Prop:=
 ∀(pins:List (Addr × Obj)) (s:Shared) (σ:St) (H:Hp) (Q:VK),Inv X pins σ H s->t σ H Q->wpAny (model X.prog X.w) X.A (eval e X.env) (EP X pins σ Q) X.xe s
def PT (X:Cx)(e:Expr)(t:TT):Prop:=
 ∀(pins:List (Addr × Obj)) (s:Shared) (σ:St) (H:Hp) (Q:Bool->Hp->Prop),Inv X pins σ H s->t σ H Q->wpAny (model X.prog X.w) X.A (isTrue e X.env (eval e X.env)) (TP X pins σ Q) X.xe s
def PW (X:Cx)(e:Expr)(t:TT):Prop:=
 ∀(whole:Sem Value) (pins:List (Addr × Obj)) (s:Shared) (σ:St) (H:Hp) (Q:Bool->Hp->Prop),Inv X pins σ H s->t σ H Q->wpAny (model X.prog X.w) X.A (isTrue e X.env whole) (TP X pins σ Q) X.xe s
theorem PW.pt {X:Cx}{e:Expr}{t:TT}(h:PW X e t):PT X e t:=h _
def PA (X:Cx)(es:List Expr)(t:TA):Prop:=
 ∀(pos:Pos) (pins:List (Addr × Obj)) (s:Shared) (σ:St) (H:Hp) (Q:List V->Hp->Prop),Inv X pins σ H s->t σ H Q->wpAny (model X.prog X.w) X.A (spliced (backTo pos (starEach es X.env))) (AP X pins σ Q) X.xe s
def PS (X:Cx)(st:Stmt)(t:TS):Prop:=
 ∀(pins:List (Addr × Obj)) (s:Shared) (σ:St) (H:Hp) (D:lY),Inv X pins σ H s->t D σ H->wpAny (model X.prog X.w) X.A (exec st X.env) (SP X pins D) X.xe s
def PSs (X:Cx)(st:List Stmt)(t:TS):Prop:=
 ∀(pins:List (Addr × Obj)) (s:Shared) (σ:St) (H:Hp) (D:lY),Inv X pins σ H s->t D σ H->wpAny (model X.prog X.w) X.A (execs st X.env) (SP X pins D) X.xe s
theorem thn {α:Type}{t:Sem α}{Q Q':α->Shared->Prop}{M:Model}{A:Around}{E:Value->Shared->Prop}{s:Shared}(h:wpAny M A t Q E s)(hQ:∀a s,Q a s->Q' a s):wpAny M A t Q' E s:=wpAny_mono h hQ fun _ _ x=>x
section
variable {X:Cx}
def Qv (i:Nat):TE:=fun σ H Q=>∃v,σ[i]?=some (some v)/\Q v H
def tC (v:V):TE:=fun _ H Q=>Q v H
theorem Oa {i:Nat}{x:Str}{pos:Pos}(hN:X.N[i]?=some x)(hv:Vis X.env.scope x)(hd:(x == ("__debug__":Str))=false:=by decide)(hcd:(x == ("__classdict__":Str))=false:=by decide):PE X (.Name x pos) (Qv i):=by
 intro pins s σ H Q I h;obtain⟨v,e,h⟩:=h;obtain⟨m,hn,hl⟩:=I.loc;obtain⟨u,r,l⟩:=hl i x v hN e hv;have fin:EP X pins σ Q u s:=⟨v,H,I,r,h⟩
 rcases l with ⟨hk,hm⟩ | ⟨hk,c,hc,hcell⟩
 ·exact wpAny_Name (wpAny_loadName_local I.ok.kind hk hn hm fin) hd
 ·rcases hk with hk | hk
  ·exact wpAny_Name (wpAny_loadName_cell I.ok.kind hk hc hcell fin) hd
  ·exact wpAny_Name (wpAny_loadName_free I.ok.kind hk hc hcell fin hcd) hd
theorem aE {i j pos}:PE X (.Constant (.int i) j pos) (tC (.int i)):=fun _ _ _ H _ I h=>wpAny_Constant_int ⟨.int i,H,I.tok _,⟨_,rfl⟩,h⟩
theorem iH {b j pos}:PE X (.Constant (.bool b) j pos) (tC (.bl b)):=fun _ _ _ H _ I h=>Constant_bool ⟨.bl b,H,I,rfl,h⟩
theorem Xe {j pos}:PE X (.Constant .none j pos) (tC .non):=fun _ _ _ H _ I h=>Constant_none ⟨.non,H,I,rfl,h⟩
theorem cS {x j pos}:PE X (.Constant (.str x) j pos) (tC (.str x)):=fun _ _ _ H _ I h=>Calls.Constant_str ⟨.str x,H,I.tok _,⟨_,rfl⟩,h⟩
def Gl (X:Cx)(x:Str):Prop:=X.env.kindOf x=some .globalImplicit
theorem xU {E:Value->Shared->Prop}{pins:List (Addr × Obj)}{s:Shared}{σ:St}{H:Hp}{x:Str}{u:Value}{pos:Pos}{Q:Value->Shared->Prop}(I:Inv X pins σ H s)(hg:Gl X x)(hm:X.mg x=some u)(h:Q u s)(hd:(x == ("__debug__":Str))=false:=by decide):wpAny (model X.prog X.w) X.A (eval (.Name x pos) X.env) Q E s:=
 Calls.Name_function_global I.ok.kind hg (Calls.loadGlobal_global (by rw[I.ok.glob];exact I.mod.glob.keeps I.bk) hm h) hd
theorem jD {E:Value->Shared->Prop}{pins:List (Addr × Obj)}{s:Shared}{σ:St}{H:Hp}{x:Str}{u:Value}{pos:Pos}{Q:Value->Shared->Prop}(I:Inv X pins σ H s)(hg:Gl X x)(hm:X.mg x=none)(hv:bootBuiltins x=some u)(h:Q u s)(hn:x≠"__name__":=by decide)(hd:(x == ("__debug__":Str))=false:=by decide):wpAny (model X.prog X.w) X.A (eval (.Name x pos) X.env) Q E s:=by
 obtain⟨mb,h1,h2⟩:=I.mod.blt;exact Calls.Name_function_global I.ok.kind hg (Calls.loadGlobal_builtin (by rw[I.ok.glob];exact I.mod.glob.keeps I.bk) hm (by rw[I.ok.blt];exact h1.keeps I.bk) ((h2 x hn).trans hv) h) hd
theorem cW {x:Str}{v:V}{u:Value}{pos:Pos}(hg:Gl X x)(hm:X.mg x=some u)(r:bU v u)(hd:(x == ("__debug__":Str))=false:=by decide):PE X (.Name x pos) (tC v):=
 fun _ _ _ H _ I h=>xU I hg hm ⟨v,H,I,r,h⟩ hd
theorem Su {x:Str}{v:V}{u:Value}{pos:Pos}(hg:Gl X x)(hm:X.mg x=none)(hv:bootBuiltins x=some u)(r:bU v u)(hn:x≠"__name__":=by decide)(hd:(x == ("__debug__":Str))=false:=by decide):PE X (.Name x pos) (tC v):=
 fun _ _ _ H _ I h=>jD I hg hm hv ⟨v,H,I,r,h⟩ hn hd
variable {a b:Expr} {ta tb:TE} {pos:Pos}
def PC (X:Cx)(op:CmpOp)(a b:Expr)(t:TE):Prop:=
 ∀(pins:List (Addr × Obj)) (s:Shared) (σ:St) (H:Hp) (Q:VK),Inv X pins σ H s->t σ H Q->
  wpAny (model X.prog X.w) X.A (eval a X.env) (fun v s₁=>wpAny (model X.prog X.w) X.A (eval b X.env) (fun u s₂=>wpAny (model X.prog X.w) X.A (compareOp op v u) (EP X pins σ Q) X.xe s₂) X.xe s₁) X.xe s
theorem Lv (b:Expr){op:CmpOp}(h:op≠.In)(h2:op≠.NotIn):behindInMarks op b=false:=by
 have e1:(op == CmpOp.In)=false:=by cases op<;>first | rfl | exact absurd rfl h
 have e2:(op == CmpOp.NotIn)=false:=by cases op<;>first | rfl | exact absurd rfl h2
 cases b<;>simp[behindInMarks,e1,e2]
def qh0 (ta:TE):TE:=fun σ H Q=>ta σ H fun x H1=>Q (.bl (decide (x=.non))) H1
theorem bU.none_iff {x:V}{v:Value}(r:bU x v):(v == Value.none)=decide (x=.non):=by
 cases x with
 |non=>cases r;rfl
 |bl _=>cases r;rfl
 |int _=>obtain⟨t,rfl⟩:=r;rfl
 |str _=>obtain⟨t,rfl⟩:=r;rfl
 |byt _=>obtain⟨t,rfl⟩:=r;rfl
 |flt _=>obtain⟨t,rfl⟩:=r;rfl
 |ref _=>cases r;rfl
 |ty _=>cases r;rfl
theorem Dr {j pos'}(ha:PE X a ta):PC X .Is a (.Constant .none j pos') (qh0 ta):=by
 intro pins s σ H Q I h;refine thn (ha pins s σ H _ I h) fun v s1 ⟨x,H1,I1,r1,q1⟩=>?_;exact Constant_none (is_none_gen ⟨.bl _,H1,I1,by rw[r1.none_iff];rfl,q1⟩)
def tB (t:TE):TT:=fun σ H Q=>t σ H fun x H1=>∃c,x=.bl c/\Q c H1
theorem zF {op:CmpOp}{t:TE}(h:PC X op a b t)(h1:behindInMarks op b=false:=by first | exact Lv _ (by decide) (by decide) | rfl):PT X (.Compare a [op] [b] pos) (tB t):=by
 intro pins s σ H Q I hw;refine wpAny_isTrue_Compare1 (thn (h pins s σ H _ I hw) fun v s1 h1=>thn h1 fun u s2 h2=>thn h2 fun c s3 ⟨x,H1,I1,r1,q1⟩=>?_) h1;obtain⟨d,rfl,q⟩:=q1
 cases r1
 exact wpAny_truthy_bool ⟨H1,I1,q⟩
theorem eG {e:Expr}{t:TE}(h:PE X e t)(he:∀whole,isTrue e X.env whole=(do let v <- whole;standAt e.pos;holding [v] (truthy v)):=by intro _;rfl):PT X e (tB t):=by
 intro pins s σ H Q I hw;refine isTrue_plain (thn (h pins s σ H _ I hw) fun v s1 ⟨x,H1,I1,r1,q1⟩=>?_) (he _);obtain⟨d,rfl,q⟩:=q1
 cases r1
 exact wpAny_truthy_bool ⟨H1,I1,q⟩
variable {tA tB':TT} {rest:List Expr}
def qj1 (t u:TT):TT:=fun σ H Q=>t σ H fun c H1=>if c=true then u σ H1 Q else Q false H1
def tOr (t u:TT):TT:=fun σ H Q=>t σ H fun c H1=>if c=true then Q true H1 else u σ H1 Q
def qh7 (t:TT):TT:=fun σ H Q=>t σ H fun c H1=>Q (!c) H1
theorem oB (ha:PT X a tA):PW X (.BoolOp .And [a] pos) tA:=by
 intro wh pins s σ H Q I h;refine isTrue_and (thn (ha pins s σ H Q I h) fun c s1 e=>?_)
 cases c with
 |true=>exact isTrue_and_nil e
 |false=>exact e
theorem lU (ha:PT X a tA):PW X (.BoolOp .Or [a] pos) tA:=by
 intro wh pins s σ H Q I h;refine isTrue_or (thn (ha pins s σ H Q I h) fun c s1 e=>?_)
 cases c with
 |false=>exact isTrue_or_nil e
 |true=>exact e
theorem rV (ha:PT X a tA)(hb:PW X (.BoolOp .And (b :: rest) pos) tB'):PW X (.BoolOp .And (a :: b :: rest) pos) (qj1 tA tB'):=by
 intro wh pins s σ H Q I h;refine isTrue_and (thn (ha pins s σ H _ I h) fun c s1 ⟨H1,I1,q1⟩=>?_)
 cases c with
 |true=>exact hb wh pins s1 σ H1 Q I1 q1
 |false=>exact⟨H1,I1,q1⟩
theorem nX (ha:PT X a tA)(hb:PW X (.BoolOp .Or (b :: rest) pos) tB'):PW X (.BoolOp .Or (a :: b :: rest) pos) (tOr tA tB'):=by
 intro wh pins s σ H Q I h;refine isTrue_or (thn (ha pins s σ H _ I h) fun c s1 ⟨H1,I1,q1⟩=>?_)
 cases c with
 |true=>exact⟨H1,I1,q1⟩
 |false=>exact hb wh pins s1 σ H1 Q I1 q1
theorem gB (ha:PT X a tA):PT X (.UnaryOp .Not a pos) (qh7 tA):=by
 intro pins s σ H Q I h;exact isTrue_not (ha pins s σ H (fun c H1=>Q (!c) H1) I h)
def qe2 (ta tb:TE):TE:=fun σ H Q=>ta σ H fun x H1=>∃c,x=.bl c/\if c=true then tb σ H1 Q else Q (.bl false) H1
def qh8 (ta tb:TE):TE:=fun σ H Q=>ta σ H fun x H1=>∃c,x=.bl c/\if c=true then Q (.bl true) H1 else tb σ H1 Q
def qd4 (ta:TE):TE:=fun σ H Q=>ta σ H fun x H1=>∃c,x=.bl c/\Q (.bl (!c)) H1
theorem uF {op}{t:TE}(h:PE X a t):PE X (.BoolOp op [a] pos) t:=fun pins s σ H Q I hw=>BoolOp_one (h pins s σ H Q I hw)
theorem uJ (ha:PE X a ta)(hb:PE X (.BoolOp .And (b :: rest) pos) tb):PE X (.BoolOp .And (a :: b :: rest) pos) (qe2 ta tb):=by
 intro pins s σ H Q I h;refine BoolOp_and (thn (ha pins s σ H _ I h) fun v s1 ⟨x,H1,I1,r1,q1⟩=>?_);obtain⟨c,rfl,q1⟩:=q1
 cases r1
 refine wpAny_truthy_bool ?_
 cases c with
 |true=>exact hb pins s1 σ H1 Q I1 q1
 |false=>exact⟨.bl false,H1,I1,rfl,q1⟩
theorem qa3 (ha:PE X a ta)(hb:PE X (.BoolOp .Or (b :: rest) pos) tb):PE X (.BoolOp .Or (a :: b :: rest) pos) (qh8 ta tb):=by
 intro pins s σ H Q I h;refine BoolOp_or (thn (ha pins s σ H _ I h) fun v s1 ⟨x,H1,I1,r1,q1⟩=>?_);obtain⟨c,rfl,q1⟩:=q1
 cases r1
 refine wpAny_truthy_bool ?_
 cases c with
 |false=>exact hb pins s1 σ H1 Q I1 q1
 |true=>exact⟨.bl true,H1,I1,rfl,q1⟩
theorem Yv (ha:PE X a ta):PE X (.UnaryOp .Not a pos) (qd4 ta):=by
 intro pins s σ H Q I h;refine UnaryOp_ (thn (ha pins s σ H _ I h) fun v s1 ⟨x,H1,I1,r1,q1⟩=>?_);obtain⟨c,rfl,q1⟩:=q1
 cases r1
 exact not_of (wpAny_truthy_bool ⟨.bl (!c),H1,I1,rfl,q1⟩)
def tIf (t:TT)(ta tb:TE):TE:=fun σ H Q=>t σ H fun c H1=>if c=true then ta σ H1 Q else tb σ H1 Q
theorem rC {c:Expr}(hc:PT X c tA)(ha:PE X a ta)(hb:PE X b tb):PE X (.IfExp c a b pos) (tIf tA ta tb):=by
 intro pins s σ H Q I h;refine wpAny_IfExp (thn (hc pins s σ H _ I h) fun d s1 ⟨H1,I1,q1⟩=>?_)
 cases d with
 |true=>exact ha pins s1 σ H1 Q I1 q1
 |false=>exact hb pins s1 σ H1 Q I1 q1
end
def SqL (K:Frag)(H:Hp)(a:Addr)(xs:List V):Prop:=
 Rd H a (.lst xs)\/
  ∃(o:Obj) (its:Array Value) (n:Nat),K.lookup a=some o/\o.cls=.type "list"/\o.dict=none/\o.data=.seq its n/\its.size<=sizeLine/\bQ xs its.toList
def SqT (K:Frag)(H:Hp)(a:Addr)(xs:List V):Prop:=
 Rd H a (.tup xs)\/
  ∃(o:Obj) (its:Array Value) (n:Nat),K.lookup a=some o/\o.cls=.type "tuple"/\o.data=.seq its n/\its.size<=sizeLine/\bQ xs its.toList
def qg4:Value->Option V
 | .none=>some .non
 | .bool b=>some (.bl b)
 | .int i _=>some (.int i)
 | .str x _=>some (.str x)
 | .bytes b _=>some (.byt b)
 | .float b _=>some (.flt b)
 | .ref a=>some (.ref a)
 | .type n=>some (.ty n)
 |_=>none
theorem bU.abs {x:V}{u:Value}(r:bU x u):qg4 u=some x:=by
 cases x with
 |non=>cases r;rfl
 |bl _=>cases r;rfl
 |int _=>obtain⟨t,rfl⟩:=r;rfl
 |str _=>obtain⟨t,rfl⟩:=r;rfl
 |byt _=>obtain⟨t,rfl⟩:=r;rfl
 |flt _=>obtain⟨t,rfl⟩:=r;rfl
 |ref _=>cases r;rfl
 |ty _=>cases r;rfl
theorem bU.inj {x y:V}{u:Value}(r:bU x u)(q:bU y u):x=y:=Option.some.inj (r.abs.symm.trans q.abs)
theorem bQ.inj:∀{xs ys:List V} {us:List Value},bQ xs us->bQ ys us->xs=ys
 |_,_,_,.nil,.nil=>rfl
 |_,_,_,.cons r t,.cons r' t'=>by rw[r.inj r',bQ.inj t t']
section
variable {X:Cx} {pins:List (Addr × Obj)} {σ:St} {H:Hp} {s:Shared} {a:Addr} {xs ys:List V}
theorem SqL.of {K:Frag}(h:H a=some (.lst xs)):SqL K H a xs:=.inl (.inl h)
theorem SqT.of {K:Frag}(h:H a=some (.tup xs)):SqT K H a xs:=.inl (.inl h)
theorem Inv.list (I:Inv X pins σ H s)(h:SqL X.K H a xs):∃its:List Value,bQ xs its/\PlainL s.heap a its.toArray/\xs.length<=sizeLine:=by
 rcases h with h | ⟨o,its,n,hk,hc,hd,hs,hz,r⟩
 ·obtain⟨z,its,n,r,e⟩:=h.ok I.hok;exact⟨its,r,⟨_,n,e,rfl,rfl,rfl⟩,z⟩
 ·refine⟨its.toList,r,⟨o,n,I.kIn a o hk,hc,hd,by simpa using hs⟩,?_⟩;have e:=r.length;simp only[Array.length_toList] at e;lia
theorem Inv.tuple (I:Inv X pins σ H s)(h:SqT X.K H a xs):∃its:List Value,bQ xs its/\IsTup s.heap a its.toArray/\xs.length<=sizeLine:=by
 rcases h with h | ⟨o,its,n,hk,hc,hs,hz,r⟩
 ·obtain⟨z,its,r,p⟩:=h.ok I.hok;exact⟨its,r,p,z⟩
 ·refine⟨its.toList,r,⟨o,I.kIn a o hk,hc,n,by simpa using hs⟩,?_⟩;have e:=r.length;simp only[Array.length_toList] at e;lia
theorem Inv.list_inj (I:Inv X pins σ H s)(h:SqL X.K H a xs)(h':SqL X.K H a ys):xs=ys:=by
 obtain⟨its,r,⟨o,n,e,_,_,d⟩,_⟩:=I.list h;obtain⟨its',r',⟨o',n',e',_,_,d'⟩,_⟩:=I.list h';rw[e] at e';cases e';rw[d] at d';injection d' with d1 _
 have:its=its':=by simpa using congrArg Array.toList d1
 subst this;exact r.inj r'
theorem Inv.tuple_inj (I:Inv X pins σ H s)(h:SqT X.K H a xs)(h':SqT X.K H a ys):xs=ys:=by
 obtain⟨its,r,⟨o,e,_,n,d⟩,_⟩:=I.tuple h;obtain⟨its',r',⟨o',e',_,n',d'⟩,_⟩:=I.tuple h';rw[e] at e';cases e';rw[d] at d';injection d' with d1 _
 have:its=its':=by simpa using congrArg Array.toList d1
 subst this;exact r.inj r'
end
abbrev Cx.wish (X:Cx)(E:Value->Shared->Prop):Cx:={ X with xe:=E }
abbrev Cx.nox (X:Cx):Cx:=X.wish fun _ _=>False
theorem Cx.Ok.wish {X:Cx}(ok:X.Ok)(E:Value->Shared->Prop):(X.wish E).Ok:=
 ⟨ok.mod,ok.kind,ok.glob,ok.blt,ok.above,ok.inj,ok.has,ok.cab,ok.hd,ok.frames,ok.stk,ok.exf,ok.bs,ok.bsz,ok.noex,ok.exfs,ok.funs,ok.frf⟩
theorem Cx.Ok.unwish {X:Cx}{E:Value->Shared->Prop}(ok:(X.wish E).Ok):X.Ok:=
 ⟨ok.mod,ok.kind,ok.glob,ok.blt,ok.above,ok.inj,ok.has,ok.cab,ok.hd,ok.frames,ok.stk,ok.exf,ok.bs,ok.bsz,ok.noex,ok.exfs,ok.funs,ok.frf⟩
section
variable {X:Cx} {pins:List (Addr × Obj)} {σ:St} {H:Hp} {s:Shared} {E:Value->Shared->Prop}
theorem Inv.wish (I:Inv X pins σ H s)(E:Value->Shared->Prop):Inv (X.wish E) pins σ H s:=⟨I.ok.wish E,I.os,I.bare,I.base,I.loc,I.cell,I.free,I.freeC,I.pin,I.hok,I.len⟩
theorem Inv.unwish (I:Inv (X.wish E) pins σ H s):Inv X pins σ H s:=⟨I.ok.unwish,I.os,I.bare,I.base,I.loc,I.cell,I.free,I.freeC,I.pin,I.hok,I.len⟩
theorem SP.unwish {D:lY}{f:Flow}{s':Shared}(h:SP (X.wish E) pins D f s'):SP X pins D f s':=by
 cases f with
 |next=>obtain⟨σ',H',I,q⟩:=h;exact⟨σ',H',I.unwish,q⟩
 |brk=>obtain⟨σ',H',I,q⟩:=h;exact⟨σ',H',I.unwish,q⟩
 |cont=>obtain⟨σ',H',I,q⟩:=h;exact⟨σ',H',I.unwish,q⟩
 |ret u=>obtain⟨v,σ',H',I,r,q⟩:=h;exact⟨v,σ',H',I.unwish,r,q⟩
theorem PSs.nox {st:List Stmt}{t:TS}(h:PSs X.nox st t):PSs X st t:=fun pins s σ H D I hw=>
 wpAny_mono (h pins s σ H D (I.wish _) hw) (fun _ _ q=>q.unwish) fun _ _ z=>False.elim z
end
section
variable {X:Cx} {st:Stmt} {rest:List Stmt} {t u:TS} {e:Expr} {te:TE} {pos:Pos}
def Zy:TS:=fun D σ H=>D.nx σ H
def iM (t u:TS):TS:=fun D σ H=>t { D with nx:=u D } σ H
theorem bK:PSs X [] Zy:=fun _ _ σ H _ I h=>wpAny_execs_nil ⟨σ,H,I,h⟩
theorem aB (h1:PS X st t)(h2:PSs X rest u):PSs X (st :: rest) (iM t u):=by
 intro pins s σ H D I h;refine wpAny_execs_cons (thn (h1 pins s σ H { D with nx:=u D } I h) fun f s1 q=>?_)
 cases f with
 |next=>
  obtain⟨σ',H',I',q⟩:=q;exact h2 pins s1 σ' H' D I' q
 |ret v=>exact q
 |brk=>exact q
 |cont=>exact q
theorem aF (h1:PS X st t):PSs X [st] t:=by
 intro pins s σ H D I h;refine wpAny_execs_cons (thn (h1 pins s σ H D I h) fun f s1 q=>?_)
 cases f with
 |next=>exact wpAny_execs_nil q
 |ret v=>exact q
 |brk=>exact q
 |cont=>exact q
def qe9:TS:=fun D σ H=>D.ct σ H
theorem zZ:PS X (.Continue pos) qe9:=fun _ _ σ H _ I h=>wpAny_Continue ⟨σ,H,I,h⟩
theorem Inv.quiet {pins:List (Addr × Obj)}{σ:St}{H:Hp}{s:Shared}(I:Inv X pins σ H s):interactive X.env=false:=by simp[interactive,I.ok.kind]
def Zm (te:TE):TS:=fun D σ H=>te σ H fun _ H1=>D.nx σ H1
theorem bN (he:PE X e te)(hs:swapsWith e none pos.line X.env=pure false:=by rfl):PS X (.Expr e pos) (Zm te):=by
 intro pins s σ H D I h;exact wpAny_Expr_any (thn (he pins s σ H _ I h) fun v s1 ⟨x,H1,I1,r1,q1⟩=>⟨σ,H1,I1,q1⟩) I.quiet hs
def qg7 (te:TE):TS:=fun D σ H=>te σ H D.rt
theorem aV (he:PE X e te):PS X (.Return (some e) pos) (qg7 te):=by
 intro pins s σ H D I h;exact wpAny_Return_some (thn (he pins s σ H _ I h) fun v s1 ⟨x,H1,I1,r1,q1⟩=>⟨x,σ,H1,I1,r1,q1⟩)
def qh3 (c:TT)(t u:TS):TS:=fun D σ H=>c σ H fun b H1=>if b=true then t D σ H1 else u D σ H1
theorem cC {c:Expr}{a b:List Stmt}{tc:TT}(hc:PT X c tc)(ha:PSs X a t)(hb:PSs X b u):PS X (.If c a b pos) (qh3 tc t u):=by
 intro pins s σ H D I h;refine wpAny_If (thn (hc pins s σ H _ I h) fun d s1 ⟨H1,I1,q1⟩=>?_)
 cases d with
 |true=>exact ha pins s1 σ H1 D I1 q1
 |false=>exact hb pins s1 σ H1 D I1 q1
def Lp:TS:=fun _ _ _=>False
theorem eT:PS X st Lp:=fun _ _ _ _ _ _ h=>h.elim
theorem Hf {sts:List Stmt}:PSs X sts Lp:=fun _ _ _ _ _ _ h=>h.elim
end
abbrev TG:=V->St->Hp->(St->Hp->Prop)->Prop
abbrev TGs:=List V->St->Hp->(St->Hp->Prop)->Prop
def PG (X:Cx)(target:Expr)(t:TG):Prop:=
 ∀(pins:List (Addr × Obj)) (s:Shared) (σ:St) (H:Hp) (v:V) (u:Value) (Q:St->Hp->Prop),Inv X pins σ H s->bU v u->t v σ H Q->
  wpAny (model X.prog X.w) X.A (assign target X.env u) (fun _ s'=>∃σ' H',Inv X pins σ' H' s'/\Q σ' H') X.xe s
def PGs (X:Cx)(ts:List Expr)(t:TGs):Prop:=
 ∀(pins:List (Addr × Obj)) (s:Shared) (σ:St) (H:Hp) (vs:List V) (us:List Value) (Q:St->Hp->Prop),Inv X pins σ H s->bQ vs us->t vs σ H Q->
  wpAny (model X.prog X.w) X.A (assignInOrder ((assignEach ts X.env).map (·.2)) us) (fun _ s'=>∃σ' H',Inv X pins σ' H' s'/\Q σ' H') X.xe s
abbrev Yr:=V->V->V->Hp->(Hp->Prop)->Prop
def qa9 (X:Cx)(t:Yr):Prop:=
 ∀(pins:List (Addr × Obj)) (s:Shared) (σ:St) (H:Hp) (o i v:V) (ov iv u:Value) (Q:Hp->Prop),Inv X pins σ H s->bU o ov->bU i iv->bU v u->t o i v H Q->
  wpAny (model X.prog X.w) X.A (setItem ov iv u) (fun _ s'=>∃H',Inv X pins σ H' s'/\Q H') X.xe s
abbrev TIp:=V->V->Hp->VK->Prop
def PIp (X:Cx)(op:Operator)(t:TIp):Prop:=
 ∀(pins:List (Addr × Obj)) (s:Shared) (σ:St) (H:Hp) (x y:V) (v u:Value) (Q:VK),Inv X pins σ H s->bU x v->bU y u->t x y H Q->
  wpAny (model X.prog X.w) X.A (inplaceOp op v u) (EP X pins σ Q) X.xe s
section
variable {X:Cx} {pos:Pos}
def iS (i:Nat):TG:=fun v σ H Q=>Q (σ.set i (some v)) H
theorem aZ {i:Nat}{x:Str}(hN:X.N.Nodup)(hi:X.N[i]?=some x)(hx:Loc X.env.scope x)(hf:X.fn x=true\/X.env.scope.names.lookup x=some .local:=by first | exact .inl rfl | exact .inr rfl | assumption):PG X (.Name x pos) (iS i):=by
 intro pins s σ H v u Q I r h;exact wpAny_assign_Name (jS I hN hi hx r (fun s' I'=>⟨_,H,I',h⟩) hf)
def Jx:TGs:=fun vs σ H Q=>vs=[]/\Q σ H
def jQ (t:TG)(u:TGs):TGs:=fun vs σ H Q=>∃v r,vs=v :: r/\t v σ H fun σ' H'=>u r σ' H' Q
theorem gR:PGs X [] Jx:=by
 intro pins s σ H vs us Q I r h;obtain⟨e,h⟩:=h;subst e
 cases r
 exact assignInOrder_nil ⟨σ,H,I,h⟩
theorem cK {e:Expr}{es:List Expr}{t:TG}{u:TGs}(h1:PG X e t)(h2:PGs X es u)(hs:(assignEach (e :: es) X.env).map (·.2)=assign e X.env :: (assignEach es X.env).map (·.2):=by rfl):PGs X (e :: es) (jQ t u):=by
 intro pins s σ H vs us Q I r h;obtain⟨v,vr,e1,h⟩:=h;subst e1
 cases r with
 |cons r rr=>
  rw[hs];refine assignInOrder_cons (thn (h1 pins s σ H _ _ _ I r h) fun _ s1 ⟨σ1,H1,I1,q1⟩=>?_);exact h2 pins s1 σ1 H1 _ _ Q I1 rr q1
def Jr (K:Frag)(n:Nat)(t:TGs):TG:=fun v σ H Q=>∃a xs,v=.ref a/\SqT K H a xs/\xs.length=n/\t xs σ H Q
theorem iY {es:List Expr}{k:Nat}{t:TGs}{n:Nat}(hc:X.calm=true)(h:PGs X es t)(hn:(assignEach es X.env).length=n:=by rfl)(hst:(assignEach es X.env).findIdx? (·.1)=none:=by rfl):PG X (.Tuple es k pos) (Jr X.K n t):=by
 intro pins s σ H v u Q I r hw;obtain⟨a,xs,e1,hq,hl,hw⟩:=hw;subst e1
 cases r
 obtain⟨its,rv,ht,hz⟩:=I.tuple hq;refine assign_Tuple_tuple (I.ok.hd hc) ht (by simp[hn,<- hl,rv.length]) hst fun h' hx=>?_;have I1:Inv X pins σ H { s with heap:=h' }:=I.kept (t':=s.toks) fun b o e=>hx b o (Nat.ne_of_lt (Heap.lt_size e)) e;exact h pins _ σ H xs _ Q I1 (by simpa using rv) hw
def qg3 (to ti:TE)(t:Yr):TG:=fun v σ H Q=>to σ H fun o H1=>ti σ H1 fun i H2=>t o i v H2 fun H3=>Q σ H3
theorem yI {o i:Expr}{to ti:TE}{t:Yr}(ho:PE X o to)(hi:PE X i ti)(hs:qa9 X t)(ha:∀v,assign (.Subscript o i pos) X.env v=(do
   let ov <- holding [v] (eval o X.env)
   let iv <- holding [v,ov] (eval i X.env)
   standAt pos
   holding [v,ov,iv] (setItem ov iv v)
   release [v,ov,iv] []):=by intro _;rfl):PG X (.Subscript o i pos) (qg3 to ti t):=by
 intro pins s σ H v u Q I r h;rw[ha];refine wpAny_bind (wpAny_holding (thn (ho pins s σ H _ I h) fun ov s1 ⟨x,H1,I1,r1,q1⟩=>?_));refine wpAny_bind (wpAny_holding (thn (hi pins s1 σ H1 _ I1 q1) fun iv s2 ⟨y,H2,I2,r2,q2⟩=>?_));refine wpAny_bind (wpAny_standAt (wpAny_bind (wpAny_holding (thn (hs pins s2 σ H2 x y v ov iv u _ I2 r1 r2 r q2) fun _ s3 ⟨H3,I3,q3⟩=>?_))));exact wpAny_release ⟨σ,H3,I3,q3⟩
def Yd (te:TE)(g:TG):TS:=fun D σ H=>te σ H fun x H1=>g x σ H1 D.nx
theorem tF {tg e:Expr}{te:TE}{g:TG}(he:PE X e te)(hg:PG X tg g)(hs:swapsWithSole [tg] e pos.line X.env=pure false:=by rfl)(hw:swappedStores [tg] e X.env=pure none:=by rfl)(h1:(assignEach [tg] X.env).map (·.2)=[assign tg X.env]:=by rfl):PS X (.Assign [tg] e pos) (Yd te g):=by
 intro pins s σ H D I h;refine wpAny_Assign_stores (thn (he pins s σ H _ I h) fun v s1 ⟨x,H1,I1,r1,q1⟩=>?_) hs hw;rw[h1];exact thn (hg pins s1 σ H1 x v _ I1 r1 q1) fun _ s2 q=>q
theorem aR {i:Nat}{x:Str}{e:Expr}{te:TE}{pos':Pos}(hN:X.N.Nodup)(hi:X.N[i]?=some x)(hx:Loc X.env.scope x)(he:PE X e te)(hs:swapsWith e (some (.Name x pos')) pos.line X.env=pure false:=by rfl)(hf:X.fn x=true\/X.env.scope.names.lookup x=some .local:=by first | exact .inl rfl | exact .inr rfl | assumption) :
  PS X (.Assign [.Name x pos'] e pos) (Yd te (iS i)):=by
 intro pins s σ H D I h;refine wpAny_Assign_Name (thn (he pins s σ H _ I h) fun v s1 ⟨y,H1,I1,r1,q1⟩=>?_) hs;exact jS I1 hN hi hx r1 (fun s2 I2=>⟨_,H1,I2,q1⟩) hf
def qh5 (i j:Nat)(ta:TA):TS:=fun D σ H=>ta σ H fun vs H1=>∃v w,vs=[v,w]/\D.nx ((σ.set i (some v)).set j (some w)) H1
theorem Oq {i j:Nat}{x y:Str}{a b:Expr}{ta:TA}{px py pt:Pos}{kt k2 pt2}(hc:X.calm=true)(hN:X.N.Nodup)(hi:X.N[i]?=some x)(hj:X.N[j]?=some y)(hij:i≠j)(hx:X.env.scope.names.lookup x=some .local)(hy:X.env.scope.names.lookup y=some .local)(ha:PA X [a,b] ta)(hw:swappedStores [.Tuple [.Name x px,.Name y py] kt pt] (.Tuple [a,b] k2 pt2) X.env=pure (some [x,y]))(hs:swapsWithSole [.Tuple [.Name x px,.Name y py] kt pt] (.Tuple [a,b] k2 pt2) pos.line X.env=pure false:=by rfl) :
  PS X (.Assign [.Tuple [.Name x px,.Name y py] kt pt] (.Tuple [a,b] k2 pt2) pos) (qh5 i j ta):=by
 intro pins s σ H D I h;rw[exec_Assign_arm];refine wpAny_bind (wpAny_standAt ?_);rw[hs];refine wpAny_bind (wpAny_pure ?_);rw[if_neg (by decide)];refine wpAny_bind (Tuple_ (thn (ha _ pins s σ H _ I h) fun us s1 ⟨vs,H1,I1,r1,q1⟩=>?_));obtain⟨v,w,e1,q1⟩:=q1;subst e1;obtain⟨u1,u2,rfl,rv,rw'⟩:∃u1 u2,us=[u1,u2]/\bU v u1/\bU w u2:=by
  cases r1 with
  |cons p q=>
   cases q with
   |cons p' q'=>
    cases q'
    exact⟨_,_,rfl,p,p'⟩
 refine wpAny_newObj_type ?_ (by show 2<=sizeLine;decide);have I2:Inv X pins σ H1 { s1 with heap:=s1.heap.push { cls:=.type "tuple",data:=.seq [u1,u2].toArray } }:=I1.kept (t':=s1.toks) fun b o e=>Heap.get?_push_of_some _ e;rw[hw];refine wpAny_bind (wpAny_pure ?_);show wpAny (model X.prog X.w) X.A (do rule "assign.swapped-stores";let items <- unpackItems (.ref s1.heap.objs.size) 2 none;assignInOrder [fun v=>bindName X.env y v,fun v=>bindName X.env x v] items.reverse;pure Flow.next) _ _ _;refine wpAny_bind (wpAny_rule (wpAny_bind (unpackItems_tuple (items:=#[u1,u2]) (I.ok.hd hc) (IsTup.new s1.heap _) fun h' hx'=>?_)));have I3:=I2.kept (h':=h') (t':=s1.toks) fun b o e=>hx' b o (Nat.ne_of_lt (Heap.lt_size e)) e;show wpAny _ _ (assignInOrder [fun v=>bindName X.env y v,fun v=>bindName X.env x v] [u2,u1] >>= fun _=>pure Flow.next) _ _ _;refine wpAny_bind (assignInOrder_cons (wpAny_bindName (jS I3 hN hj (.inl hy) rw' (fun s2 I4=>?_) (.inr hy))));refine assignInOrder_cons (wpAny_bindName (jS I4 hN hi (.inl hx) rv (fun s3 I5=>assignInOrder_nil (wpAny_pure ?_)) (.inr hx)));rw[set_comm _ _ (Ne.symm hij)] at I5;exact⟨_,H1,I5,q1⟩
def qi7 (i:Nat)(te:TE)(ti:TIp):TS:=fun D σ H=>∃x,σ[i]?=some (some x)/\te σ H fun y H1=>ti x y H1 fun z H2=>D.nx (σ.set i (some z)) H2
theorem Nx {i:Nat}{x:Str}{e:Expr}{te:TE}{op:Operator}{ti:TIp}{pos':Pos}(hN:X.N.Nodup)(hi:X.N[i]?=some x)(hx:Loc X.env.scope x)(he:PE X e te)(ho:PIp X op ti)(hf:X.fn x=true\/X.env.scope.names.lookup x=some .local:=by first | exact .inl rfl | exact .inr rfl | assumption) :
  PS X (.AugAssign (.Name x pos') op e pos) (qi7 i te ti):=by
 intro pins s σ H D I h;obtain⟨v,e1,h⟩:=h;obtain⟨m,hn,hl⟩:=I.loc;have vis:Vis X.env.scope x:=by rcases hx with k | k;exact .inl k;exact .inr (.inl k)
 obtain⟨u,r,l⟩:=hl i x v hi e1 vis;refine wpAny_AugAssign_Name ?_;have go:wpAny (model X.prog X.w) X.A (eval e X.env) (fun w s₂=>wpAny (model X.prog X.w) X.A (inplaceOp op u w) (fun r s₃=>wpAny (model X.prog X.w) X.A (storeName X.env x r) (fun _=>SP X pins D .next) X.xe s₃) X.xe s₂) X.xe s:=by
  refine thn (he pins s σ H _ I h) fun w s1 ⟨y,H1,I1,r1,q1⟩=>?_;refine thn (ho pins s1 σ H1 v y u w _ I1 r r1 q1) fun z s2 ⟨zv,H2,I2,r2,q2⟩=>?_;exact jS I2 hN hi hx r2 (fun s3 I3=>⟨_,H2,I3,q2⟩) hf
 rcases l with ⟨hk,hm⟩ | ⟨hk,c,hc,hcell⟩
 ·exact wpAny_loadName_local I.ok.kind hk hn hm go
 ·rcases hk with hk | hk
  ·exact wpAny_loadName_cell I.ok.kind hk hc hcell go
  ·rcases hx with k | k
   ·have:X.env.scope.names.lookup x=some .free:=hk;rw[k] at this;cases this
   ·have:X.env.scope.names.lookup x=some .free:=hk;rw[k] at this;cases this
def ipI (f:Int->Int->Int):TIp:=fun x y H Q=>∃i j,x=.int i/\y=.int j/\Q (.int (f i j)) H
theorem Lq:PIp X .Add (ipI fun i j=>i+j):=by
 intro pins s σ H x y v u Q I r1 r2 h;obtain⟨i,j,e1,e2,q⟩:=h;subst e1;subst e2;obtain⟨t,rfl⟩:=r1;obtain⟨t',rfl⟩:=r2;exact iadd_int ⟨.int _,H,I.tok _,⟨_,rfl⟩,q⟩
def Lf (c:TT)(tb:TS):TS:=fun D σ H=>∃W:Nat->St->Hp->Prop,(∃m,W m σ H)/\∀m σ H,W m σ H->
 c σ H fun b H1=>if b=true then ∃N:St->Hp->Prop,(∀σ' H',N σ' H'->∃m',m' < m/\W m' σ' H')/\tb { D with nx:=N,ct:=N,bk:=D.nx } σ H1 else D.nx σ H1
theorem rN {c:Expr}{body:List Stmt}{tc:TT}{tb:TS}(hp:PassesOwn (model X.prog X.w) X.A X.env X.xe)(hc:PT X c tc)(hb:PSs X body tb):PS X (.While c body [] pos) (Lf tc tb):=by
 intro pins s σ H D I h;obtain⟨W,⟨m0,w0⟩,turn⟩:=h;refine wpAny_While (codeAny_whileLoop (fun n s'=>∃σ' H',Inv X pins σ' H' s'/\W n σ' H') ?_ m0 ⟨σ,H,I,w0⟩);rintro n s1 ⟨σ1,H1,I1,w1⟩;refine wpAny_passesOwn hp (thn (hc pins s1 σ1 H1 _ I1 (turn n σ1 H1 w1)) fun b s2 ⟨H2,I2,q2⟩=>?_)
 cases b with
 |true=>
  obtain⟨N,hN,q2⟩:=q2;rw[if_pos rfl];refine wpAny_passesOwn hp (thn (hb pins s2 σ1 H2 _ I2 q2) fun f s3 q3=>?_)
  cases f with
  |next=>
   obtain⟨σ3,H3,I3,n3⟩:=q3;obtain⟨m',hm,w3⟩:=hN σ3 H3 n3;exact⟨m',hm,σ3,H3,I3,w3⟩
  |cont=>
   obtain⟨σ3,H3,I3,n3⟩:=q3;obtain⟨m',hm,w3⟩:=hN σ3 H3 n3;exact⟨m',hm,σ3,H3,I3,w3⟩
  |brk=>exact q3
  |ret v=>exact q3
 |false=>
  rw[if_neg Bool.false_ne_true];exact wpAny_execs_nil ⟨σ1,H2,I2,q2⟩
end
structure It where
 go:Nat->Hp->Prop
 yld:Nat->Hp->V->Hp->Prop
 stop:Nat->Hp->Prop
def kY (X:Cx)(pins:List (Addr × Obj))(H:Hp)(b:Addr):Prop:=
 H b=none/\b≠X.env.locals/\b∉X.fs/\(b∈X.ex\/X.s₀.heap.objs.size<=b)/\(∀x c,X.env.cells.lookup x=some c->c≠b)/\∀p∈X.pn++pins,p.1≠b
theorem Inv.fpOk {X:Cx}{pins:List (Addr × Obj)}{σ:St}{H H':Hp}{s:Shared}{b:Addr}(I:Inv X pins σ H s)(hb:s.heap.objs.size<=b)(hn:H' b=none):kY X pins H' b:=by
 refine⟨hn,Nat.ne_of_gt (Nat.lt_of_lt_of_le I.lt hb),I.nofs hb,.inr (Nat.le_trans I.sz hb),fun x c e z=>?_,fun p hp z=>?_⟩
 ·obtain⟨v,q⟩:=I.cell x c e;exact absurd (Nat.lt_of_lt_of_le q.lt (by rw[z];exact hb)) (Nat.lt_irrefl _)
 ·exact absurd (Nat.lt_of_lt_of_le (Heap.lt_size (I.pin p hp).1) (by rw[z];exact hb)) (Nat.lt_irrefl _)
structure Jc (P:Program) (w:World) (K:Frag) (tg:Expr) (J:It) (fp:List Addr) (it:Addr) (tn:Nat->Heap->Prop):Prop where
 mem:it∈fp
 obj:∀i h,tn i h->∀b∈fp,∃o,h.get? b=some o/\∀v,o.data≠.cell v
 keep:∀i h h',tn i h->(∀b∈fp,∀o,h.get? b=some o->h'.get? b=some o)->tn i h'
 item:∀(X:Cx),X.prog=P->X.w=w->X.K=K->X.calm=true->∀(i:Nat) (pins:List (Addr × Obj)) (s:Shared) (σ:St) (H:Hp) (E:Value->Shared->Prop),Inv X pins σ H s->(∀b∈fp,kY X pins H b)->tn i s.heap->J.go i H->
  wpAny (model P w) X.A (pyNext (.ref it)) (fun r s1=>∃u,r=some u/\
   wpAny (model P w) X.A (letOwnedTupleGo tg (.ref it) u) (fun _ s2=>∃x H',Inv X pins σ H' s2/\bU x u/\J.yld i H x H'/\tn (i+1) s2.heap/\∀b∈fp,H' b=none) E s1) E s
 done:∀(X:Cx),X.prog=P->X.w=w->X.K=K->X.calm=true->∀(i:Nat) (pins:List (Addr × Obj)) (s:Shared) (σ:St) (H:Hp) (E:Value->Shared->Prop),Inv X pins σ H s->(∀b∈fp,kY X pins H b)->tn i s.heap->J.stop i H->
  wpAny (model P w) X.A (pyNext (.ref it)) (fun r s1=>r=none/\Inv X pins σ H s1) E s
 self:∀(A:Around) (i:Nat) (s:Shared) (Q:Value->Shared->Prop) (E:Value->Shared->Prop),tn i s.heap->Q (.ref it) s->wpAny (model P w) A (pyIter (.ref it)) Q E s
abbrev TI:=St->Hp->(It->Hp->Prop)->Prop
def PIE (X:Cx)(pins:List (Addr × Obj))(σ:St)(tg:Expr)(R:It->Hp->Prop)(itv:Value)(s2:Shared):Prop:=
 ∃(it:Addr) (fp:List Addr) (tn:Nat->Heap->Prop) (J:It) (H':Hp),itv=.ref it/\Inv X pins σ H' s2/\Jc X.prog X.w X.K tg J fp it tn/\tn 0 s2.heap/\(∀b∈fp,kY X pins H' b)/\R J H'
def PI (X:Cx)(tg iter:Expr)(wi:TI):Prop:=
 ∀(pins:List (Addr × Obj)) (s:Shared) (σ:St) (H:Hp) (R:It->Hp->Prop),Inv X pins σ H s->wi σ H R->
  wpAny (model X.prog X.w) X.A (eval iter X.env) (fun v s1=>wpAny (model X.prog X.w) X.A (pyIter v) (PIE X pins σ tg R) X.xe s1) X.xe s
theorem Mh {M : Model}{A : Around}{E : Value -> Shared -> Prop}{s : Shared}{tg : Expr}{it : Addr}{u : Value}{o : Obj}{n : String}{vs : Array Value}{Q : Unit -> Shared -> Prop}(ho : s.heap.get? it = some o)(hc : o.cls = .type n)(hd : o.data = .fields vs)(hn : ["enumerate", "zip", "dict_itemiterator", "dict_reverseitemiterator", "odict_iterator", "itertools.zip_longest", "itertools.pairwise"].contains n = false)(hQ : Q () s) : wpAny M A (letOwnedTupleGo tg (.ref it) u) Q E s := by
  unfold letOwnedTupleGo
  cases tg <;> first
    | exact wpAny_pure hQ
    | (cases u <;> first
        | exact wpAny_pure hQ
        | (refine wpAny_bind (wpAny_load ho ?_)
           rw [hc, hd];show wpAny M A (if (["enumerate", "zip", "dict_itemiterator", "dict_reverseitemiterator", "odict_iterator", "itertools.zip_longest", "itertools.pairwise"].contains n && vs[0]? == some (rawInt _)) = true then _ else _) Q E s;rw [if_neg (by intro h; rw [hn, Bool.false_and] at h; cases h)];exact wpAny_pure hQ))
def Itl (K:Frag)(a:Addr):It:=
 ⟨fun i H=>∃xs x,SqL K H a xs/\xs[i]?=some x,fun i H x H'=>H'=H/\∀xs,SqL K H a xs->xs[i]?=some x,fun i H=>∃xs,SqL K H a xs/\xs.length<=i⟩
def Itt (K:Frag)(a:Addr):It:=
 ⟨fun i H=>∃xs x,SqT K H a xs/\xs[i]?=some x,fun i H x H'=>H'=H/\∀xs,SqT K H a xs->xs[i]?=some x,fun i H=>∃xs,SqT K H a xs/\xs.length<=i⟩
def Itr (lo:Int)(n:Nat):It:=⟨fun i _=>i < n,fun i H x H'=>H'=H/\x=.int (lo+i),fun i _=>n<=i⟩
theorem Jm {P:Program}{w:World}{K:Frag}{tg:Expr}(a it:Addr):Jc P w K tg (Itl K a) [it] it (fun i h=>h.IsListIter it a i) where
 mem:=by simp
 obj:=fun i h st b hb=>by
  have e:b=it:=by simpa using hb
  subst e;obtain⟨o,e,c,d⟩:=st;exact⟨o,e,fun v z=>by rw[d] at z;cases z⟩
 keep:=fun i h h' st k=>st.at fun o e=>k it (by simp) o e
 item:=by
  intro X hP hw hK hc i pins s σ H E I hf st hg;subst hP hw hK;obtain⟨xs,x,hq,hx⟩:=hg;obtain⟨its,rv,p,hz⟩:=I.list hq;obtain⟨u,hu,ru⟩:=rv.get hx;obtain⟨f0,f1,f2,f3,f4,f5⟩:=hf it (by simp);refine wpAny_pyNext_list_item st p.isList (x:=u) (by simpa using hu) fun h' st' sb=>?_;have I1:Inv X pins σ H { s with heap:=h' }:=I.turned (t':=s.toks) (fun b o hb e=>(sb.2 b hb).trans e) f0 f1 f3 f4 f5;obtain⟨o,e,c,d⟩:=id st';exact⟨u,rfl,Mh (s:={ s with heap:=h' }) e c d (by decide) ⟨x,H,I1,ru,⟨rfl,fun ys hy=>by rw[I.list_inj hy hq];exact hx⟩,st',fun b hb=>(hf b hb).1⟩⟩
 done:=by
  intro X hP hw hK hc i pins s σ H E I hf st hg;subst hP hw hK;obtain⟨xs,hq,hx⟩:=hg;obtain⟨its,rv,p,hz⟩:=I.list hq;obtain⟨f0,f1,f2,f3,f4,f5⟩:=hf it (by simp);have hl:=rv.length;exact wpAny_pyNext_list_end (I.ok.hd hc) st p.isList (by simp;lia) fun h' eb=>⟨rfl,I.turned (t':=s.toks) (fun b o hb e=>eb b o hb e) f0 f1 f3 f4 f5⟩
 self:=fun _ _ _ _ _ st h=>wpAny_pyIter_listiter st h
theorem Eb {P:Program}{w:World}{K:Frag}{tg:Expr}(a it:Addr):Jc P w K tg (Itt K a) [it] it (fun i h=>h.IsTupleIter it a i) where
 mem:=by simp
 obj:=fun i h st b hb=>by
  have e:b=it:=by simpa using hb
  subst e;obtain⟨o,e,c,d⟩:=st;exact⟨o,e,fun v z=>by rw[d] at z;cases z⟩
 keep:=fun i h h' st k=>st.at fun o e=>k it (by simp) o e
 item:=by
  intro X hP hw hK hc i pins s σ H E I hf st hg;subst hP hw hK;obtain⟨xs,x,hq,hx⟩:=hg;obtain⟨its,rv,p,hz⟩:=I.tuple hq;obtain⟨u,hu,ru⟩:=rv.get hx;obtain⟨f0,f1,f2,f3,f4,f5⟩:=hf it (by simp);refine wpAny_pyNext_tuple_item st (show s.heap.IsTuple a its.toArray from p) (x:=u) (by simpa using hu) fun h' st' sb=>?_;have I1:Inv X pins σ H { s with heap:=h' }:=I.turned (t':=s.toks) (fun b o hb e=>(sb.2 b hb).trans e) f0 f1 f3 f4 f5;obtain⟨o,e,c,d⟩:=id st';exact⟨u,rfl,Mh (s:={ s with heap:=h' }) e c d (by decide) ⟨x,H,I1,ru,⟨rfl,fun ys hy=>by rw[I.tuple_inj hy hq];exact hx⟩,st',fun b hb=>(hf b hb).1⟩⟩
 done:=by
  intro X hP hw hK hc i pins s σ H E I hf st hg;subst hP hw hK;obtain⟨xs,hq,hx⟩:=hg;obtain⟨its,rv,p,hz⟩:=I.tuple hq;obtain⟨f0,f1,f2,f3,f4,f5⟩:=hf it (by simp);have hl:=rv.length;exact wpAny_pyNext_tuple_end (I.ok.hd hc) st (show s.heap.IsTuple a its.toArray from p) (by simp;lia) fun h' eb=>⟨rfl,I.turned (t':=s.toks) (fun b o hb e=>eb b o hb e) f0 f1 f3 f4 f5⟩
 self:=fun _ _ _ _ _ st h=>wpAny_pyIter_tupleiter st h
theorem Dl {P:Program}{w:World}{K:Frag}{tg:Expr}(it:Addr)(lo:Int)(n:Nat):Jc P w K tg (Itr lo n) [it] it (fun i h=>IsRangeIter h it (lo+(i:Nat)*1) ((n:Int) - (i:Nat)) 1) where
 mem:=by simp
 obj:=fun i h st b hb=>by
  have e:b=it:=by simpa using hb
  subst e;exact⟨_,st,fun v z=>by
   have z':Data.fields _=Data.cell v:=z
   cases z'⟩
 keep:=fun i h h' st k=>k it (by simp) _ st
 item:=by
  intro X hP hw hK hc i pins s σ H E I hf st hg;subst hP hw hK;obtain⟨f0,f1,f2,f3,f4,f5⟩:=hf it (by simp);have W:=Walks.range (prog:=X.prog) (w:=X.w) (I.ok.hd hc) it lo 1 n;refine W.item i s _ _ hg st fun v h' tk hv st' kk=>?_;obtain⟨t,rfl⟩:=hv;have I1:Inv X pins σ H { s with heap:=h',toks:=tk }:=I.turned (fun b o hb e=>kk b o (by simpa using hb) e) f0 f1 f3 f4 f5;refine⟨_,rfl,Mh (s:={ s with heap:=h',toks:=tk }) (n:="range_iterator") st' rfl rfl (by decide) ⟨.int (lo+i),H,I1,⟨t,?_⟩,⟨rfl,rfl⟩,st',fun b hb=>(hf b hb).1⟩⟩;rw[Int.mul_one]
 done:=by
  intro X hP hw hK hc i pins s σ H E I hf st hg;subst hP hw hK;obtain⟨f0,f1,f2,f3,f4,f5⟩:=hf it (by simp);exact wpAny_pyNext_range_end (I.ok.hd hc) st (by have:n<=i:=hg;lia) fun h' eb=>⟨rfl,I.turned (t':=s.toks) (fun b o hb e=>eb b o hb e) f0 f1 f3 f4 f5⟩
 self:=fun _ _ _ _ _ st h=>wpAny_pyIter_rangeiter st h
section
variable {X:Cx} {tg:Expr}
def Zz (K:Frag)(tl:TE):TI:=fun σ H R=>tl σ H fun x H1=>∃a,x=.ref a/\(∃xs,SqL K H1 a xs)/\R (Itl K a) H1
def qh6 (K:Frag)(tl:TE):TI:=fun σ H R=>tl σ H fun x H1=>∃a,x=.ref a/\(∃xs,SqT K H1 a xs)/\R (Itt K a) H1
theorem cE {l:Expr}{tl:TE}(hl:PE X l tl):PI X tg l (Zz X.K tl):=by
 intro pins s σ H R I h;refine thn (hl pins s σ H _ I h) fun v s1 ⟨x,H1,I1,r1,q1⟩=>?_;obtain⟨a,e,⟨xs,hq⟩,q⟩:=q1;subst e
 cases r1
 obtain⟨its,rv,p,hz⟩:=I1.list hq;refine wpAny_pyIter_list p.isList ?_;refine⟨s1.heap.objs.size,[s1.heap.objs.size],_,_,H1,rfl,I1.kept (t':=s1.toks) fun b o e=>Heap.get?_push_of_some _ e,Jm a _,⟨_,Heap.get?_push_size _ rfl,rfl,rfl⟩,fun b hb=>?_,q⟩;have e:b=s1.heap.objs.size:=by simpa using hb
 subst e;exact I1.fpOk (Nat.le_refl _) (I1.hok.fresh (Nat.le_refl _))
theorem Ye {l:Expr}{tl:TE}(hl:PE X l tl):PI X tg l (qh6 X.K tl):=by
 intro pins s σ H R I h;refine thn (hl pins s σ H _ I h) fun v s1 ⟨x,H1,I1,r1,q1⟩=>?_;obtain⟨a,e,⟨xs,hq⟩,q⟩:=q1;subst e
 cases r1
 obtain⟨its,rv,p,hz⟩:=I1.tuple hq;refine wpAny_pyIter_tuple (show s1.heap.IsTuple a its.toArray from p) ?_;refine⟨s1.heap.objs.size,[s1.heap.objs.size],_,_,H1,rfl,I1.kept (t':=s1.toks) fun b o e=>Heap.get?_push_of_some _ e,Eb a _,⟨_,Heap.get?_push_size _ rfl,rfl,rfl⟩,fun b hb=>?_,q⟩;have e:b=s1.heap.objs.size:=by simpa using hb
 subst e;exact I1.fpOk (Nat.le_refl _) (I1.hok.fresh (Nat.le_refl _))
theorem Aj {pins:List (Addr × Obj)}{σ:St}{H:Hp}{s:Shared}{R:It->Hp->Prop}{E:Value->Shared->Prop}{lo hi:Int}{t u v:Tok}{tk:Nat}(I:Inv X pins σ H s)(h1:-(2 ^ 62)<=lo)(h2:lo < 2 ^ 62)(h3:-(2 ^ 62)<=hi)(h4:hi < 2 ^ 62)(q:R (Itr lo (hi - lo).toNat) H):wpAny (model X.prog X.w) X.A (pyIter (.ref s.heap.objs.size)) (PIE X pins σ tg R) E { s with heap:=s.heap.push { cls:=.type "range",data:=.fields #[.int lo t,.int hi u,.int 1 v] },toks:=tk }:=by
 refine wpAny_pyIter_range (IsRange.new ..) (small_one h1 h2 h3 h4) ?_;have I1:Inv X pins σ H { s with heap:=s.heap.push { cls:=.type "range",data:=.fields #[.int lo t,.int hi u,.int 1 v] },toks:=tk }:=I.kept fun b o e=>Heap.get?_push_of_some _ e;refine⟨(s.heap.push { cls:=.type "range",data:=.fields #[.int lo t,.int hi u,.int 1 v] }).objs.size,[(s.heap.push { cls:=.type "range",data:=.fields #[.int lo t,.int hi u,.int 1 v] }).objs.size],_,_,H,rfl,
  I1.kept (t':=tk) fun b o e=>Heap.get?_push_of_some _ e,Dl _ lo (hi - lo).toNat,?_,fun b hb=>?_,q⟩
 ·have e1:lo+((0:Nat):Int)*1=lo:=by simp
  have e2:(((hi - lo).toNat:Nat):Int) - ((0:Nat):Int)=Builtin.Range.rangeSize lo hi 1:=by rw[rangeSize_one];split<;>lia
  show IsRangeIter _ _ (lo+((0:Nat):Int)*1) ((((hi - lo).toNat:Nat):Int) - ((0:Nat):Int)) 1;rw[e1,e2];exact Heap.get?_push_size _ rfl
 ·have e:b=(s.heap.push { cls:=.type "range",data:=.fields #[.int lo t,.int hi u,.int 1 v] }).objs.size:=by simpa using hb
  subst e;exact I1.fpOk (Nat.le_refl _) (I1.hok.fresh (Nat.le_refl _))
def qa1 (ta:TA):TI:=fun σ H R=>ta σ H fun vs H1=>∃j:Int,vs=[.int j]/\-(2 ^ 62)<=j/\j < 2 ^ 62/\R (Itr 0 j.toNat) H1
def qa8 (ta:TA):TI:=fun σ H R=>ta σ H fun vs H1=>∃i j:Int,vs=[.int i,.int j]/\(-(2 ^ 62)<=i/\i < 2 ^ 62/\-(2 ^ 62)<=j/\j < 2 ^ 62)/\R (Itr i (j - i).toNat) H1
theorem fU {a:Expr}{ta:TA}{p pos:Pos}(hg:Gl X "range")(hm:X.mg "range"=none)(ha:PA X [a] ta)(hs:starEach [a] X.env=[(false,eval a X.env)]:=by rfl):PI X tg (.Call (.Name "range" p) [a] [] pos) (qa1 ta):=by
 intro pins s σ H R I h;refine Call_ (jD I hg hm boot_range (PyProof.Rows.callWith_type1 (thn (ha pos pins s σ H _ I h) fun us s1 ⟨vs,H1,I1,r1,q1⟩=>?_) hs rfl));obtain⟨j,e,q1,q2,q⟩:=q1;subst e
 cases r1 with
 |cons r rr=>
  cases rr
  obtain⟨t,rfl⟩:=r;exact call_range_1 (Aj I1 (by lia) (by lia) q1 q2 (by simpa using q))
theorem vD {a b:Expr}{ta:TA}{p pos:Pos}(hg:Gl X "range")(hm:X.mg "range"=none)(ha:PA X [a,b] ta)(hs:starEach [a,b] X.env=[(false,eval a X.env),(false,eval b X.env)]:=by rfl)(hs2:starEach [b] X.env=[(false,eval b X.env)]:=by rfl) :
  PI X tg (.Call (.Name "range" p) [a,b] [] pos) (qa8 ta):=by
 intro pins s σ H R I h;refine Call_ (jD I hg hm boot_range (PyProof.Rows.callWith_type1 (thn (ha pos pins s σ H _ I h) fun us s1 ⟨vs,H1,I1,r1,q1⟩=>?_) (by rw[hs,hs2]) (by rw[hs2];rfl)));obtain⟨i,j,e,⟨q1,q2,q3,q4⟩,q⟩:=q1;subst e
 cases r1 with
 |cons r rr=>
  cases rr with
  |cons r' rr=>
   cases rr
   obtain⟨t,rfl⟩:=r;obtain⟨t',rfl⟩:=r';exact call_range_2 (Aj I1 q1 q2 q3 q4 q)
def qg5 (wi:TI)(g:TG)(tb:TS):TS:=fun D σ H=>wi σ H fun J H1=>∃W:Nat->Nat->St->Hp->Prop,(∃m,W 0 m σ H1)/\∀i m σ H,W i m σ H->
 (J.stop i H/\D.nx σ H)\/(J.go i H/\∃N:St->Hp->Prop,(∀σ' H',N σ' H'->∃m',m' < m/\W (i+1) m' σ' H')/\∀x H',J.yld i H x H'->g x σ H' fun σ2 H2=>tb { D with nx:=N,ct:=N,bk:=D.nx } σ2 H2)
def uI (fp:List Addr)(h:Heap):List (Addr × Obj):=fp.filterMap fun b=>(h.get? b).map fun o=>(b,o)
theorem jI {fp:List Addr}{h:Heap}{b:Addr}{o:Obj}(hb:b∈fp)(e:h.get? b=some o):(b,o)∈uI fp h:=mem_filterMap.mpr ⟨b,hb,by rw[e];rfl⟩
theorem Ht {fp:List Addr}{h:Heap}{p:Addr × Obj}(hp:p∈uI fp h):p.1∈fp/\h.get? p.1=some p.2:=by
 obtain⟨b,hb,e⟩:=mem_filterMap.mp hp
 cases q:h.get? b with
 |none=>rw[q] at e;cases e
 |some o=>
  rw[q] at e;have e':(b,o)=p:=Option.some.inj e;subst e';exact⟨hb,q⟩
theorem Inv.pinned {pins:List (Addr × Obj)}{σ:St}{H:Hp}{s:Shared}{fp:List Addr}(I:Inv X pins σ H s)(hf:∀b∈fp,kY X pins H b)(ho:∀b∈fp,∃o,s.heap.get? b=some o/\∀v,o.data≠.cell v):Inv X (pins++uI fp s.heap) σ H s:=
 I.pins_of fun p hp=>(mem_append.mp hp).elim (fun z=>I.pin p (mem_append_right _ z)) fun z=>by
  obtain⟨hb,e⟩:=Ht z;obtain⟨f0,f1,f2,_⟩:=hf p.1 hb;obtain⟨o,e',d⟩:=ho p.1 hb;rw[e] at e';cases e';exact⟨e,f0,f1,f2,d⟩
theorem Inv.unpinned {pins pl:List (Addr × Obj)}{σ:St}{H:Hp}{s:Shared}(I:Inv X (pins++pl) σ H s):Inv X pins σ H s:=I.pins_of fun p hp=>I.pin p (mem_append_right _ (mem_append_left _ hp))
theorem dB {iter:Expr}{body:List Stmt}{wi:TI}{g:TG}{tb:TS}{pos:Pos}(hp:PassesOwn (model X.prog X.w) X.A X.env X.xe)(hc:X.calm=true)(hi:PI X tg iter wi)(hg:PG X tg g)(hb:PSs X body tb)(hs:∀x,foldedSetIterable iter X.env x=pure x:=by intro _;rfl):PS X (.For tg iter body [] pos) (qg5 wi g tb):=by
 intro pins s σ H D I h;refine wpAny_For (thn (hi pins s σ H _ I h) fun v s1 h1=>thn h1 fun itv s2 h2=>?_) hs;obtain⟨it,fp,tn,J,H2,e,I2,T,st2,f2,W,⟨m0,w0⟩,turn⟩:=h2;subst e;have stat:∀{H':Hp},(∀b∈fp,H' b=none)->∀b∈fp,kY X pins H' b:=fun hn b hb=>⟨hn b hb,(f2 b hb).2⟩
 refine codeAny_forLoop_any (fun n s'=>∃i σ' H',Inv X pins σ' H' s'/\tn i s'.heap/\(∀b∈fp,H' b=none)/\W i n σ' H') ?_ m0 ⟨0,σ,H2,I2,st2,fun b hb=>(f2 b hb).1,w0⟩;rintro n s3 ⟨i,σ3,H3,I3,st3,fr3,w3⟩;rcases turn i n σ3 H3 w3 with ⟨stop,qn⟩ | ⟨go,N,hN,step⟩
 ·refine wpAny_passesOwn hp (thn (T.done X rfl rfl rfl hc i pins s3 σ3 H3 X.xe I3 (stat fr3) st3 stop) fun r s4 ⟨hr,I4⟩=>?_);subst hr;exact wpAny_execs_nil ⟨σ3,H3,I4,qn⟩
 ·refine wpAny_passesOwn hp (thn (T.item X rfl rfl rfl hc i pins s3 σ3 H3 X.xe I3 (stat fr3) st3 go) fun r s4 ⟨u,hr,h4⟩=>?_);subst hr;refine wpAny_passesOwn hp (thn h4 fun _ s5 ⟨x,H5,I5,r5,y5,st5,fr5⟩=>?_);have I5':=I5.pinned (stat fr5) (T.obj _ _ st5);refine wpAny_passesOwn hp (thn (hg _ s5 σ3 H5 x u _ I5' r5 (step x H5 y5)) fun _ s6 ⟨σ6,H6,I6,q6⟩=>?_);refine wpAny_passesOwn hp (thn (hb _ s6 σ6 H6 _ I6 q6) fun f s7 q7=>?_);have again:∀{σ7:St} {H7:Hp},Inv X (pins++uI fp s5.heap) σ7 H7 s7->N σ7 H7->∃m,m < n/\∃i σ' H',Inv X pins σ' H' s7/\tn i s7.heap/\(∀b∈fp,H' b=none)/\W i m σ' H':=fun {σ7 H7} I7 n7=>by
   obtain⟨m',hm,w7⟩:=hN σ7 H7 n7;refine⟨m',hm,i+1,σ7,H7,I7.unpinned,T.keep _ _ _ st5 fun b hb o e=>(I7.pin (b,o) (mem_append_right _ (mem_append_right _ (jI hb e)))).1,fun b hb=>?_,w7⟩;obtain⟨o,e,d⟩:=T.obj _ _ st5 b hb;exact(I7.pin (b,o) (mem_append_right _ (mem_append_right _ (jI hb e)))).2.1
  cases f with
  |next=>obtain⟨σ7,H7,I7,n7⟩:=q7;exact again I7 n7
  |cont=>obtain⟨σ7,H7,I7,n7⟩:=q7;exact again I7 n7
  |brk=>obtain⟨σ7,H7,I7,q7⟩:=q7;exact⟨σ7,H7,I7.unpinned,q7⟩
  |ret v=>obtain⟨x7,σ7,H7,I7,r7,q7⟩:=q7;exact⟨x7,σ7,H7,I7.unpinned,r7,q7⟩
end
theorem dS {K:Frag}{a:Addr}{xs:List V}{g:TG}{tb:TS}{D:lY}{σ:St}{H:Hp}(Pv:Nat->St->Hp->Prop)(h0:Pv 0 σ H)(hl:∀i σ H,i<=xs.length->Pv i σ H->SqL K H a xs)(hs:∀i x σ H,xs[i]?=some x->Pv i σ H->g x σ H fun σ2 H2=>tb { D with nx:=Pv (i+1),ct:=Pv (i+1),bk:=D.nx } σ2 H2)(hd:∀σ H,Pv xs.length σ H->D.nx σ H) :
  ∃W:Nat->Nat->St->Hp->Prop,(∃m,W 0 m σ H)/\∀i m σ H,W i m σ H->
   ((Itl K a).stop i H/\D.nx σ H)\/((Itl K a).go i H/\∃N:St->Hp->Prop,(∀σ' H',N σ' H'->∃m',m' < m/\W (i+1) m' σ' H')/\∀x H',(Itl K a).yld i H x H'->g x σ H' fun σ2 H2=>tb { D with nx:=N,ct:=N,bk:=D.nx } σ2 H2):=by
 refine⟨fun i m σ H=>m=xs.length - i/\i<=xs.length/\Pv i σ H,⟨xs.length,by simp,Nat.zero_le _,h0⟩,?_⟩;rintro i m σ H ⟨rfl,hi,p⟩;have q:=hl i σ H hi p
 by_cases hlt:i < xs.length
 ·refine .inr ⟨⟨xs,xs[i],q,by simp[hlt]⟩,Pv (i+1),fun σ' H' p'=>⟨xs.length - (i+1),by lia,rfl,hlt,p'⟩,fun x H' y=>?_⟩;obtain⟨e,y⟩:=y;subst e;exact hs i x σ _ (y xs q) p
 ·have e:i=xs.length:=by lia
  subst e;exact .inl ⟨⟨xs,q,Nat.le_refl _⟩,hd σ H p⟩
theorem So {K:Frag}{a:Addr}{xs:List V}{g:TG}{tb:TS}{D:lY}{σ:St}{H:Hp}(Pv:Nat->St->Hp->Prop)(h0:Pv 0 σ H)(hl:∀i σ H,i<=xs.length->Pv i σ H->SqT K H a xs)(hs:∀i x σ H,xs[i]?=some x->Pv i σ H->g x σ H fun σ2 H2=>tb { D with nx:=Pv (i+1),ct:=Pv (i+1),bk:=D.nx } σ2 H2)(hd:∀σ H,Pv xs.length σ H->D.nx σ H) :
  ∃W:Nat->Nat->St->Hp->Prop,(∃m,W 0 m σ H)/\∀i m σ H,W i m σ H->
   ((Itt K a).stop i H/\D.nx σ H)\/((Itt K a).go i H/\∃N:St->Hp->Prop,(∀σ' H',N σ' H'->∃m',m' < m/\W (i+1) m' σ' H')/\∀x H',(Itt K a).yld i H x H'->g x σ H' fun σ2 H2=>tb { D with nx:=N,ct:=N,bk:=D.nx } σ2 H2):=by
 refine⟨fun i m σ H=>m=xs.length - i/\i<=xs.length/\Pv i σ H,⟨xs.length,by simp,Nat.zero_le _,h0⟩,?_⟩;rintro i m σ H ⟨rfl,hi,p⟩;have q:=hl i σ H hi p
 by_cases hlt:i < xs.length
 ·refine .inr ⟨⟨xs,xs[i],q,by simp[hlt]⟩,Pv (i+1),fun σ' H' p'=>⟨xs.length - (i+1),by lia,rfl,hlt,p'⟩,fun x H' y=>?_⟩;obtain⟨e,y⟩:=y;subst e;exact hs i x σ _ (y xs q) p
 ·have e:i=xs.length:=by lia
  subst e;exact .inl ⟨⟨xs,q,Nat.le_refl _⟩,hd σ H p⟩
theorem fV {lo:Int}{n:Nat}{g:TG}{tb:TS}{D:lY}{σ:St}{H:Hp}(Pv:Nat->St->Hp->Prop)(h0:Pv 0 σ H)(hs:∀i σ H,i < n->Pv i σ H->g (.int (lo+i)) σ H fun σ2 H2=>tb { D with nx:=Pv (i+1),ct:=Pv (i+1),bk:=D.nx } σ2 H2)(hd:∀σ H,Pv n σ H->D.nx σ H) :
  ∃W:Nat->Nat->St->Hp->Prop,(∃m,W 0 m σ H)/\∀i m σ H,W i m σ H->
   ((Itr lo n).stop i H/\D.nx σ H)\/((Itr lo n).go i H/\∃N:St->Hp->Prop,(∀σ' H',N σ' H'->∃m',m' < m/\W (i+1) m' σ' H')/\∀x H',(Itr lo n).yld i H x H'->g x σ H' fun σ2 H2=>tb { D with nx:=N,ct:=N,bk:=D.nx } σ2 H2):=by
 refine⟨fun i m σ H=>m=n - i/\i<=n/\Pv i σ H,⟨n,by simp,Nat.zero_le _,h0⟩,?_⟩;rintro i m σ H ⟨rfl,hi,p⟩
 by_cases hlt:i < n
 ·refine .inr ⟨hlt,Pv (i+1),fun σ' H' p'=>⟨n - (i+1),by lia,rfl,hlt,p'⟩,fun x H' y=>?_⟩;obtain⟨e,y⟩:=y;subst e y;exact hs i σ _ hlt p
 ·have e:i=n:=by lia
  subst e;exact .inl ⟨Nat.le_refl _,hd σ H p⟩
theorem sQ {c:TT}{tb:TS}{D:lY}{σ:St}{H:Hp}(Pv:St->Hp->Prop)(μ:St->Hp->Nat)(h0:Pv σ H)(hs:∀σ H,Pv σ H->c σ H fun b H1=>if b=true then tb { D with nx:=fun σ' H'=>Pv σ' H'/\μ σ' H' < μ σ H,ct:=fun σ' H'=>Pv σ' H'/\μ σ' H' < μ σ H,bk:=D.nx } σ H1 else D.nx σ H1)(mono:∀σ H Q Q',(∀b H1,Q b H1->Q' b H1)->c σ H Q->c σ H Q'):Lf c tb D σ H:=by
 refine⟨fun m σ H=>m=μ σ H/\Pv σ H,⟨_,rfl,h0⟩,?_⟩;rintro m σ H ⟨rfl,p⟩;refine mono σ H _ _ (fun b H1 q=>?_) (hs σ H p)
 cases b with
 |true=>exact⟨_,fun σ' H' ⟨p',l⟩=>⟨_,l,rfl,p'⟩,q⟩
 |false=>exact q
abbrev R2:=V->V->Hp->VK->Prop
def OpR (X:Cx)(f:Value->Value->Sem Value)(r:R2):Prop:=
 ∀(pins:List (Addr × Obj)) (s:Shared) (σ:St) (H:Hp) (x y:V) (v u:Value) (Q:VK),Inv X pins σ H s->bU x v->bU y u->r x y H Q->
  wpAny (model X.prog X.w) X.A (f v u) (EP X pins σ Q) X.xe s
def UnR (X:Cx)(f:Value->Sem Value)(r:V->Hp->VK->Prop):Prop:=
 ∀(pins:List (Addr × Obj)) (s:Shared) (σ:St) (H:Hp) (x:V) (v:Value) (Q:VK),Inv X pins σ H s->bU x v->r x H Q->
  wpAny (model X.prog X.w) X.A (f v) (EP X pins σ Q) X.xe s
def pS (X:Cx)(f:Value)(r:List V->Hp->VK->Prop):Prop:=
 ∀(pins:List (Addr × Obj)) (s:Shared) (σ:St) (H:Hp) (xs:List V) (us:List Value) (Q:VK),Inv X pins σ H s->bQ xs us->r xs H Q->
  wpAny (model X.prog X.w) X.A (call f us) (EP X pins σ Q) X.xe s
def tOp (r:R2)(ta tb:TE):TE:=fun σ H Q=>ta σ H fun x H1=>tb σ H1 fun y H2=>r x y H2 Q
def tUn (r:V->Hp->VK->Prop)(ta:TE):TE:=fun σ H Q=>ta σ H fun x H1=>r x H1 Q
def rI (C:Int->Int->Prop)(g:Int->Int->V):R2:=fun x y H Q=>∃i j,x=.int i/\y=.int j/\C i j/\Q (g i j) H
def rI0 (g:Int->Int->V):R2:=fun x y H Q=>∃i j,x=.int i/\y=.int j/\Q (g i j) H
def rU (g:Int->V):V->Hp->VK->Prop:=fun x H Q=>∃i,x=.int i/\Q (g i) H
section
variable {X:Cx} {a b c:Expr} {ta tb tc:TE} {pos:Pos}
theorem Xs (ha:PE X a ta)(hb:PE X b tb){pins:List (Addr × Obj)}{s:Shared}{σ:St}{H:Hp}{R:V->V->Hp->Prop}(I:Inv X pins σ H s)(h:ta σ H fun x H1=>tb σ H1 fun y H2=>R x y H2){Q:Value->Shared->Prop}{f:Value->Value->Sem Value}(hf:∀v u s2 x y H2,Inv X pins σ H2 s2->bU x v->bU y u->R x y H2->wpAny (model X.prog X.w) X.A (f v u) Q X.xe s2) :
  wpAny (model X.prog X.w) X.A (eval a X.env) (fun v s₁=>wpAny (model X.prog X.w) X.A (eval b X.env) (fun u s₂=>wpAny (model X.prog X.w) X.A (f v u) Q X.xe s₂) X.xe s₁) X.xe s:=by
 refine thn (ha pins s σ H _ I h) fun v s1 ⟨x,H1,I1,r1,q1⟩=>?_;refine thn (hb pins s1 σ H1 _ I1 q1) fun u s2 ⟨y,H2,I2,r2,q2⟩=>?_;exact hf v u s2 x y H2 I2 r1 r2 q2
theorem aY {op:Operator}{r:R2}(ho:OpR X (binaryOp op) r)(ha:PE X a ta)(hb:PE X b tb):PE X (.BinOp a op b pos) (tOp r ta tb):=by
 intro pins s σ H Q I h;exact wpAny_BinOp (Xs ha hb I h fun v u s2 x y H2 I2 rx ry q=>ho pins s2 σ H2 x y v u Q I2 rx ry q)
theorem Gp {op:UnaryOp}{r:V->Hp->VK->Prop}(ho:UnR X (unaryOp op) r)(ha:PE X a ta):PE X (.UnaryOp op a pos) (tUn r ta):=by
 intro pins s σ H Q I h;exact UnaryOp_ (thn (ha pins s σ H _ I h) fun v s1 ⟨x,H1,I1,r1,q1⟩=>ho pins s1 σ H1 x v Q I1 r1 q1)
theorem opI {f:Value->Value->Sem Value}{C:Int->Int->Prop}{g:Int->Int->Int}(rule:∀(i j:Int) (t u:Tok) (s:Shared) (Q:Value->Shared->Prop) (E:Value->Shared->Prop),C i j->Q (.int (g i j) s.toks) { s with toks:=s.toks+1 }->wpAny (model X.prog X.w) X.A (f (.int i t) (.int j u)) Q E s) :
  OpR X f (rI C fun i j=>.int (g i j)):=by
 intro pins s σ H x y v u Q I rx ry h;obtain⟨i,j,rfl,rfl,hc,q⟩:=h;obtain⟨t,rfl⟩:=rx;obtain⟨t',rfl⟩:=ry;exact rule i j t t' s _ _ hc ⟨.int (g i j),H,I.tok _,⟨_,rfl⟩,q⟩
theorem qe0 {f:Value->Value->Sem Value}{g:Int->Int->Int}(rule:∀(i j:Int) (t u:Tok) (s:Shared) (Q:Value->Shared->Prop) (E:Value->Shared->Prop),Q (.int (g i j) s.toks) { s with toks:=s.toks+1 }->wpAny (model X.prog X.w) X.A (f (.int i t) (.int j u)) Q E s) :
  OpR X f (rI0 fun i j=>.int (g i j)):=by
 intro pins s σ H x y v u Q I rx ry h;obtain⟨i,j,rfl,rfl,q⟩:=h;obtain⟨t,rfl⟩:=rx;obtain⟨t',rfl⟩:=ry;exact rule i j t t' s _ _ ⟨.int (g i j),H,I.tok _,⟨_,rfl⟩,q⟩
theorem Ul {f:Value->Value->Sem Value}{g:Int->Int->Bool}(rule:∀(i j:Int) (t u:Tok) (s:Shared) (Q:Value->Shared->Prop) (E:Value->Shared->Prop),Q (.bool (g i j)) s->wpAny (model X.prog X.w) X.A (f (.int i t) (.int j u)) Q E s) :
  OpR X f (rI0 fun i j=>.bl (g i j)):=by
 intro pins s σ H x y v u Q I rx ry h;obtain⟨i,j,rfl,rfl,q⟩:=h;obtain⟨t,rfl⟩:=rx;obtain⟨t',rfl⟩:=ry;exact rule i j t t' s _ _ ⟨.bl (g i j),H,I,rfl,q⟩
def qg2 (i j:Int):Prop:=0 < j/\j < 1073741824
def qj2 (i j:Int):Prop:=0<=j/\j<=1000000/\i.natAbs < 2 ^ 64
def Xt (i j:Int):Prop:=(-(2 ^ 64) < i/\i < 2 ^ 64)\/(-(2 ^ 64) < j/\j < 2 ^ 64)
theorem Xt.ok {i j:Int}(h:Xt i j):IntMulOk i j:=by
 rcases h with ⟨h1,h2⟩ | ⟨h1,h2⟩
 ·exact .of_left (intBits_le_64 h1 h2)
 ·exact .of_right (intBits_le_64 h1 h2)
theorem eE:OpR X (binaryOp .Add) (rI0 fun i j=>.int (i+j)):=qe0 fun _ _ _ _ _ _ _ q=>add_int q
theorem jY:OpR X (binaryOp .Sub) (rI0 fun i j=>.int (i - j)):=qe0 fun _ _ _ _ _ _ _ q=>sub_int q
theorem rR:OpR X (binaryOp .Mult) (rI Xt fun i j=>.int (i*j)):=opI fun _ _ _ _ _ _ _ hc q=>mul_int q hc.ok
theorem nQ:OpR X (binaryOp .FloorDiv) (rI qg2 fun i j=>.int (i / j)):=opI fun i j _ _ _ _ _ hc q=>by
 have h1:(0:Int) < j:=hc.1;have h2:j < 1073741824:=hc.2;exact floordiv_int (by lia) (by rw[Int.fdiv_eq_ediv_of_nonneg i (by lia)];exact q) (.inl (PyProof.noPylong_small (by lia)))
theorem uH:OpR X (binaryOp .Mod) (rI (fun _ j=>0 < j) fun i j=>.int (i % j)):=opI fun i j _ _ _ _ _ hc q=>by
 have h1:(0:Int) < j:=hc;exact mod_int' (by lia) (by rw[Int.fmod_eq_emod_of_nonneg i (by lia)];exact q)
theorem jE:OpR X (binaryOp .Mod) (rI (fun _ j=>j≠0) fun i j=>.int (i.fmod j)):=opI fun _ _ _ _ _ _ _ hc q=>mod_int' hc q
theorem Cz:OpR X (binaryOp .Pow) (rI qj2 fun i j=>.int (i ^ j.toNat)):=opI fun _ _ _ _ _ _ _ hc q=>pow_int_small hc.1 hc.2.1 hc.2.2 q
theorem unI {f:Value->Sem Value}{g:Int->Int}(rule:∀(i:Int) (t:Tok) (s:Shared) (Q:Value->Shared->Prop) (E:Value->Shared->Prop),Q (.int (g i) s.toks) { s with toks:=s.toks+1 }->wpAny (model X.prog X.w) X.A (f (.int i t)) Q E s) :
  UnR X f (rU fun i=>.int (g i)):=by
 intro pins s σ H x v Q I rx h;obtain⟨i,rfl,q⟩:=h;obtain⟨t,rfl⟩:=rx;exact rule i t s _ _ ⟨.int (g i),H,I.tok _,⟨_,rfl⟩,q⟩
theorem yN:UnR X (unaryOp .USub) (rU fun i=>.int (-i)):=unI fun _ _ _ _ _ q=>neg_int q
end
def Zu:V->V->Bool
 | .non,.non=>true | .non,.int _=>true | .int _,.non=>true | .non,.bl _=>true | .bl _,.non=>true | .non,.str _=>true | .str _,.non=>true
 | .int _,.int _=>true | .bl _,.bl _=>true | .str _,.str _=>true | .byt _,.byt _=>true
 | .int _,.str _=>true | .str _,.int _=>true | .bl _,.str _=>true | .str _,.bl _=>true
 |_,_=>false
def rEq:R2:=fun x y H Q=>Zu x y=true/\Q (.bl (decide (x=y))) H
def rNe:R2:=fun x y H Q=>Zu x y=true/\Q (.bl (!decide (x=y))) H
theorem Ez {i j:Int}:decide (V.int i=V.int j)=(i == j):=by
 rw[Bool.eq_iff_iff];simp
theorem Ko {i j:Bool}:decide (V.bl i=V.bl j)=(i == j):=by
 rw[Bool.eq_iff_iff];simp
theorem Gr {i j:Str}:decide (V.str i=V.str j)=(i == j):=by
 rw[Bool.eq_iff_iff];simp
theorem Ev {i j:Array UInt8}:decide (V.byt i=V.byt j)=(i.toList == j.toList):=by
 rw[Bool.eq_iff_iff]
 cases i
 cases j
 simp
section
variable {X:Cx} {a b c:Expr} {ta tb tc:TE} {pos:Pos}
theorem cL {pins:List (Addr × Obj)}{σ:St}{H:Hp}{s:Shared}{Q:VK}{k k':Bool}(I:Inv X pins σ H s)(q:Q (.bl k) H)(e:k=k'):EP X pins σ Q (.bool k') s:=by
 subst e;exact⟨.bl k,H,I,rfl,q⟩
theorem fG:OpR X (compareOp .Eq) rEq:=by
 intro pins s σ H x y v u Q I rx ry h;obtain⟨hs,q⟩:=h
 cases x with
 |non=>
  cases rx
  cases y with
  |non=>cases ry;exact PySem.EqNone.eq_none_none (cL I q (by simp))
  |bl j=>cases ry;exact PySem.EqNone.eq_none_bool (cL I q (by simp))
  |int j=>obtain⟨t',rfl⟩:=ry;exact PySem.EqNone.eq_none_int (cL I q (by simp))
  |str j=>obtain⟨t',rfl⟩:=ry;exact PySem.EqNone.eq_none_str (cL I q (by simp))
  |_=>exact absurd (show false=true from hs) Bool.false_ne_true
 |bl i=>
  cases rx
  cases y with
  |non=>cases ry;exact PySem.EqNone.eq_bool_none (cL I q (by simp))
  |bl j=>cases ry;exact eq_bool (cL I q Ko)
  |str j=>obtain⟨t',rfl⟩:=ry;exact PySem.EqMixed.eq_bool_str (cL I q (by simp))
  |_=>exact absurd (show false=true from hs) Bool.false_ne_true
 |int i=>
  obtain⟨t,rfl⟩:=rx
  cases y with
  |non=>cases ry;exact PySem.EqNone.eq_int_none (cL I q (by simp))
  |int j=>obtain⟨t',rfl⟩:=ry;exact eq_int (cL I q Ez)
  |str j=>obtain⟨t',rfl⟩:=ry;exact PySem.EqMixed.eq_int_str (cL I q (by simp))
  |_=>exact absurd (show false=true from hs) Bool.false_ne_true
 |str i=>
  obtain⟨t,rfl⟩:=rx
  cases y with
  |non=>cases ry;exact PySem.EqNone.eq_str_none (cL I q (by simp))
  |bl j=>cases ry;exact PySem.EqMixed.eq_str_bool (cL I q (by simp))
  |int j=>obtain⟨t',rfl⟩:=ry;exact PySem.EqMixed.eq_str_int (cL I q (by simp))
  |str j=>obtain⟨t',rfl⟩:=ry;exact eq_str (cL I q Gr)
  |_=>exact absurd (show false=true from hs) Bool.false_ne_true
 |byt i=>
  obtain⟨t,rfl⟩:=rx
  cases y with
  |byt j=>obtain⟨t',rfl⟩:=ry;exact W.eq_bytes (cL I q Ev)
  |_=>exact absurd (show false=true from hs) Bool.false_ne_true
 |_=>cases y<;>exact absurd (show false=true from hs) Bool.false_ne_true
theorem jX:OpR X (compareOp .NotEq) rNe:=by
 intro pins s σ H x y v u Q I rx ry h;obtain⟨hs,q⟩:=h
 cases x with
 |non=>
  cases rx
  cases y with
  |non=>cases ry;exact PySem.EqNone.ne_none_none (cL I q (by simp))
  |bl j=>cases ry;exact PySem.EqNone.ne_none_bool (cL I q (by simp))
  |int j=>obtain⟨t',rfl⟩:=ry;exact PySem.EqNone.ne_none_int (cL I q (by simp))
  |str j=>obtain⟨t',rfl⟩:=ry;exact PySem.EqNone.ne_none_str (cL I q (by simp))
  |_=>exact absurd (show false=true from hs) Bool.false_ne_true
 |bl i=>
  cases rx
  cases y with
  |non=>cases ry;exact PySem.EqNone.ne_bool_none (cL I q (by simp))
  |bl j=>cases ry;exact ne_bool (cL I q (congrArg not Ko))
  |str j=>obtain⟨t',rfl⟩:=ry;exact PySem.EqMixed.ne_bool_str (cL I q (by simp))
  |_=>exact absurd (show false=true from hs) Bool.false_ne_true
 |int i=>
  obtain⟨t,rfl⟩:=rx
  cases y with
  |non=>cases ry;exact PySem.EqNone.ne_int_none (cL I q (by simp))
  |int j=>obtain⟨t',rfl⟩:=ry;exact ne_int (cL I q (congrArg not Ez))
  |str j=>obtain⟨t',rfl⟩:=ry;exact PySem.EqMixed.ne_int_str (cL I q (by simp))
  |_=>exact absurd (show false=true from hs) Bool.false_ne_true
 |str i=>
  obtain⟨t,rfl⟩:=rx
  cases y with
  |non=>cases ry;exact PySem.EqNone.ne_str_none (cL I q (by simp))
  |bl j=>cases ry;exact PySem.EqMixed.ne_str_bool (cL I q (by simp))
  |int j=>obtain⟨t',rfl⟩:=ry;exact PySem.EqMixed.ne_str_int (cL I q (by simp))
  |str j=>obtain⟨t',rfl⟩:=ry;exact ne_str (cL I q (congrArg not Gr))
  |_=>exact absurd (show false=true from hs) Bool.false_ne_true
 |byt i=>
  obtain⟨t,rfl⟩:=rx
  cases y with
  |byt j=>obtain⟨t',rfl⟩:=ry;exact W.ne_bytes (cL I q (congrArg not Ev))
  |_=>exact absurd (show false=true from hs) Bool.false_ne_true
 |_=>cases y<;>exact absurd (show false=true from hs) Bool.false_ne_true
theorem tH:OpR X (compareOp .Lt) (rI0 fun i j=>.bl (decide (i < j))):=Ul fun _ _ _ _ _ _ _ q=>lt_int q
theorem qb9:OpR X (compareOp .LtE) (rI0 fun i j=>.bl (decide (i<=j))):=Ul fun _ _ _ _ _ _ _ q=>le_int q
theorem vZ:OpR X (compareOp .Gt) (rI0 fun i j=>.bl (decide (j < i))):=Ul fun _ _ _ _ _ _ _ q=>gt_int q
theorem Mc:OpR X (compareOp .GtE) (rI0 fun i j=>.bl (decide (j<=i))):=Ul fun _ _ _ _ _ _ _ q=>ge_int q
theorem bH (b:Expr){op:CmpOp}(h:op≠.In:=by decide)(h2:op≠.NotIn:=by decide):behindInMarks op b=false:=by
 have e1:(op == CmpOp.In)=false:=by cases op<;>first | rfl | exact absurd rfl h
 have e2:(op == CmpOp.NotIn)=false:=by cases op<;>first | rfl | exact absurd rfl h2
 cases b<;>simp[behindInMarks,e1,e2]
theorem gW {op:CmpOp}{r:R2}(ho:OpR X (compareOp op) r)(ha:PE X a ta)(hb:PE X b tb)(hm:behindInMarks op b=false):PE X (.Compare a [op] [b] pos) (tOp r ta tb):=by
 intro pins s σ H Q I h;exact wpAny_Compare1 (Xs ha hb I h fun v u s2 x y H2 I2 rx ry q=>ho pins s2 σ H2 x y v u Q I2 rx ry q) hm
def qc5 (t:TE):TT:=fun σ H Q=>t σ H fun x H'=>∃k,x=.bl k/\Q k H'
theorem bF {op:CmpOp}{r:R2}(ho:OpR X (compareOp op) r)(ha:PE X a ta)(hb:PE X b tb)(hm:behindInMarks op b=false):PT X (.Compare a [op] [b] pos) (qc5 (tOp r ta tb)):=by
 intro pins s σ H Q I h;refine wpAny_isTrue_Compare1 (thn (ha pins s σ H _ I h) fun v s1 ⟨x,H1,I1,r1,q1⟩=>thn (hb pins s1 σ H1 _ I1 q1) fun u s2 ⟨y,H2,I2,r2,q2⟩=>
  thn (ho pins s2 σ H2 x y v u _ I2 r1 r2 q2) fun c s3 ⟨z,H3,I3,r3,k,e,q3⟩=>?_) hm
 subst e
 cases r3
 exact wpAny_truthy_bool ⟨H3,I3,q3⟩
theorem yM:(sizeLine:Nat) < 2 ^ 63:=by rw[sizeLine_eq];decide
theorem zX {x:V}{us:List Value}(r:bQ [x] us):∃u,us=[u]/\bU x u:=by
 cases r with
 |cons r1 r2=>cases r2;exact⟨_,rfl,r1⟩
theorem Gc {x y:V}{us:List Value}(r:bQ [x,y] us):∃u w',us=[u,w']/\bU x u/\bU y w':=by
 cases r with
 |cons r1 r2=>
  cases r2 with
  |cons r3 r4=>cases r4;exact⟨_,_,rfl,r1,r3⟩
theorem tK:pS X (.builtin "abs") (fun xs H Q=>∃i,xs=[.int i]/\Q (.int (if i < 0 then -i else i)) H):=by
 intro pins s σ H xs us Q I r h;obtain⟨i,rfl,q⟩:=h;obtain⟨u,rfl,t,rfl⟩:=zX r;exact call_abs_int fun u tk=>⟨.int (if i < 0 then -i else i),H,I.tok _,⟨_,rfl⟩,q⟩
theorem Jh (hc:X.calm=true):pS X (.builtin "min") (fun xs H Q=>∃i j,xs=[.int i,.int j]/\Q (.int (if j < i then j else i)) H):=by
 intro pins s σ H xs us Q I r h;obtain⟨i,j,rfl,q⟩:=h;obtain⟨u,w',rfl,⟨t,rfl⟩,⟨t',rfl⟩⟩:=Gc r;refine min_two_ints (I.ok.hd hc) fun h' tk k=>⟨_,H,I.kept k,?_,q⟩
 by_cases hj:j < i
 ·rw[if_pos hj,if_pos hj];exact⟨_,rfl⟩
 ·rw[if_neg hj,if_neg hj];exact⟨_,rfl⟩
end
structure Db (h:Heap) (x dx C:Addr) (mA:Str->Option Value):Prop where
 obj:h.get? x=some (W.instObj C dx)
 ns:h.Ns1 dx mA
 ne:dx≠x
theorem Hr {h:Heap}{dx:Addr}{mA:Str->Option Value}(n:h.Ns1 dx mA):∃od,h.get? dx=some od/\∀name,W.lookIn name od=some (mA name):=by
 obtain⟨o,es,ep,ho,hd,hk,_,hm⟩:=n;refine⟨o,ho,fun name=>?_⟩;have e:=hm name;unfold nsFind findBy at e;rw[<- Array.find?_toList] at e;unfold W.lookIn;rw[hd];dsimp only;split
 ·rename_i y q
  rw[q] at e;exact congrArg some e
 ·rename_i q
  rw[q] at e;have a:es.toList.any (·.refKey)=false:=by
   rw[any_eq_false];intro y hy;obtain⟨z,t,hkey⟩:=hk y (Array.mem_toList_iff.mp hy);simp[DictEntry.refKey,hkey]
  have a':¬es.toList.any (·.refKey)=true:=by rw[a];exact Bool.false_ne_true
  rw[if_neg a'];exact congrArg some e
theorem Db.look {h:Heap}{x dx C:Addr}{mA:Str->Option Value}(I:Db h x dx C mA):∃od,W.InstAt h x (W.instObj C dx) C (some od)/\∀name,W.lookIn name od=some (mA name):=
 let ⟨od,ho,hl⟩:=Hr I.ns
 ⟨od,⟨I.obj,rfl,rfl,ho⟩,hl⟩
section
variable {prog:Program} {w:World} {A:Around} {E:Value->Shared->Prop} {s:Shared} {K:Frag} {x dx C f:Addr} {mA:Str->Option Value} {name:Str} {v:Value}
theorem Tf {expr:Bool}{Q:Value->Shared->Prop}(X:K.In s.heap)(I:Db s.heap x dx C mA)(hg:W.plainGet K C name=true)(hh:W.hasDictIn K C=true)(ha:W.findIn K (.ref C) name=some none)(hv:mA name=some v)(hv':W.handedIn v=true)(h:Q v { s with toks:=s.toks+1 }) :
  wpAny (model prog w) A (getAttr (.ref x) name expr) Q E s:=by
 obtain⟨od,J,hl⟩:=I.look;exact W.get_value X J (W.plainGet_of hg).1 (W.findObj_own hh ha rfl (by rw[hl,hv])) hv' h
theorem Om {pl:Sem Bool}{Q:Value × List Value->Shared->Prop}(X:K.In s.heap)(I:Db s.heap x dx C mA)(hg:W.plainGet K C name=true)(hf:W.findIn K (.ref C) name=some (some (.ref f)))(ht:W.isFn K (.ref f)=true)(hv:mA name=none)(h:Q (.ref f,[.ref x]) s) :
  wpAny (model prog w) A (getMethod (.ref x) name pl) Q E s:=by
 obtain⟨od,J,hl⟩:=I.look;exact W.method_fn X J (W.plainGet_of hg).1 (W.plainGet_of hg).2 hf (beq_iff_eq.mp ht) (by show (W.lookIn name od).map (·.isSome)=some false;rw[hl,hv];rfl) h
theorem Th {ns:List Str}{Q:Unit->Shared->Prop}(X:K.In s.heap)(I:Db s.heap x dx C mA)(hs:W.findIn K (.ref C) "__setattr__"=some (some (.builtin "object.__setattr__")))(hp:W.plainOver K C=true)(ht:W.takerIn K C name=some none)(hh:W.hasDictIn K C=true)(hw:PySem.Within mA ns)(hsz:ns.length<=sizeLine)(h:∀h',Db h' x dx C (fun y=>if y=name then some v else mA y)->Heap.SameBut dx s.heap h'->Q () { s with heap:=h',toks:=s.toks+2 }) :
  wpAny (model prog w) A (setAttr (.ref x) name v) Q E s:=by
 obtain⟨od,J,hl⟩:=I.look;refine W.set_plain X J hs (W.osa_open (s:={ s with toks:=s.toks+1 }) (r:=none) X J hp ht fun b=>?_);obtain⟨cd,hc,hd'⟩:=W.any_some hh;have hx:s.heap.get? x=some ⟨.ref C,some dx,.plain,#[]⟩:=I.obj;refine wpAny_bind (wpAny_pure (wpAny_bind (wpAny_bind (wpAny_loadPart hx (wpAny_bind (W.Looks.here (s:={ s with toks:=s.toks+1 }) (W.looks_clsIn X hc) ?_))))));rw[hd'];refine wpAny_pure (a:=some dx) (wpAny_bind (wpAny_pure (wpAny_bind ?_)));refine wpAny_nsSet1 (s:={ s with toks:=s.toks+1 }) I.ns fun h' hn2 hs2=>?_;obtain⟨oD,esD,epD,hoD,hdD,hcD⟩:=hn2.count (PySem.Within.cons name v hw);refine wpAny_bind (wpAny_lookBehind hoD (by rw[hdD];exact pastItsLine_dict (Nat.le_trans hcD (by rw[length_cons];lia))) ?_);exact wpAny_pure (h _ ⟨(hs2.2 _ (Ne.symm I.ne)).trans I.obj,hn2,I.ne⟩ hs2)
theorem Ou {R:Result->Shared->Prop}{vs:List Value}{kw:List (Str × Value)}(X:K.In s.heap)(hm:W.makesIn K C=true)(hi:W.findIn K (.ref C) "__init__"=some (some (.ref f)))(hf:W.typeIn K (.ref f)=some (.type "function"))(h:codeAny (model prog w) (A.under (.builtin "type.__call__" ⟨.ref C :: vs,kw⟩)) (.call (.ref f) ⟨.ref (s.heap.objs.size+1) :: vs,kw⟩) (W.InitBack (s.heap.objs.size+1) R)
   { s with heap:=(s.heap.push W.emptyDict).push (W.instObj C s.heap.objs.size) }) :
  codeAny (model prog w) A (.call (.ref C) ⟨vs,kw⟩) R s:=by
 obtain⟨hh,g,d,t,os⟩:=s;exact W.make_core (W.makes_of X hm) (W.looks_findIn X hi) (fun self=>W.bind_fn X self hf) (.inl rfl) h
end
def iF (f:Str)(v:V):List (Str × V)->List (Str × V)
 | []=>[(f,v)]
 | (g,x) :: r=>if g=f then (g,v) :: r else (g,x) :: iF f v r
theorem bV (f g:Str)(v:V):∀fs:List (Str × V),(iF f v fs).lookup g=if g=f then some v else fs.lookup g
 | []=>by
  show List.lookup g [(f,v)]=_
  by_cases h:g=f
  ·have hb:(g == f)=true:=beq_iff_eq.mpr h;simp only[List.lookup,hb,if_pos h]
  ·have hb:(g == f)=false:=beq_eq_false_iff_ne.mpr h;simp only[List.lookup,hb,if_neg h]
 | (k,x) :: r=>by
  have ih:=bV f g v r;rw[show iF f v ((k,x) :: r)=(if k=f then (k,v) :: r else (k,x) :: iF f v r) from rfl]
  by_cases hk:k=f
  ·rw[if_pos hk]
   by_cases h:g=k
   ·have hb:(g == k)=true:=beq_iff_eq.mpr h;simp only[List.lookup,hb,if_pos (h.trans hk)]
   ·have hb:(g == k)=false:=beq_eq_false_iff_ne.mpr h;simp only[List.lookup,hb,if_neg (fun e:g=f=>h (e.trans hk.symm))]
  ·rw[if_neg hk]
   by_cases h:g=k
   ·have hb:(g == k)=true:=beq_iff_eq.mpr h;simp only[List.lookup,hb,if_neg (fun e:g=f=>hk (h.symm.trans e))]
   ·have hb:(g == k)=false:=beq_eq_false_iff_ne.mpr h;simp only[List.lookup,hb];exact ih
theorem pE (f:Str)(v:V):∀fs:List (Str × V),f∈(iF f v fs).map (·.1)/\∀g,g∈fs.map (·.1)->g∈(iF f v fs).map (·.1)
 | []=>⟨by simp[iF],fun g h=>by simp at h⟩
 | (k,x) :: r=>by
  obtain⟨i1,i2⟩:=pE f v r;rw[show iF f v ((k,x) :: r)=(if k=f then (k,v) :: r else (k,x) :: iF f v r) from rfl]
  by_cases hk:k=f
  ·rw[if_pos hk];subst hk;exact⟨by simp,fun g h=>by simpa using h⟩
  ·rw[if_neg hk];refine⟨?_,fun g h=>?_⟩
   ·rw[map_cons];exact mem_cons_of_mem _ i1
   ·rw[map_cons] at h ⊢;rcases mem_cons.mp h with e | e
    ·exact mem_cons.mpr (.inl e)
    ·exact mem_cons_of_mem _ (i2 g e)
theorem gF (f:Str)(v:V):∀fs:List (Str × V),(iF f v fs).length<=fs.length+1
 | []=>by simp[iF]
 | (k,x) :: r=>by
  have ih:=gF f v r;rw[show iF f v ((k,x) :: r)=(if k=f then (k,v) :: r else (k,x) :: iF f v r) from rfl]
  by_cases hk:k=f
  ·rw[if_pos hk,length_cons,length_cons];lia
  ·rw[if_neg hk,length_cons,length_cons];lia
theorem jN.some_of {v:V}{o:Option Value}(r:jN (some v) o):∃u,o=some u/\bU v u:=by
 cases o with
 |none=>exact(show False from r).elim
 |some u=>exact⟨u,rfl,r⟩
theorem jN.none_of {o:Option Value}(r:jN none o):o=none:=by
 cases o with
 |none=>rfl
 |some u=>exact(show False from r).elim
theorem Hh {v:V}{u:Value}(r:bU v u):W.handedIn u=true:=by
 cases v with
 |non=>cases (show u=Value.none from r);rfl
 |bl b=>cases (show u=Value.bool b from r);rfl
 |int i=>obtain⟨t,e⟩:=(show ∃t,u=Value.int i t from r);cases e;rfl
 |str x=>obtain⟨t,e⟩:=(show ∃t,u=Value.str x t from r);cases e;rfl
 |byt b=>obtain⟨t,e⟩:=(show ∃t,u=Value.bytes b t from r);cases e;rfl
 |flt b=>obtain⟨t,e⟩:=(show ∃t,u=Value.float b t from r);cases e;rfl
 |ref a=>cases (show u=Value.ref a from r);rfl
 |ty n=>cases (show u=Value.type n from r);rfl
section
variable {P:Program} {w:World} {H H':Hp} {h h':Heap} {a C dx:Addr} {fs fs':List (Str × V)}
theorem qQ (hok:HOk P w H h)(e:H a=some (.ins C dx fs)):∃mA,Db h a dx C mA/\(∀f,jN (fs.lookup f) (mA f))/\PySem.Within mA (fs.map (·.1))/\fs.length<=1000/\H dx=some (.own a):=by
 obtain⟨d,z,ne,ob,mA,n,r,q⟩:=(show dL P w H h a (.ins C dx fs) from hok a _ e)
 exact⟨mA,⟨ob,n,ne⟩,r,q,z,d⟩
end
structure Cls (K:Frag) (C:Addr):Prop where
 pg:W.plainGet K C Str.empty=true
 hd:W.hasDictIn K C=true
 po:W.plainOver K C=true
 sa:W.findIn K (.ref C) "__setattr__"=some (some (.builtin "object.__setattr__"))
theorem Cls.get {K:Frag}{C:Addr}(c:Cls K C)(f:Str):W.plainGet K C f=true:=c.pg
def gX (K:Frag)(C:Addr)(f:Str):Prop:=W.findIn K (.ref C) f=some none
theorem gX.taker {K:Frag}{C:Addr}{f:Str}(n:gX K C f):W.takerIn K C f=some none:=by
 unfold W.takerIn;rw[show W.findIn K (.ref C) f=some none from n];rfl
structure fR (K:Frag) (C:Addr) (m:Str) (f:Addr):Prop where
 at_:W.findIn K (.ref C) m=some (some (.ref f))
 fn:W.isFn K (.ref f)=true
 kp:W.keepIn K (.ref f)=true
section
variable {X:Cx} {pins:List (Addr × Obj)} {σ:St} {H:Hp} {s:Shared} {a C dx:Addr} {fs:List (Str × V)} {f:Str} {v:V} {A:Around} {E:Value->Shared->Prop}
theorem Dz {b:Bool}{Q:Value->Shared->Prop}(I:Inv X pins σ H s)(e:H a=some (.ins C dx fs))(c:Cls X.K C)(n:gX X.K C f)(l:fs.lookup f=some v)(h:∀u s',Inv X pins σ H s'->bU v u->Q u s'):wpAny (model X.prog X.w) A (getAttr (.ref a) f b) Q E s:=by
 obtain⟨mA,O,r,_,_,_⟩:=qQ I.hok e;obtain⟨u,hu,ru⟩:=jN.some_of (v:=v) (o:=mA f) (by rw[<- l];exact r f);exact Tf I.kIn O (c.get f) c.hd n hu (Hh ru) (h u _ (I.tok _) ru)
theorem lV {m:Str}{g:Addr}{pl:Sem Bool}{Q:Value × List Value->Shared->Prop}(I:Inv X pins σ H s)(e:H a=some (.ins C dx fs))(c:Cls X.K C)(k:fR X.K C m g)(l:fs.lookup m=none)(h:Q (.ref g,[.ref a]) s):wpAny (model X.prog X.w) A (getMethod (.ref a) m pl) Q E s:=by
 obtain⟨mA,O,r,_,_,_⟩:=qQ I.hok e;have hn:mA m=none:=jN.none_of (by rw[<- l];exact r m);exact Om I.kIn O (c.get m) k.at_ k.fn hn h
theorem Cq {y:V}{u:Value}{Q:Unit->Shared->Prop}(I:Inv X pins σ H s)(e:H a=some (.ins C dx fs))(c:Cls X.K C)(n:gX X.K C f)(hl:fs.length < 1000)(ry:bU y u)(h:∀s',Inv X pins σ (upd H a (.ins C dx (iF f y fs))) s'->Q () s'):wpAny (model X.prog X.w) A (setAttr (.ref a) f u) Q E s:=by
 obtain⟨mA,O,r,wi,_,ho⟩:=qQ I.hok e;have hz:(fs.map (·.1)).length<=sizeLine:=by rw[length_map,sizeLine_eq];lia
 refine Th I.kIn O c.sa c.po n.taker c.hd wi hz fun h' O' sb=>h _ ?_;have hd:∃o,h'.get? dx=some o:=let ⟨o,_,_,e',_⟩:=O'.ns;⟨o,e'⟩
 refine I.write (x:=a) (e:=dx) (by rw[e];exact True.intro) (.inr ho) (fun b q hb z=>(sb.2 b hb).trans z) hd ?_;refine⟨by rw[aW O.ne];exact ho,?_,O.ne,O'.obj,_,O'.ns,fun g=>?_,fun g hg=>?_⟩
 ·have:=gF f y fs;lia
 ·show jN ((iF f y fs).lookup g) (if g=f then some u else mA g);rw[bV]
  by_cases q:g=f
  ·rw[if_pos q,if_pos q];exact ry
  ·rw[if_neg q,if_neg q];exact r g
 ·by_cases q:g=f
  ·rw[q];exact(pE f y fs).1
  ·refine(pE f y fs).2 g (wi g fun z=>hg ?_);show (if g=f then some u else mA g)=none;rw[if_neg q];exact z
theorem Inv.made (I:Inv X pins σ H s):Inv X pins σ (upd (upd H s.heap.objs.size (.own (s.heap.objs.size+1))) (s.heap.objs.size+1) (.ins C s.heap.objs.size []))
  { s with heap:=(s.heap.push W.emptyDict).push (W.instObj C s.heap.objs.size) }:=by
 have e1:(s.heap.push W.emptyDict).get? s.heap.objs.size=some W.emptyDict:=Heap.get?_push_size s.heap rfl;have e2:((s.heap.push W.emptyDict).push (W.instObj C s.heap.objs.size)).get? (s.heap.objs.size+1)=some (W.instObj C s.heap.objs.size):=by
  have:=Heap.get?_push_size (s.heap.push W.emptyDict) (o:=W.instObj C s.heap.objs.size) rfl
  rwa [Heap.size_push] at this
 have e3:(s.heap.push W.emptyDict).Ns s.heap.objs.size (fun _=>none):=⟨W.emptyDict,#[],_,e1,rfl,(fun e he=>absurd he (by simp)),fun _=>rfl⟩
 have I1:=I.laid (a:=s.heap.objs.size) (o:=.own (s.heap.objs.size+1)) (h':=s.heap.push W.emptyDict) (t':=s.toks) (fun b u q=>Heap.get?_push_of_some _ q) (Nat.le_refl _) ⟨_,e1⟩;refine I1.laid (a:=s.heap.objs.size+1) (o:=.ins C s.heap.objs.size []) (t':=s.toks) (fun b u q=>Heap.get?_push_of_some _ q) (Nat.le_of_eq (Heap.size_push _ _)) ?_;have ne:s.heap.objs.size≠s.heap.objs.size+1:=Nat.ne_of_lt (Nat.lt_succ_self _);refine⟨by rw[aW ne,aD],Nat.zero_le _,ne,e2,fun _=>none,(Heap.Ns1.of_empty e3).at fun o q=>Heap.get?_push_of_some _ q,fun _=>True.intro,fun y hy=>absurd rfl hy⟩
theorem Sw {prog:Program}{w:World}{env:Env}{e:Expr}{f:Str}{pos:Pos}{s:Shared}{Q:Value->Shared->Prop}(hb:attributeBase e f env (eval e env)=eval e env)(h:wpAny (model prog w) A (eval e env) (fun o s₁=>wpAny (model prog w) A (getAttr o f true) Q E s₁) E s):wpAny (model prog w) A (eval (.Attribute e f pos) env) Q E s:=
 Attribute_any_ h (by rw[arm_eval_Attribute,hb])
end
def qg0 (K:Frag)(ta:TE)(f:Str):TE:=fun σ H Q=>ta σ H fun x H1=>∃a C dx fs v,x=.ref a/\H1 a=some (.ins C dx fs)/\Cls K C/\gX K C f/\fs.lookup f=some v/\Q v H1
def qf8 (K:Frag)(ta tv:TE)(f:Str):TS:=fun D σ H=>tv σ H fun y H1=>ta σ H1 fun x H2=>∃a C dx fs,x=.ref a/\H2 a=some (.ins C dx fs)/\Cls K C/\gX K C f/\fs.length < 1000/\
 D.nx σ (upd H2 a (.ins C dx (iF f y fs)))
section
variable {X:Cx} {o e value:Expr} {f:Str} {pos pos' tpos:Pos} {ta tv:TE}
theorem cI (he:PE X e ta)(hb:attributeBase e f X.env (eval e X.env)=eval e X.env):PE X (.Attribute e f pos) (qg0 X.K ta f):=by
 intro pins s σ H Q I h;refine Sw hb (thn (he pins s σ H _ I h) fun u s1 ⟨x,H1,I1,rx,a,C,dx,fs,v,ex,ea,c,n,l,q⟩=>?_);subst ex;obtain rfl:u=Value.ref a:=rx;exact Dz I1 ea c n l fun u' s2 I2 ru=>⟨v,H1,I2,ru,q⟩
theorem rG (ha:PE X o ta)(hv:PE X value tv)(hs:swapsWith value (some (.Attribute o f pos')) pos.line X.env=pure false):PS X (.Assign [.Attribute o f pos'] value pos) (qf8 X.K ta tv f):=by
 intro pins s σ H D I h;refine plainObj_wpAny_Assign_Attribute (thn (hv pins s σ H _ I h) fun u s1 ⟨y,H1,I1,ry,q⟩=>thn (ha pins s1 σ H1 _ I1 q) fun ov s2 ⟨x,H2,I2,rx,a,C,dx,fs,ex,ea,c,n,l,q2⟩=>?_) hs;subst ex;obtain rfl:ov=Value.ref a:=rx;exact Cq I2 ea c n l ry fun s3 I3=>⟨σ,_,I3,q2⟩
end
section
variable {X:Cx} {pins:List (Addr × Obj)} {σ:St} {H:Hp} {s:Shared} {A:Around} {E:Value->Shared->Prop} {Q:Value->Shared->Prop} {c:Value} {b:Bool}
inductive kX (K:Frag) (H:Hp):V->Value->Prop where
 |non:kX K H .non (.type "NoneType")
 |bl (x:Bool):kX K H (.bl x) (.type "bool")
 |int (i:Int):kX K H (.int i) (.type "int")
 |str (x:Str):kX K H (.str x) (.type "str")
 |flt (x:UInt64):kX K H (.flt x) (.type "float")
 |lst {a:Addr} {xs:List V} (e:H a=some (.lst xs)):kX K H (.ref a) (.type "list")
 |frz {a:Addr} {o:Obj} {xs:List V} (e:H a=some (.frz o (.lst xs))):kX K H (.ref a) (.type "list")
 |tup {a:Addr} {xs:List V} (e:H a=some (.tup xs)):kX K H (.ref a) (.type "tuple")
 |dK {a:Addr} {kvs:List (Key × V)} (e:H a=some (.dK kvs)):kX K H (.ref a) (.type "dict")
 |dT {a:Addr} {kvs:List (List Key × V)} (e:H a=some (.dT kvs)):kX K H (.ref a) (.type "dict")
 |ins {a C dx:Addr} {fs:List (Str × V)} (e:H a=some (.ins C dx fs)) (cl:Cls K C) (ha:W.findIn K (.ref C) "__class__"=some (some (.builtin "object.__class__")))
   (hn:W.specialIn K (.builtin "object.__class__") "__get__"=some (some (.builtin "getset_descriptor.__get__"))) (htk:W.takesIn K (.builtin "object.__class__")=some true)
   (hm:W.mroIn K C (.type "object")=some true):kX K H (.ref a) (.ref C)
theorem Iv {x:V}{u t:Value}(I:Inv X pins σ H s)(rx:bU x u)(ty:kX X.K H x t)(e:W.kitOne X.K t c=some b)(h:∀tk,Q (.bool b) { s with toks:=tk }) :
  wpAny (model X.prog X.w) A (call (.builtin "isinstance") [u,c]) Q E s:=by
 cases ty with
 |non=>cases (show u=Value.none from rx);exact W.kia_one W.kitx_none I.kIn True.intro e (fun z=>nomatch z) h
 |bl y=>cases (show u=Value.bool y from rx);exact W.kia_one W.kitx_bool I.kIn True.intro e (fun z=>nomatch z) h
 |int i=>obtain⟨t,q⟩:=(show ∃t,u=Value.int i t from rx);cases q;exact W.kia_one W.kitx_int I.kIn True.intro e (fun z=>nomatch z) h
 |str y=>obtain⟨t,q⟩:=(show ∃t,u=Value.str y t from rx);cases q;exact W.kia_one W.kitx_str I.kIn True.intro e (fun z=>nomatch z) h
 |flt y=>obtain⟨t,q⟩:=(show ∃t,u=Value.float y t from rx);cases q;exact W.kia_one W.kitx_float I.kIn True.intro e (fun z=>nomatch z) h
 | @lst a xs ea=>
  cases (show u=Value.ref a from rx)
  obtain⟨_,_,n,_,h1⟩:=(show dL X.prog X.w H s.heap a (.lst xs) from I.hok a _ ea)
  exact W.kia_one W.kitx_list I.kIn ⟨_,h1,rfl⟩ e (fun z=>nomatch z) h
 | @frz a ob xs ea=>
  cases (show u=Value.ref a from rx)
  obtain⟨_,_,_,n,_,h1⟩:=(show dL X.prog X.w H s.heap a (.frz ob (.lst xs)) from I.hok a _ ea)
  exact W.kia_one W.kitx_list I.kIn ⟨_,h1,rfl⟩ e (fun z=>nomatch z) h
 | @tup a xs ea=>
  cases (show u=Value.ref a from rx)
  obtain⟨_,_,_,p⟩:=(show dL X.prog X.w H s.heap a (.tup xs) from I.hok a _ ea)
  obtain⟨o,h1,h2,_⟩:=p;exact W.kia_one W.kitx_tuple I.kIn ⟨o,h1,h2⟩ e (fun z=>nomatch z) h
 | @dK a kvs ea=>
  cases (show u=Value.ref a from rx)
  obtain⟨_,_,vs,_,p⟩:=(show dL X.prog X.w H s.heap a (.dK kvs) from I.hok a _ ea)
  obtain⟨o,es,ep,h1,h2,_⟩:=p;exact W.kia_one W.kitx_dict I.kIn ⟨o,h1,h2.1⟩ e (fun z=>nomatch z) h
 | @dT a kvs ea=>
  cases (show u=Value.ref a from rx)
  obtain⟨_,_,xs,_,o,es,ep,h1,h2,_⟩:=(show dL X.prog X.w H s.heap a (.dT kvs) from I.hok a _ ea)
  exact W.kia_one W.kitx_dict I.kIn ⟨o,h1,h2.1⟩ e (fun z=>nomatch z) h
 | @ins a C dx fs ea cl ha hn htk hm=>
  cases (show u=Value.ref a from rx)
  obtain⟨mA,O,_⟩:=qQ I.hok ea;obtain⟨od,J,_⟩:=O.look;exact W.kia_one (W.kitx_own (cl.get _) cl.hd ha hn htk hm) I.kIn J e (fun z=>nomatch z) h
end
structure gC (k:Nat) (A:Around):Prop where
 hd:A.handled=none
 dp:A.depth+3*k+5 < recursionLimit
 un:A.units+16*k+200 < cLine
theorem gC.mono {j k:Nat}{A:Around}(r:gC k A)(h:j<=k):gC j A:=⟨r.hd,by have:=r.dp;lia,by have:=r.un;lia⟩
theorem gC.deeper {k:Nat}{A:Around}(r:gC (k+1) A)(env:Env):gC k (A.deeper env):=
 ⟨r.hd,by have:=r.dp;show A.depth+1+3*k+5 < _;lia,by have:=r.un;show A.units+3+16*k+200 < _;lia⟩
theorem Ee {A:Around}{C:Addr}{us:List Value}{kw:List (Str × Value)}:(A.under (.builtin "type.__call__" ⟨.ref C :: us,kw⟩)).depth=A.depth+1:=by
 first | rfl | simp[Around.under,Code.weight,Code.isCreation,Code.isGuard,Code.isCaller,Code.frames,Code.isFrame,guardIds]
theorem Ei {A:Around}{C:Addr}{us:List Value}{kw:List (Str × Value)}:(A.under (.builtin "type.__call__" ⟨.ref C :: us,kw⟩)).units=A.units+1:=by
 first | rfl | simp[Around.under,Code.cUnits,Code.frames,Code.isFrame]
theorem gC.make {k:Nat}{A:Around}(r:gC (k+1) A)(C:Addr)(us:List Value)(kw:List (Str × Value)):gC k (A.under (.builtin "type.__call__" ⟨.ref C :: us,kw⟩)):=
 ⟨r.hd,by have:=r.dp;rw[Ee];lia,by have:=r.un;rw[Ei];lia⟩
theorem gC.depth {k:Nat}{A:Around}(r:gC k A):A.depth < recursionLimit:=by have:=r.dp;lia
theorem gC.units {k:Nat}{A:Around}(r:gC k A):A.units+64 < cLine:=by have:=r.un;lia
def Yw:TA:=fun _ H Q=>Q [] H
def qc1 (ta:TE)(tr:TA):TA:=fun σ H Q=>ta σ H fun x H1=>tr σ H1 fun xs H2=>Q (x :: xs) H2
section
variable {X:Cx} {e:Expr} {es:List Expr} {te:TE} {t:TA} {pos:Pos}
theorem aC:PA X [] Yw:=fun _ _ _ _ H Q I h=>Calls.spliced_nil ⟨[],H,I,.nil,h⟩
theorem aA (ha:PE X e te)(hr:PA X es t)(hs:starEach (e :: es) X.env=(false,eval e X.env) :: starEach es X.env:=by rfl):PA X (e :: es) (qc1 te t):=by
 intro pos pins s σ H Q I h;rw[hs];show wpAny _ _ (spliced ((false,eval e X.env) :: backTo pos (starEach es X.env))) _ _ s;refine Calls.spliced_cons (thn (ha pins s σ H _ I h) fun u s1 ⟨x,H1,I1,r1,q1⟩=>?_);exact thn (hr pos pins s1 σ H1 _ I1 q1) fun us s2 ⟨xs,H2,I2,r2,q2⟩=>⟨x :: xs,H2,I2,.cons r1 r2,q2⟩
def qi5 (t:TA):TE:=fun σ H Q=>t σ H fun xs H1=>xs.length<=sizeLine/\∀p,H1 p=none->Q (.ref p) (upd H1 p (.tup xs))
def qf7 (t:TA):TE:=fun σ H Q=>t σ H fun xs H1=>xs.length<=sizeLine/\∀p,H1 p=none->Q (.ref p) (upd H1 p (.lst xs))
theorem eY {x1}(h:PA X es t):PE X (.Tuple es x1 pos) (qi5 t):=by
 intro pins s σ H Q I hq;refine wpAny_Tuple_spliced (thn (h pos pins s σ H _ I hq) fun us s1 ⟨xs,H1,I1,r,z,q⟩=>⟨by rw[<- r.length];exact z,?_⟩);have hf:H1 s1.heap.objs.size=none:=I1.hok.fresh (Nat.le_refl _);refine⟨.ref s1.heap.objs.size,upd H1 s1.heap.objs.size (.tup xs),I1.laid (t':=s1.toks) (fun b u e=>Heap.get?_push_of_some _ e) (Nat.le_refl _) ?_,rfl,q _ hf⟩;exact⟨z,us,r,⟨_,Heap.get?_push_size _ rfl,rfl,_,rfl⟩⟩
theorem cT (h:PA X es t):PE X (.List es pos) (qf7 t):=by
 intro pins s σ H Q I hq;refine wpAny_List_spliced (thn (h pos pins s σ H _ I hq) fun us s1 ⟨xs,H1,I1,r,z,q⟩=>⟨by rw[<- r.length];exact z,?_⟩);have hf:H1 s1.heap.objs.size=none:=I1.hok.fresh (Nat.le_refl _);refine⟨.ref s1.heap.objs.size,upd H1 s1.heap.objs.size (.lst xs),I1.laid (t':=s1.toks) (fun b u e=>Heap.get?_push_of_some _ e) (Nat.le_refl _) ?_,rfl,q _ hf⟩;exact⟨z,us,0,r,Heap.get?_push_size _ rfl⟩
end
abbrev Sp:=List V->Hp->VK->XK->Prop
abbrev CXT:=List Env->Hp->Shared->XK->Value->Shared->Prop
structure Cm (P:Program) (w:World) (K:Frag) (mg:Str->Option Value) (base:Heap) (A:Around) (outer:List Env) (s:Shared) (H:Hp):Prop where
 frames:A.frames=some outer
 mod:Mod K mg base
 bs:∀b o,base.get? b=some o->s.heap.get? b=some o/\H b=none
 bsz:base.objs.size<=s.heap.objs.size
 funs:s.heap.FunFrames base outer
 frf:∀b∈frs outer,H b=none
 hok:HOk P w H s.heap
 bare:AllBare s.gens
def CE (outer:List Env)(P:Program)(w:World)(H:Hp)(s:Shared)(Q:VK)(u:Value)(s':Shared):Prop:=
 ∃v H',s'.os=s.os/\AllBare s'.gens/\Un (frs outer) [] H H' s.heap s'.heap/\HOk P w H' s'.heap/\bU v u/\Q v H'
def CR (CX:CXT)(outer:List Env)(P:Program)(w:World)(H:Hp)(s:Shared)(Q:VK)(E:XK)(r:Result)(s':Shared):Prop:=
 match r with
 | .ok (.ret u)=>CE outer P w H s Q u s'
 | .ok _=>False
 | .error e=>CX outer H s E e s'
structure aM (P:Program) (w:World) (K:Frag) (mg:Str->Option Value) (base:Heap) (CX:CXT) (k:Nat) (f:Addr) (fd:FuncData) (ps:List Str) (sp:Sp):Prop where
 len:∀vs H Q E,sp vs H Q E->vs.length=ps.length
 run:∀(A:Around) (outer:List Env) (s:Shared) (H:Hp) (args:Args) (us:List Value) (vs:List V) (Q:VK) (E:XK),gC k A->Cm P w K mg base A outer s H->BindsTo s fd args (ps.zip us)->bQ vs us->sp vs H Q E->
  codeAny (model P w) A (.call (.ref f) args) (CR CX outer P w H s Q E) s
theorem Cm.make {P:Program}{w:World}{K:Frag}{mg:Str->Option Value}{base:Heap}{A:Around}{outer:List Env}{s:Shared}{H:Hp}(e:Cm P w K mg base A outer s H)(C:Addr)(us:List Value)(kw:List (Str × Value)) :
  Cm P w K mg base (A.under (.builtin "type.__call__" ⟨.ref C :: us,kw⟩)) outer s H:=⟨by first | exact e.frames | (simpa[Around.under,Code.envs,Code.isFrame,pushEnvs] using e.frames),e.mod,e.bs,e.bsz,e.funs,e.frf,e.hok,e.bare⟩
section
variable {X:Cx} {pins:List (Addr × Obj)} {σ:St} {H:Hp} {s s':Shared}
theorem Inv.env0 (I:Inv X pins σ H s):Cm X.prog X.w X.K X.mg X.base X.A X.stack s H:=
 ⟨I.ok.frames,I.ok.mod,I.bs,Nat.le_trans I.ok.bsz I.sz,I.stack,I.stkFree,I.hok,I.bare⟩
theorem Inv.after {Q:VK}{u:Value}(I:Inv X pins σ H s)(h:CE X.stack X.prog X.w H s Q u s'):EP X pins σ Q u s':=by
 obtain⟨v,H',os,bare,un,hok,r,q⟩:=h;obtain⟨hh,g,d,t,os'⟩:=s';obtain rfl:os'=s.os:=os;exact⟨v,H',I.call (h':=hh) (g':=g) (d':=d) (t':=t) (ch:=[]) un hok bare (fun b z=>absurd z (by simp)),r,q⟩
end
def qd8 (sp:Sp)(dvs:List V)(E:XK)(t:TA):TE:=fun σ H Q=>t σ H fun vs H1=>sp (vs++dvs) H1 Q E
def Um (C:Addr)(m:Str)(sp:Sp)(dvs:List V)(E:XK)(ta:TE)(t:TA):TE:=fun σ H Q=>ta σ H fun x H1=>∃a dx fs,x=.ref a/\H1 a=some (.ins C dx fs)/\fs.lookup m=none/\
 t σ H1 fun vs H2=>sp (x :: (vs++dvs)) H2 Q E
def qb1 (C:Addr)(sp:Sp)(dvs:List V)(E:XK)(t:TA):TE:=fun σ H Q=>t σ H fun vs H1=>∀x dx,H1 x=none->H1 dx=none->dx≠x->
 sp (.ref x :: (vs++dvs)) (upd (upd H1 dx (.own x)) x (.ins C dx [])) (fun v H2=>v=.non/\Q (.ref x) H2) E
def aL (K:Frag)(fd:FuncData)(ps:List Str)(ds:List Value):Prop:=
 ∀(s:Shared) (us:List Value),K.In s.heap->(us++ds).length=ps.length->BindsTo s fd ⟨us,[]⟩ (ps.zip (us++ds))
theorem aL.all {K:Frag}{fd:FuncData}{ps:List Str}(h:∀us:List Value,us.length=ps.length->bindArgs fd ⟨us,[]⟩=pure (ps.zip us)):aL K fd ps []:=fun s us _ hl=>by
 rw[append_nil] at hl ⊢;exact .of_eq (h us hl)
def kM (CX:CXT)(X:Cx)(E:XK):Prop:=∀(pins:List (Addr × Obj)) (σ:St) (H:Hp) (s:Shared) (e:Value) (s':Shared),Inv X pins σ H s->CX X.stack H s E e s'->X.xe e s'
section
variable {X:Cx} {CX:CXT} {k:Nat} {f C:Addr} {fd:FuncData} {ps:List Str} {sp:Sp} {dvs:List V} {ds:List Value} {E:XK} {x m:Str} {p pos apos:Pos} {e o:Expr} {es:List Expr} {ta:TE} {t:TA}
theorem yV {pins:List (Addr × Obj)}{σ:St}{H:Hp}{s:Shared}{Q:VK}{us:List Value}{vs:List V}(F:aM X.prog X.w X.K X.mg X.base CX k f fd ps sp)(hr:gC k X.A)(hb:aL X.K fd ps ds)(hd:bQ dvs ds)(hx:kM CX X E)(I:Inv X pins σ H s)(r:bQ vs us)(h:sp (vs++dvs) H Q E):wpAny (model X.prog X.w) X.A (call (.ref f) us) (EP X pins σ Q) X.xe s:=by
 have r2:bQ (vs++dvs) (us++ds):=r.append hd;have hl:(us++ds).length=ps.length:=by rw[<- r2.length];exact F.len _ _ _ _ h
 refine wpAny_call (codeAny_mono (F.run X.A X.stack s H ⟨us,[]⟩ (us++ds) (vs++dvs) Q E hr I.env0 (hb s us I.kIn hl) r2 h) fun r s' hq=>?_)
 cases r with
 |error e=>exact hx pins σ H s e s' I hq
 |ok fl=>
  cases fl with
  |ret u=>exact I.after hq
  |next=>exact False.elim hq
  |brk=>exact False.elim hq
  |cont=>exact False.elim hq
theorem aG (F:aM X.prog X.w X.K X.mg X.base CX k f fd ps sp)(hr:gC k X.A)(hg:Gl X x)(hm:X.mg x=some (.ref f))(hk:W.keepIn X.K (.ref f)=true)(hb:aL X.K fd ps ds)(hd:bQ dvs ds)(hx:kM CX X E)(ha:PA X (e :: es) t)(hdb:(x == ("__debug__":Str))=false:=by decide)(he:starEach (e :: es) X.env=(false,eval e X.env) :: starEach es X.env:=by rfl)(hpl:(backTo pos (starEach es X.env)).any (·.1)=false:=by rfl) :
  PE X (.Call (.Name x p) (e :: es) [] pos) (qd8 sp dvs E t):=by
 intro pins s σ H Q I h;refine wpAny_Call_Name_kw (xU I hg hm ?_ hdb);refine W.callWith_K (h₀:=X.base) I.ok.mod.kin hk (thn (ha pos pins s σ H _ I h) fun us s1 ⟨vs,H1,I1,r,q⟩=>⟨I1.kIn,?_⟩) he hpl;exact yV F hr hb hd hx I1 r q
theorem Tk {pl:Sem Bool}(he:PE X o ta)(c:Cls X.K C)(hm:fR X.K C m f)(F:aM X.prog X.w X.K X.mg X.base CX k f fd ps sp)(hr:gC k X.A)(hb:aL X.K fd ps ds)(hd:bQ dvs ds)(hx:kM CX X E)(ha:PA X (e :: es) t)(hst:starEach (e :: es) X.env=(false,eval e X.env) :: starEach es X.env:=by rfl)(hpl:(backTo pos (starEach es X.env)).any (·.1)=false:=by rfl)(ht:eval (.Call (.Attribute o m apos) (e :: es) [] pos) X.env=(do
   let ov <- eval o X.env
   standAt apos.atName
   let (f,first) <- holding [ov] (getMethod ov m pl)
   callWith pos f first (backTo pos (starEach (e :: es) X.env)) (backToKw pos (keywordEach [] X.env))):=by rfl) :
  PE X (.Call (.Attribute o m apos) (e :: es) [] pos) (Um C m sp dvs E ta t):=by
 intro pins s σ H Q I h;refine W.methodCall_KW (pl:=pl) (thn (he pins s σ H _ I h) fun u s1 ⟨x,H1,I1,rx,a,dx,fs,ex,ea,l,q⟩=>?_) ht;subst ex;obtain rfl:u=Value.ref a:=rx;refine lV I1 ea c hm l ?_;refine W.callWith_K (first:=[.ref a]) (h₀:=X.base) I.ok.mod.kin hm.kp (thn (ha pos pins s1 σ H1 _ I1 q) fun us s2 ⟨vs,H2,I2,r,q2⟩=>⟨I2.kIn,?_⟩) hst hpl;exact yV (us:=.ref a :: us) (vs:=.ref a :: vs) F hr hb hd hx I2 (.cons rfl r) q2
theorem dH {pl:Sem Bool}(he:PE X o ta)(c:Cls X.K C)(hm:fR X.K C m f)(F:aM X.prog X.w X.K X.mg X.base CX k f fd ps sp)(hr:gC k X.A)(hb:aL X.K fd ps ds)(hd:bQ dvs ds)(hx:kM CX X E)(ht:eval (.Call (.Attribute o m apos) [] [] pos) X.env=(do
   let ov <- eval o X.env
   standAt apos.atName
   let (f,first) <- holding [ov] (getMethod ov m pl)
   callWith pos f first (backTo pos (starEach [] X.env)) (backToKw pos (keywordEach [] X.env))):=by rfl) :
  PE X (.Call (.Attribute o m apos) [] [] pos) (Um C m sp dvs E ta Yw):=by
 intro pins s σ H Q I h;refine W.methodCall_KW (pl:=pl) (thn (he pins s σ H _ I h) fun u s1 ⟨x,H1,I1,rx,a,dx,fs,ex,ea,l,q⟩=>?_) ht;subst ex;obtain rfl:u=Value.ref a:=rx;refine lV I1 ea c hm l ?_;exact W.callWith_K0 (first:=[.ref a]) I1.kIn hm.kp (yV (us:=[.ref a]) (vs:=[.ref a]) F hr hb hd hx I1 (.cons rfl .nil) q)
structure Mk (K:Frag) (C f:Addr):Prop where
 makes:W.makesIn K C=true
 init:W.findIn K (.ref C) "__init__"=some (some (.ref f))
 fn:W.isFn K (.ref f)=true
 kp:W.keepIn K (.ref C)=true
theorem Ki {pins:List (Addr × Obj)}{σ:St}{H:Hp}{s:Shared}{Q:VK}{us:List Value}{vs:List V}(M:Mk X.K C f)(F:aM X.prog X.w X.K X.mg X.base CX k f fd ps sp)(hr:gC (k+1) X.A)(hb:aL X.K fd ps ds)(hd:bQ dvs ds)(hx:kM CX X E)(I:Inv X pins σ H s)(r:bQ vs us)(h:∀x dx,H x=none->H dx=none->dx≠x->sp (.ref x :: (vs++dvs)) (upd (upd H dx (.own x)) x (.ins C dx [])) (fun v H2=>v=.non/\Q (.ref x) H2) E) :
  wpAny (model X.prog X.w) X.A (call (.ref C) us) (EP X pins σ Q) X.xe s:=by
 have hq:=h (s.heap.objs.size+1) s.heap.objs.size (I.hok.fresh (Nat.le_succ _)) (I.hok.fresh (Nat.le_refl _)) (Nat.ne_of_lt (Nat.lt_succ_self _));have I2:=Inv.made (C:=C) I;have r2:bQ (V.ref (s.heap.objs.size+1) :: (vs++dvs)) (Value.ref (s.heap.objs.size+1) :: (us++ds)):=.cons rfl (r.append hd);have hl:(Value.ref (s.heap.objs.size+1) :: us++ds).length=ps.length:=by
  have e:=r2.length;rw[F.len _ _ _ _ hq] at e;exact e.symm
 refine wpAny_call (Ou (f:=f) I.kIn M.makes M.init (beq_iff_eq.mp M.fn) (codeAny_mono (F.run _ X.stack _ _ ⟨Value.ref (s.heap.objs.size+1) :: us,[]⟩ (Value.ref (s.heap.objs.size+1) :: (us++ds)) _ _ E (hr.make C us [])
  (I2.env0.make C us []) (hb _ (Value.ref (s.heap.objs.size+1) :: us) I2.kIn hl) r2 hq) fun r s' hq'=>?_))
 cases r with
 |error e=>exact hx pins σ _ _ e s' I2 hq'
 |ok fl=>
  cases fl with
  |ret u=>
   obtain⟨v,H',I3,rv,ev,q3⟩:=I2.after hq';subst ev;exact⟨rv,⟨V.ref (s.heap.objs.size+1),H',I3,rfl,q3⟩⟩
  |next=>exact False.elim hq'
  |brk=>exact False.elim hq'
  |cont=>exact False.elim hq'
theorem mS (M:Mk X.K C f)(F:aM X.prog X.w X.K X.mg X.base CX k f fd ps sp)(hr:gC (k+1) X.A)(hg:Gl X x)(hm:X.mg x=some (.ref C))(hb:aL X.K fd ps ds)(hd:bQ dvs ds)(hx:kM CX X E)(ha:PA X (e :: es) t)(hdb:(x == ("__debug__":Str))=false:=by decide)(he:starEach (e :: es) X.env=(false,eval e X.env) :: starEach es X.env:=by rfl)(hpl:(backTo pos (starEach es X.env)).any (·.1)=false:=by rfl) :
  PE X (.Call (.Name x p) (e :: es) [] pos) (qb1 C sp dvs E t):=by
 intro pins s σ H Q I h;refine wpAny_Call_Name_kw (xU I hg hm ?_ hdb);refine W.callWith_K (h₀:=X.base) I.ok.mod.kin M.kp (thn (ha pos pins s σ H _ I h) fun us s1 ⟨vs,H1,I1,r,q⟩=>⟨I1.kIn,?_⟩) he hpl;exact Ki M F hr hb hd hx I1 r q
end
structure aQ (N P:List Str) (sc:Scope):Prop where
 kind:sc.kind=.function
 co:sc.isCoroutine=false
 gen:sc.isGenerator=false
 nd:N.Nodup
 pre:N.take P.length=P
 par:∀x∈P,sc.names.lookup x=some .local\/sc.names.lookup x=some .cell
 nofree:∀y∈sc.names,y.2≠.free
theorem sK9 {N P:List Str}{sc:Scope}(a:sc.kind=.function)(b:sc.isCoroutine=false)(c:sc.isGenerator=false)(d:N.take P.length=P)(e:(decide N.Nodup&&decide (∀x∈P,sc.names.lookup x=some .local\/sc.names.lookup x=some .cell)&&decide (∀y∈sc.names,y.2≠.free))=true):aQ N P sc:=by
 rw[Bool.and_eq_true,Bool.and_eq_true] at e
 exact ⟨a,b,c,of_decide_eq_true e.1.1,d,of_decide_eq_true e.1.2,of_decide_eq_true e.2⟩
theorem zl9 (n:Nat)(h:n<=16:=by decide):n<=sizeLine:=Nat.le_trans h (by decide)
abbrev kI9 (K:Frag)(g:Addr):Prop:=W.keepIn K (.ref g)=true
abbrev mI9 (mg:Str->Option Value)(x:Str)(g:Addr):Prop:=mg x=some (.ref g)
theorem vK {kindOf:Str->Option NameKind}{x:Str}:∀{binds:List (Str × Value)} {m:Str->Option Value},(∀v,(x,v)∉binds)->bindL kindOf binds m x=m x
 | [],_,_=>rfl
 | (n,v) :: r,m,h=>by
  unfold bindL;rw[vK fun w hw=>h w (mem_cons_of_mem _ hw)];split
  ·have:x≠n:=by rintro rfl;exact h v mem_cons_self
   simp[this]
  ·rfl
theorem wH {kindOf:Str->Option NameKind}{x:Str}:∀{binds:List (Str × Value)} {m:Str->Option Value},(∀v,(x,v)∉binds)->bindC kindOf binds m x=m x
 | [],_,_=>rfl
 | (n,v) :: r,m,h=>by
  unfold bindC;rw[wH fun w hw=>h w (mem_cons_of_mem _ hw)];split
  ·rfl
  ·have:x≠n:=by rintro rfl;exact h v mem_cons_self
   simp[this]
theorem wK {kindOf:Str->Option NameKind}{x:Str}{v:Value}:∀{P:List Str} {vs:List Value} {i:Nat} {m:Str->Option Value},P.Nodup->P[i]?=some x->vs[i]?=some v->kindOf x=some .local->
  bindL kindOf (P.zip vs) m x=some v
 | [],_,_,_,_,h,_,_=>by simp at h
 |_ :: _,[],_,_,_,_,h,_=>by simp at h
 |p :: P,w :: vs,0,m,nd,h1,h2,hk=>by
  simp at h1 h2;subst h1;subst h2;show bindL kindOf ((p,w) :: P.zip vs) m p=_;unfold bindL;rw[vK fun v hv=>(nodup_cons.mp nd).1 (of_mem_zip hv).1,if_pos hk];simp
 |p :: P,w :: vs,i+1,m,nd,h1,h2,hk=>by
  show bindL kindOf ((p,w) :: P.zip vs) m x=_;unfold bindL;exact wK (i:=i) (nodup_cons.mp nd).2 (by simpa using h1) (by simpa using h2) hk
theorem uX {kindOf:Str->Option NameKind}{x:Str}{v:Value}:∀{P:List Str} {vs:List Value} {i:Nat} {m:Str->Option Value},P.Nodup->P[i]?=some x->vs[i]?=some v->kindOf x≠some .local->
  bindC kindOf (P.zip vs) m x=some v
 | [],_,_,_,_,h,_,_=>by simp at h
 |_ :: _,[],_,_,_,_,h,_=>by simp at h
 |p :: P,w :: vs,0,m,nd,h1,h2,hk=>by
  simp at h1 h2;subst h1;subst h2;show bindC kindOf ((p,w) :: P.zip vs) m p=_;unfold bindC;rw[wH fun v hv=>(nodup_cons.mp nd).1 (of_mem_zip hv).1,if_neg hk];simp
 |p :: P,w :: vs,i+1,m,nd,h1,h2,hk=>by
  show bindC kindOf ((p,w) :: P.zip vs) m x=_;unfold bindC;exact uX (i:=i) (nodup_cons.mp nd).2 (by simpa using h1) (by simpa using h2) hk
def start (N:List Str)(vs:List V):St:=vs.map some++replicate (N.length - vs.length) none
def Eg (CX:CXT)(P:Program)(w:World)(K:Frag)(mg:Str->Option Value)(base:Heap)(N:List Str)(qual:Str)(scope:Scope)(f:Addr)(cd:Value)(A:Around)(outer:List Env)(s:Shared)(H:Hp)(E:XK):Cx where
 prog:=P
 w:=w
 K:=K
 mg:=mg
 base:=base
 A:=A.deeper (envOfC qual scope s.heap.objs.size f cd)
 N:=N
 s₀:=s
 H₀:=H
 env:=envOfC qual scope s.heap.objs.size f cd
 outer:=outer
 stack:=envOfC qual scope s.heap.objs.size f cd :: outer
 ex:=[]
 calm:=true
 fn:=fun _=>true
 pn:=[]
 xe:=fun e s'=>wpAny (model P w) (A.deeper (envOfC qual scope s.heap.objs.size f cd)) (leaving (envOfC qual scope s.heap.objs.size f cd) e) (fun _ s''=>CX outer H s E e s'') (fun e' s''=>CX outer H s E e' s'') s'
theorem An {sc:Scope}{n:Nat}{x:Str}(h:sc.names.lookup x=some .cell):∃c,(cellsFrom n sc.names []).lookup x=some c:=by
 have q:=W.cellsFrom_some sc.names n [] (.inl h);exact Option.isSome_iff_exists.mp q
theorem Jw {CX:CXT}{P:Program}{w:World}{K:Frag}{mg:Str->Option Value}{base:Heap}{N ps:List Str}{qual:Str}{scope:Scope}{f:Addr}{cd:Value}{A:Around}{outer:List Env}{s s1:Shared}{H:Hp}{E:XK}{us:List Value}{vs:List V}(S:aQ N ps scope)(hd:A.handled=none)(e0:Cm P w K mg base A outer s H)(hl:vs.length=ps.length)(r:bQ vs us)(x:InCallC s s.heap.objs.size (bindL (envOfC qual scope s.heap.objs.size f cd).kindOf (ps.zip us) fun _=>none) (cellsFrom (s.heap.objs.size+1) scope.names []) (bindC (envOfC qual scope s.heap.objs.size f cd).kindOf (ps.zip us) fun _=>none) s1) :
  Inv (Eg CX P w K mg base N qual scope f cd A outer s H E) [] (start N vs) H s1:=by
 have hpl:ps.length<=N.length:=by have:=congrArg List.length S.pre;rw[length_take] at this;lia
 obtain⟨h1,tk,rfl,hk⟩:=x.done;have noA:∀b:Addr,b∉(Eg CX P w K mg base N qual scope f cd A outer s H E).ex:=fun b z=>absurd (show b∈([]:List Addr) from z) (by simp);refine⟨⟨e0.mod,S.kind,rfl,rfl,Nat.le_refl _,fun y z c h1 h2=>?_,fun y hy=>?_,fun y c _ h=>?_,fun _=>hd,Around.frames_deeper e0.frames,.inr ⟨rfl,rfl⟩,fun b z=>absurd z (noA b),e0.bs,e0.bsz,fun b _ _=>noA b,fun b z=>absurd z (noA b),e0.funs,e0.frf⟩,
  rfl,e0.bare,Un.kept hk,⟨_,x.toInCall.ns,fun i y v h1 h2 h3=>?_⟩,fun y c h=>⟨_,x.cell y c h⟩,e0.hok.fresh (Nat.le_refl _),fun y c h=>?_,fun p hp=>absurd (show p∈([]:List (Addr × Obj)) from hp) (by simp),e0.hok.kept hk,?_⟩
 ·exact name_of_addr x.apart (PySem.mem_of_lookup h1) (PySem.mem_of_lookup h2)
 ·have hy:scope.names.lookup y=some .cell\/scope.names.lookup y=some .free:=hy;rcases hy with hy | hy
  ·exact An hy
  ·exact absurd rfl (S.nofree _ (PySem.mem_of_lookup hy))
 ·exact Nat.le_of_lt (x.above y c (PySem.mem_of_lookup h))
 ·have hi:i < vs.length:=by
   unfold start at h2
   by_cases hi:i < vs.length
   ·exact hi
   ·rw[getElem?_append_right (by simpa using hi)] at h2;rw[getElem?_replicate] at h2;split at h2<;>cases h2
  have ha:vs[i]?=some v:=by
   unfold start at h2;rw[getElem?_append_left (by simpa using hi),getElem?_map] at h2
   cases e:vs[i]? with
   |none=>rw[e] at h2;cases h2
   |some a=>rw[e] at h2;cases h2;rfl
  obtain⟨u,hu,rv⟩:=r.get ha;have hp:ps[i]?=some y:=by
   rw[<- S.pre,getElem?_take_of_lt (by lia)];exact h1
  have ndP:ps.Nodup:=by rw[<- S.pre];exact S.nd.sublist (take_sublist _ _)
  refine⟨u,rv,?_⟩;rcases S.par y (mem_of_getElem? hp) with k | k
  ·exact .inl ⟨k,wK ndP hp hu k⟩
  ·obtain⟨c,e⟩:=An (n:=s.heap.objs.size+1) k;refine .inr ⟨.inl k,c,e,?_⟩;have q:=x.cell y c e;rw[uX ndP hp hu (by show scope.names.lookup y≠_;rw[k];decide)] at q;exact q
 ·exact e0.hok.fresh (Nat.le_of_lt (x.above y c (PySem.mem_of_lookup h)))
 ·unfold start;show _=N.length;rw[List.length_append,length_map,length_replicate];lia
theorem qe5 {CX:CXT}{P:Program}{w:World}{K:Frag}{mg:Str->Option Value}{base:Heap}{k:Nat}{f:Addr}{name qual:Str}{params:Arguments}{body:List Stmt}{scope:Scope}{dV kV doc pm cdv ct oc:Value}{an od:Option Addr}{osl:Array (Option Value)}{N ps:List Str}{sp:Sp}(lk:K.lookup f=some ⟨oc,od,.func (W.fnOf name qual params body scope dV kV doc pm an cdv ct),osl⟩)(hcd:W.codeIn K cdv qual=true)(S:aQ N ps scope)(len:∀vs H Q E,sp vs H Q E->vs.length=ps.length)(hbody:∀(A:Around) (outer:List Env) (s:Shared) (H:Hp) (vs:List V) (Q:VK) (E:XK),gC k (A.deeper (envOfC qual scope s.heap.objs.size f cdv))->sp vs H Q E->
   ∃t,PSs (Eg CX P w K mg base N qual scope f cdv A outer s H E) body t/\t { nx:=fun _ H'=>Q .non H',rt:=Q } (start N vs) H) :
  aM P w K mg base CX (k+1) f (W.fnOf name qual params body scope dV kV doc pm an cdv ct) ps sp:=by
 refine⟨len,fun A outer s H args us vs Q E hr e0 hb r hsp=>?_⟩;have hl:=len _ _ _ _ hsp;have KX:K.In s.heap:=e0.mod.kin.keeps fun b o e=>(e0.bs b o e).1;have lim:s.heap.NoLimit:=e0.mod.nolimit.keeps fun b o e=>(e0.bs b o e).1;have hkind:∀y∈ps.zip us,scope.names.lookup y.1=some .local\/(scope.names.lookup y.1=some .cell/\((cellsFrom (s.heap.objs.size+1) scope.names []).lookup y.1).isSome=true):=fun ⟨n,v⟩ hy=>by
  rcases S.par n (of_mem_zip hy).1 with q | q
  ·exact .inl q
  ·exact .inr ⟨q,W.cellsFrom_some _ _ _ (.inl q)⟩
 refine codeAny_call_function hr.depth (KX _ _ lk) rfl S.co S.gen rfl (W.codeRec_of KX hcd) (hb _ _ _ _ ?_);refine wpAny_newFunctionEnv_cells S.kind hkind fun env he s1 x=>?_;subst he;refine⟨lim.keeps x.toInCall.keep,codeAny_func ?_⟩;obtain⟨t,ht,hq⟩:=hbody A outer s H vs Q E (hr.deeper _) hsp;have I:Inv (Eg CX P w K mg base N qual scope f cdv A outer s H E) [] (start N vs) H s1:=Jw S hr.hd e0 hl r x;refine wpAny_mono (ht [] s1 (start N vs) H _ I hq) (fun fl s' hs=>?_) fun e s' hs=>hs;have fin:∀{σ':St} {H':Hp} {v:V} {u:Value},Inv (Eg CX P w K mg base N qual scope f cdv A outer s H E) [] σ' H' s'->bU v u->Q v H'->CE outer P w H s Q u s':=
  fun {σ' H' v u} J rv q=>⟨v,H',J.os,J.bare,J.base,J.hok,rv,q⟩
 cases fl with
 |ret u=>
  obtain⟨v,σ',H',J,rv,q⟩:=hs;exact fin J rv q
 |next=>
  obtain⟨σ',H',J,q⟩:=hs;exact fin (v:=V.non) (u:=Value.none) J rfl q
 |brk=>
  obtain⟨_,_,_,q⟩:=hs;exact False.elim q
 |cont=>
  obtain⟨_,_,_,q⟩:=hs;exact False.elim q
section
variable {X:Cx} {x:Str} {p pos:Pos} {e:Expr} {es:List Expr} {t:TA} {id T:String} {r:List V->Hp->VK->Prop}
def tCB (r:List V->Hp->VK->Prop)(t:TA):TE:=fun σ H Q=>t σ H fun vs H1=>r vs H1 Q
theorem bO (hc:pS X (.builtin id) r)(hg:Gl X x)(hm:X.mg x=none)(hv:bootBuiltins x=some (.builtin id))(ha:PA X (e :: es) t)(hn:x≠"__name__":=by decide)(hdb:(x == ("__debug__":Str))=false:=by decide)(he:starEach (e :: es) X.env=(false,eval e X.env) :: starEach es X.env:=by rfl)(hpl:(backTo pos (starEach es X.env)).any (·.1)=false:=by rfl):PE X (.Call (.Name x p) (e :: es) [] pos) (tCB r t):=by
 intro pins s σ H Q I h;refine wpAny_Call_Name_kw (jD I hg hm hv ?_ hn hdb);exact PyProof.Rows.callWith_builtin1 (thn (ha pos pins s σ H _ I h) fun us s1 ⟨vs,H1,I1,r1,q1⟩=>hc pins s1 σ H1 vs us Q I1 r1 q1) he hpl
theorem Ju (hc:pS X (.type T) r)(hg:Gl X x)(hm:X.mg x=none)(hv:bootBuiltins x=some (.type T))(ha:PA X (e :: es) t)(hn:x≠"__name__":=by decide)(hdb:(x == ("__debug__":Str))=false:=by decide)(he:starEach (e :: es) X.env=(false,eval e X.env) :: starEach es X.env:=by rfl)(hpl:(backTo pos (starEach es X.env)).any (·.1)=false:=by rfl):PE X (.Call (.Name x p) (e :: es) [] pos) (tCB r t):=by
 intro pins s σ H Q I h;refine wpAny_Call_Name_kw (jD I hg hm hv ?_ hn hdb);exact PyProof.Rows.callWith_type1 (thn (ha pos pins s σ H _ I h) fun us s1 ⟨vs,H1,I1,r1,q1⟩=>hc pins s1 σ H1 vs us Q I1 r1 q1) he hpl
end
end L2
namespace HT
open PySem PyProof.Rows
section
variable {prog:Program} {w:World} {A:Around} {E:Value->Shared->Prop} {s:Shared}
def sIx (n d:Nat):Option Int->Nat
 |none=>d
 |some v=>if v < 0 then (v+(n:Int)).toNat else min v.toNat n
end
end HT
namespace L2
open PySem PySem.Spec PyProof.Rows
abbrev TO:=St->Hp->(Option Int->Hp->Prop)->Prop
def PO (X:Cx)(e:Option Expr)(t:TO):Prop:=
 ∀(pins:List (Addr × Obj)) (s:Shared) (σ:St) (H:Hp) (Q:Option Int->Hp->Prop),Inv X pins σ H s->t σ H Q->
  wpAny (model X.prog X.w) X.A (evalPart e X.env) (fun u s'=>∃o H',Inv X pins σ H' s'/\IsPart u o/\Q o H') X.xe s
def Se:TO:=fun _ H Q=>Q none H
def qd5 (t:TE):TO:=fun σ H Q=>t σ H fun x H1=>∃i,x=.int i/\Q (some i) H1
section
variable {X:Cx} {e:Expr} {te:TE} {lo hi:Option Expr} {tl th:TO} {pos p2:Pos}
theorem mP:PO X none Se:=by
 intro pins s σ H Q I h;rw[evalPart_none];exact wpAny_pure ⟨none,H,I,.none,h⟩
theorem gV (h:PE X e te):PO X (some e) (qd5 te):=by
 intro pins s σ H Q I hw;rw[evalPart_some];refine thn (h pins s σ H _ I hw) fun u s1 ⟨x,H1,I1,r1,q1⟩=>?_;obtain⟨i,rfl,q⟩:=q1;obtain⟨t,rfl⟩:=r1;exact⟨some i,H1,I1,.int i t,q⟩
def SlR (X:Cx)(r:V->Option Int->Option Int->Hp->VK->Prop):Prop:=
 ∀(pins:List (Addr × Obj)) (s:Shared) (σ:St) (H:Hp) (x:V) (v vl vu:Value) (lo hi:Option Int) (sl:Addr) (Q:VK),Inv X pins σ H s->bU x v->s.heap.IsSliceOf sl vl vu .none->IsPart vl lo->IsPart vu hi->r x lo hi H Q->
  ∃T id,typeLookup (.type T) "__getitem__"=pure (some (.builtin id))/\s.TypeIs v T/\wpAny (model X.prog X.w) X.A (getItem v (.ref sl)) (EP X pins σ Q) X.xe s
def tSl (r:V->Option Int->Option Int->Hp->VK->Prop)(te:TE)(tl th:TO):TE:=fun σ H Q=>te σ H fun x H1=>tl σ H1 fun l H2=>th σ H2 fun u H3=>r x l u H3 Q
theorem hJ {r:V->Option Int->Option Int->Hp->VK->Prop}(hr:SlR X r)(he:PE X e te)(hl:PO X lo tl)(hu:PO X hi th):PE X (.Subscript e (.Slice lo hi none p2) pos) (tSl r te tl th):=by
 intro pins s σ H Q I h;refine Subscript_ (thn (he pins s σ H _ I h) fun v s1 ⟨x,H1,I1,r1,q1⟩=>?_);refine wpAny_Slice (thn (hl pins s1 σ H1 _ I1 q1) fun vl s2 ⟨l,H2,I2,pl,q2⟩=>thn (hu pins s2 σ H2 _ I2 q2) fun vu s3 ⟨u,H3,I3,pu,q3⟩=>?_);rw[evalPart_none];refine wpAny_pure ?_;have I4:Inv X pins σ H3 { s3 with heap:=s3.heap.push { cls:=.type "slice",data:=.fields #[vl,vu,.none] } }:=I3.kept (t':=s3.toks) fun b ob q=>Heap.get?_push_of_some _ q;obtain⟨T,id,hT,ht,hg⟩:=hr pins { s3 with heap:=s3.heap.push { cls:=.type "slice",data:=.fields #[vl,vu,.none] } } σ H3 x v vl vu l u s3.heap.objs.size Q I4 r1 (Heap.IsSliceOf.new ..) pl pu q3;show wpAny (model X.prog X.w) X.A (subscriptTail e (.Slice lo hi none p2) v (.ref s3.heap.objs.size)) (EP X pins σ Q) X.xe { s3 with heap:=s3.heap.push { cls:=.type "slice",data:=.fields #[vl,vu,.none] } };exact tail_any (ops:=[.ref s3.heap.objs.size,v]) ht hT hg (by with_unfolding_all rfl)
def kW (xs:List V)(lo hi:Option Int):List V:=(xs.drop (HT.sIx xs.length 0 lo)).take (HT.sIx xs.length xs.length hi - HT.sIx xs.length 0 lo)
theorem zP (xs:List V)(lo hi:Option Int):(kW xs lo hi).length<=xs.length:=by
 unfold kW;exact Nat.le_trans (length_take_le' _ _) (by rw[length_drop];exact Nat.sub_le _ _)
end
def ixN (n:Nat)(i:Int):Option Nat:=if 0<=i then (if i < n then some i.toNat else none) else if -(n:Int)<=i then some (i+n).toNat else none
def atI {α:Type}(xs:List α)(i:Int):Option α:=(ixN xs.length i).bind fun j=>xs[j]?
theorem Er {n:Nat}{i:Int}{j:Nat}(h:ixN n i=some j):seqIndex? i n=some j/\j < n/\-(n:Int)<=i/\i < n:=by
 unfold ixN at h
 by_cases h0:0<=i
 ·rw[if_pos h0] at h
  by_cases h1:i < n
  ·rw[if_pos h1] at h;have e:i.toNat=j:=Option.some.inj h;exact⟨by rw[seqIndex_of h0 h1,e],by lia,by lia,h1⟩
  ·rw[if_neg h1] at h;cases h
 ·rw[if_neg h0] at h
  by_cases h1:-(n:Int)<=i
  ·rw[if_pos h1] at h;have e:(i+n).toNat=j:=Option.some.inj h;exact⟨by rw[seqIndex_neg (by lia) h1,e],by lia,h1,by lia⟩
  ·rw[if_neg h1] at h;cases h
theorem Fm {α:Type}{xs:List α}{i:Int}{v:α}(h:atI xs i=some v):∃j,seqIndex? i xs.length=some j/\xs[j]?=some v/\j < xs.length/\-(xs.length:Int)<=i/\i < xs.length:=by
 unfold atI at h
 cases e:ixN xs.length i with
 |none=>rw[e] at h;cases h
 |some j=>
  rw[e] at h;obtain⟨h1,h2,h3,h4⟩:=Er e;exact⟨j,h1,h,h2,h3,h4⟩
theorem bS {α:Type}{xs:List α}{j:Nat}{v:α}(h:xs[j]?=some v):atI xs (j:Int)=some v:=by
 have hj:j < xs.length:=(List.getElem?_eq_some_iff.mp h).1;have e:ixN xs.length (j:Int)=some j:=by
  unfold ixN;rw[if_pos (by lia),if_pos (by lia)];simp
 unfold atI;rw[e];exact h
theorem Pd {α:Type}(xs:List α)(v:α):atI (xs++[v]) (-1)=some v:=by
 have hl:(xs++[v]).length=xs.length+1:=by simp
 have e:ixN (xs++[v]).length (-1)=some xs.length:=by
  unfold ixN;rw[hl,if_neg (by decide),if_pos (by lia)];congr 1;lia
 unfold atI;rw[e];show (xs++[v])[xs.length]?=some v;simp
def Ql (b:Expr):Prop:=∀o i,subscripted b false o i=operate [o,i] (getItem o i)
def IxR (X:Cx)(r:R2):Prop:=
 ∀(value slice:Expr) (pins:List (Addr × Obj)) (s:Shared) (σ:St) (H:Hp) (x y:V) (v u:Value) (Q:VK),Inv X pins σ H s->bU x v->bU y u->r x y H Q->
  subscripted slice false v u=operate [v,u] (getItem v u)->wpAny (model X.prog X.w) X.A (subscriptTail value slice v u) (EP X pins σ Q) X.xe s
def MtR (X:Cx)(id:String)(r:V->List V->Hp->VK->Prop):Prop:=
 ∀(pins:List (Addr × Obj)) (s:Shared) (σ:St) (H:Hp) (x:V) (xs:List V) (v:Value) (us:List Value) (Q:VK),Inv X pins σ H s->bU x v->bQ xs us->r x xs H Q->
  wpAny (model X.prog X.w) X.A (call (.builtin id) (v :: us)) (EP X pins σ Q) X.xe s
section
variable {X:Cx} {a b:Expr} {ta tb:TE} {pos:Pos}
theorem aS {r:R2}(hr:IxR X r)(ha:PE X a ta)(hb:PE X b tb)(hs:Ql b):PE X (.Subscript a b pos) (tOp r ta tb):=by
 intro pins s σ H Q I h;exact Subscript_ (Xs ha hb I h fun v u s2 x y H2 I2 rx ry q=>hr a b pins s2 σ H2 x y v u Q I2 rx ry q (hs _ _))
def Zn (K:Frag):R2:=fun x y H Q=>∃p xs i v,x=.ref p/\y=.int i/\SqL K H p xs/\atI xs i=some v/\Q v H
def Ui (K:Frag):R2:=fun x y H Q=>∃p xs i v,x=.ref p/\y=.int i/\SqT K H p xs/\atI xs i=some v/\Q v H
theorem bM:IxR X (Zn X.K):=by
 intro value slice pins s σ H x y v u Q I rx ry h hs;obtain⟨p,xs,i,z,rfl,rfl,hq,he,q⟩:=h
 cases rx
 obtain⟨t,rfl⟩:=ry;obtain⟨its,r,pl,hz⟩:=I.list hq;obtain⟨j,h1,h2,h3,h4,h5⟩:=Fm he;obtain⟨w,ew,rw'⟩:=r.get h2;have hl:=r.length;have hn:=yM;have fin:EP X pins σ Q w s:=⟨z,H,I,rw',q⟩
 by_cases h0:0<=i
 ·have hj:i.toNat=j:=by
   rw[seqIndex_of h0 h5] at h1;exact Option.some.inj h1
  exact item_listR pl.isList h0 (by lia) (by rw[hj];simpa using ew) fin hs
 ·have hj:(i+(its.toArray.size:Int)).toNat=j:=by
   rw[seqIndex_neg (by lia) h4] at h1;rw[size_toArray,<- hl];exact Option.some.inj h1
  exact subscriptTail_builtinR (x:=w) pl.isList.typeIs slot_list_getitem.lookup
   (wpAny_getItem_list_neg (Q:=fun r s'=>r=w/\EP X pins σ Q r s') pl.isList (by lia) (by rw[size_toArray]<;>lia) (by lia) (by rw[hj];simpa using ew) ⟨rfl,fin⟩) hs
theorem aX:IxR X (Ui X.K):=by
 intro value slice pins s σ H x y v u Q I rx ry h hs;obtain⟨p,xs,i,z,rfl,rfl,hq,he,q⟩:=h
 cases rx
 obtain⟨t,rfl⟩:=ry;obtain⟨its,r,pl,hz⟩:=I.tuple hq;obtain⟨j,h1,h2,h3,h4,h5⟩:=Fm he;obtain⟨w,ew,rw'⟩:=r.get h2;have hl:=r.length;have hn:=yM;have fin:EP X pins σ Q w s:=⟨z,H,I,rw',q⟩
 exact subscriptTail_builtinR (x:=w) pl.typeIs slot_tuple_getitem.lookup
  (getItem_tuple (j:=j) (Q:=fun r s'=>r=w/\EP X pins σ Q r s') pl (by lia) (by lia) (by rw[size_toArray,<- hl];exact h1) (by simpa using ew) ⟨rfl,fin⟩) hs
theorem Bu (its:List Value)(n j:Nat)(u:Value):Obj.mapSeq (·.setIfInBounds j u) { cls:=.type "list",data:=.seq its.toArray n }={ cls:=.type "list",data:=.seq (its.set j u).toArray n }:=by
 simp[Obj.mapSeq]
theorem Inv.lst {pins:List (Addr × Obj)}{σ:St}{H:Hp}{s:Shared}{p:Addr}{xs:List V}(I:Inv X pins σ H s)(h:H p=some (.lst xs)) :
  ∃(its:List Value) (n:Nat),bQ xs its/\s.heap.get? p=some { cls:=.type "list",data:=.seq its.toArray n }/\xs.length<=sizeLine:=by
 obtain⟨z,its,n,r,e⟩:=I.hok p _ h;exact⟨its,n,r,e,z⟩
theorem Inv.lstUpd {pins:List (Addr × Obj)}{σ:St}{H:Hp}{s:Shared}{p:Addr}{xs ys:List V}{its its':List Value}{n n':Nat}{f:Obj->Obj}(I:Inv X pins σ H s)(h:H p=some (.lst xs))(ho:s.heap.get? p=some { cls:=.type "list",data:=.seq its.toArray n })(hf:f { cls:=.type "list",data:=.seq its.toArray n }={ cls:=.type "list",data:=.seq its'.toArray n' })(r:bQ ys its')(hz:ys.length<=sizeLine)(t:Nat) :
  Inv X pins σ (upd H p (.lst ys)) { s with heap:=s.heap.update p f,toks:=t }:=by
 have e:(s.heap.update p f).get? p=some { cls:=.type "list",data:=.seq its'.toArray n' }:=by
  rw[Heap.get?_update_self f ho (by rw[hf]<;>rfl),hf]
 refine I.write (x:=p) (e:=p) (by rw[h];trivial) (.inl rfl) (fun b u hb q=>(Heap.get?_update_other _ _ (Ne.symm hb)).trans q) ⟨_,e⟩ ?_;exact⟨hz,its',n',r,e⟩
def qc7:V->V->V->Hp->(Hp->Prop)->Prop:=fun o i v H Q=>∃p xs k j,o=.ref p/\i=.int k/\H p=some (.lst xs)/\ixN xs.length k=some j/\Q (upd H p (.lst (xs.set j v)))
theorem mX:qa9 X qc7:=by
 intro pins s σ H o i v ov iv u Q I ro ri rv h;obtain⟨p,xs,k,j,rfl,rfl,hp,hj,q⟩:=h
 cases ro
 obtain⟨t,rfl⟩:=ri;obtain⟨its,n,r,ho,hz⟩:=I.lst hp;obtain⟨h1,h2,h3,h4⟩:=Er hj;have hl:=r.length;have hn:=yM;have I':Inv X pins σ (upd H p (.lst (xs.set j v))) { s with heap:=s.heap.update p (Obj.mapSeq (·.setIfInBounds j u)) }:=
  I.lstUpd hp ho (Bu its n j u) (r.set rv j) (by rw[length_set];exact hz) s.toks
 by_cases h0:0<=k
 ·have hk:k.toNat=j:=by
   rw[seqIndex_of h0 h4] at h1;exact Option.some.inj h1
  exact W.ki_setAt ho h0 (by lia) (by rw[size_toArray,<- hl];exact h4) (by rw[hk];exact⟨_,I',q⟩)
 ·have hk:(k+(its.toArray.size:Int)).toNat=j:=by
   rw[seqIndex_neg (by lia) h3] at h1;rw[size_toArray,<- hl];exact Option.some.inj h1
  exact W.ki_setBack ho (by lia) (by rw[size_toArray,<- hl];exact h3) (by lia) (by rw[hk];exact⟨_,I',q⟩)
theorem sbA (lo hi:Option Int)(n:Nat):(sliceBounds lo hi none n).1=((HT.sIx n 0 lo:Nat):Int):=by
 cases lo with
 |none=>simp[sliceBounds,HT.sIx]
 |some i=>
  simp only[sliceBounds,HT.sIx,Option.getD_none,show (1:Int) > 0 by decide,if_true]
  by_cases h:i < 0
  ·simp only[h,if_true]<;>lia
  ·simp only[h,if_false]<;>lia
theorem zB (lo hi:Option Int)(n:Nat):(sliceBounds lo hi none n).1=((HT.sIx n 0 lo:Nat):Int)/\(sliceBounds lo hi none n).2.1=((HT.sIx n n hi:Nat):Int)/\(sliceBounds lo hi none n).2.2=1:=by
 refine⟨sbA lo hi n,?_,rfl⟩
 cases hi with
 |none=>simp[sliceBounds,HT.sIx]
 |some i=>exact sbA (some i) lo n
theorem uR (its:List Value)(lo hi:Option Int):slicePick its.toArray lo hi none=((its.drop (HT.sIx its.length 0 lo)).take (HT.sIx its.length its.length hi - HT.sIx its.length 0 lo)).toArray:=by
 obtain⟨h1,h2,h3⟩:=zB lo hi its.toArray.size;unfold slicePick;rw[h1,h2,h3];simp only[sliceRange_one,pick_run,size_toArray]<;>rfl
def qb0 (K:Frag):V->Option Int->Option Int->Hp->VK->Prop:=fun x lo hi H Q=>∃a xs,x=.ref a/\SqL K H a xs/\∀p,H p=none->Q (.ref p) (upd H p (.lst (kW xs lo hi)))
theorem iX:SlR X (qb0 X.K):=by
 intro pins s σ H x v vl vu lo hi sl Q I rx hs pl pu h;obtain⟨a,xs,rfl,hx,q⟩:=h
 cases rx
 obtain⟨its,r,ht,hz⟩:=I.list hx;have hlen:=r.length;refine⟨"list",_,slot_list_getitem.lookup,ht.isList.typeIs,?_⟩;refine wpAny_getItem_list_slice ht.isList hs pl pu .none (by simp) ?_ (by rw[size_toArray]<;>lia);rw[uR,<- hlen];refine⟨.ref s.heap.objs.size,_,I.laid (t':=s.toks) (o:=.lst (kW xs lo hi)) (fun b ob q=>Heap.get?_push_of_some _ q) (Nat.le_refl _) ?_,rfl,q _ (I.hok.fresh (Nat.le_refl _))⟩;exact⟨Nat.le_trans (zP xs lo hi) hz,_,0,(r.drop (HT.sIx xs.length 0 lo)).take (HT.sIx xs.length xs.length hi - HT.sIx xs.length 0 lo),Heap.get?_push_size _ rfl⟩
def lH:V->Bool
 | .non=>true
 | .bl _=>true
 | .int _=>true
 | .str _=>true
 |_=>false
def eqV:V->V->Bool
 | .non,.non=>true
 | .bl a,.bl b=>a == b
 | .bl a,.int b=>(if a then 1 else 0) == b
 | .int a,.bl b=>a == (if b then 1 else 0)
 | .int a,.int b=>a == b
 | .str a,.str b=>a == b
 |_,_=>false
theorem Wt {A:Around}{s:Shared}{y x:V}{u v:Value}(ry:bU y u)(rx:bU x v)(fy:lH y=true)(fx:lH x=true):SeqAt.EqAt A s u v (eqV y x):=by
 cases y with
 |non=>
  cases ry
  cases x with
  |non=>cases rx;exact SeqAt.EqAt.same _
  |bl b=>cases rx;exact SeqAt.EqAt.none_bool b
  |int b=>obtain⟨t,rfl⟩:=rx;exact SeqAt.EqAt.none_int b t
  |str b=>obtain⟨t,rfl⟩:=rx;exact SeqAt.EqAt.none_str b t
  |_=>exact absurd (show false=true from fx) Bool.false_ne_true
 |bl a=>
  cases ry
  cases x with
  |non=>cases rx;exact SeqAt.EqAt.bool_none a
  |bl b=>cases rx;exact SeqAt.EqAt.bool_bool a b
  |int b=>obtain⟨t,rfl⟩:=rx;exact SeqAt.EqAt.bool_int a b t
  |str b=>obtain⟨t,rfl⟩:=rx;exact SeqAt.EqAt.bool_str a b t
  |_=>exact absurd (show false=true from fx) Bool.false_ne_true
 |int a=>
  obtain⟨t',rfl⟩:=ry
  cases x with
  |non=>cases rx;exact SeqAt.EqAt.int_none a t'
  |bl b=>cases rx;exact SeqAt.EqAt.int_bool a t' b
  |int b=>obtain⟨t,rfl⟩:=rx;exact SeqAt.EqAt.int_int a t' b t
  |str b=>obtain⟨t,rfl⟩:=rx;exact SeqAt.EqAt.int_str a t' b t
  |_=>exact absurd (show false=true from fx) Bool.false_ne_true
 |str a=>
  obtain⟨t',rfl⟩:=ry
  cases x with
  |non=>cases rx;exact SeqAt.EqAt.str_none a t'
  |bl b=>cases rx;exact SeqAt.EqAt.str_bool a t' b
  |int b=>obtain⟨t,rfl⟩:=rx;exact SeqAt.EqAt.str_int a t' b t
  |str b=>obtain⟨t,rfl⟩:=rx;exact SeqAt.EqAt.str_str a t' b t
  |_=>exact absurd (show false=true from fx) Bool.false_ne_true
 |_=>exact absurd (show false=true from fy) Bool.false_ne_true
def eqU (x:V)(u:Value):Bool:=match u with
 | .none=>eqV .non x
 | .bool b=>eqV (.bl b) x
 | .int i _=>eqV (.int i) x
 | .str z _=>eqV (.str z) x
 |_=>false
theorem My {x y:V}{u:Value}(r:bU y u)(f:lH y=true):eqU x u=eqV y x:=by
 cases y with
 |non=>cases r;rfl
 |bl b=>cases r;rfl
 |int i=>obtain⟨t,rfl⟩:=r;rfl
 |str z=>obtain⟨t,rfl⟩:=r;rfl
 |_=>exact absurd (show false=true from f) Bool.false_ne_true
theorem xC {x:V}:∀{xs:List V} {us:List Value},bQ xs us->xs.all lH=true->us.any (eqU x)=xs.any fun y=>eqV y x
 |_,_,.nil,_=>rfl
 |y :: xs,u :: us,.cons r t,f=>by
  rw[all_cons,Bool.and_eq_true] at f;rw[any_cons,any_cons,My r f.1,xC t f.2]
theorem sM {A:Around}{s:Shared}{x:V}{v:Value}(rx:bU x v)(fx:lH x=true):∀{xs:List V} {us:List Value},bQ xs us->xs.all lH=true->∀u∈us,SeqAt.EqAt A s u v (eqU x u)
 |_,_,.nil,_=>fun u hu=>by cases hu
 |y :: xs,u :: us,.cons r t,f=>fun u' hu=>by
  rw[all_cons,Bool.and_eq_true] at f;rcases mem_cons.mp hu with rfl | hu
  ·rw[My r f.1];exact Wt r rx f.1 fx
  ·exact sM rx fx t f.2 u' hu
def inV (x:V)(xs:List V):Bool:=xs.any fun y=>eqV y x
def rIn (K:Frag)(neg:Bool):R2:=fun x y H Q=>∃p xs,y=.ref p/\(SqL K H p xs\/SqT K H p xs)/\lH x=true/\xs.all lH=true/\Q (.bl (if neg then !inV x xs else inV x xs)) H
theorem wQ:OpR X (compareOp .In) (rIn X.K false):=by
 intro pins s σ H x y v u Q I rx ry h;obtain⟨p,xs,rfl,hq,fx,fs,q⟩:=h
 cases ry
 rcases hq with hq | hq
 ·obtain⟨its,r,pl,hz⟩:=I.list hq;refine SeqAt.in_listAt (eqU x) pl.isList (fun w hw=>sM rx fx r fs w (by simpa using hw)) ⟨.bl _,H,I,rfl,?_⟩;rw[show its.toArray.any (eqU x)=its.any (eqU x) by simp,xC r fs];exact q
 ·obtain⟨its,r,pl,hz⟩:=I.tuple hq;refine SeqAt.in_tupleAt (eqU x) pl (fun w hw=>sM rx fx r fs w (by simpa using hw)) ⟨.bl _,H,I,rfl,?_⟩;rw[show its.toArray.any (eqU x)=its.any (eqU x) by simp,xC r fs];exact q
theorem bG:pS X (.builtin "len") (fun xs H Q=>∃p ys,xs=[.ref p]/\(SqL X.K H p ys\/SqT X.K H p ys)/\Q (.int ys.length) H):=by
 intro pins s σ H xs us Q I r h;obtain⟨p,ys,rfl,hq,q⟩:=h;obtain⟨u,rfl,rx⟩:=zX r
 cases rx
 have hn:=yM;rcases hq with hq | hq
 ·obtain⟨its,r',pl,hz⟩:=I.list hq;have hlen:=r'.length;exact Calls.call_len_list pl.isList (by simp only[size_toArray]<;>lia) ⟨.int ys.length,H,I.tok _,⟨s.toks+1,by rw[size_toArray,hlen]⟩,q⟩
 ·obtain⟨its,r',pl,hz⟩:=I.tuple hq;have hlen:=r'.length;exact len_tuple pl (by simp only[size_toArray]<;>lia) ⟨.int ys.length,H,I.tok _,⟨s.toks+1,by rw[size_toArray,hlen]⟩,q⟩
theorem wY:pS X (.type "list") (fun xs H Q=>∃p ys,xs=[.ref p]/\(SqL X.K H p ys\/SqT X.K H p ys)/\∀l,H l=none->Q (.ref l) (upd H l (.lst ys))):=by
 intro pins s σ H xs us Q I r h;obtain⟨p,ys,rfl,hq,q⟩:=h;obtain⟨u,rfl,rx⟩:=zX r
 cases rx
 have fin:∀(its:List Value),bQ ys its->ys.length<=sizeLine->∀(h':Heap) (c':Nat),(∀b o',s.heap.get? b=some o'->h'.get? b=some o')->
   h'.get? s.heap.objs.size=some { cls:=.type "list",dict:=none,data:=.seq its.toArray c',slots:=#[] }->EP X pins σ Q (.ref s.heap.objs.size) { s with heap:=h' }:=fun its r' hz h' c' kp e=>
  ⟨.ref s.heap.objs.size,_,I.laid (t':=s.toks) kp (Nat.le_refl _) (show dL X.prog X.w _ h' _ (.lst ys) from ⟨hz,its,c',r',e⟩),rfl,q _ (I.hok.fresh (Nat.le_refl _))⟩
 rcases hq with hq | hq
 ·obtain⟨its,r',pl,hz⟩:=I.list hq;have hlen:=r'.length;obtain⟨o,ho,hc,n,hd⟩:=pl.isList;exact call_list_seq p (.inl rfl) ho hc hd (fun h' c' kp e=>fin its r' hz h' c' kp e) (by simp only[size_toArray]<;>lia)
 ·obtain⟨its,r',pl,hz⟩:=I.tuple hq;have hlen:=r'.length;obtain⟨o,ho,hc,n,hd⟩:=pl;exact call_list_seq p (.inr rfl) ho hc hd (fun h' c' kp e=>fin its r' hz h' c' kp e) (by simp only[size_toArray]<;>lia)
def tyV (K:Frag)(T:String)(x:V)(H:Hp):Prop:=match x with
 | .str _=>T = "str"
 | .int _=>T = "int"
 | .ref p=>(T = "list"/\∃xs,SqL K H p xs)\/(T = "tuple"/\∃o,K.lookup p=some o/\o.cls=.type "tuple"/\o.dict=none)\/
   (T = "dict"/\((∃kvs,H p=some (.dK kvs))\/∃kvs,H p=some (.dT kvs)))\/(T = "set"/\∃S n,H p=some (.set S n))
 |_=>False
theorem Nn {pins:List (Addr × Obj)}{σ:St}{H:Hp}{s:Shared}{T:String}{x:V}{v:Value}(I:Inv X pins σ H s)(r:bU x v)(ty:tyV X.K T x H) :
  s.TypeIs v T/\∀a,v=.ref a->∃ob,s.heap.get? a=some ob/\ob.dict=none:=by
 cases x with
 |str z=>
  obtain⟨t,rfl⟩:=r
  cases (show T = "str" from ty)
  exact⟨typeIs_str s z t,fun _ e=>nomatch e⟩
 |int i=>
  obtain⟨t,rfl⟩:=r
  cases (show T = "int" from ty)
  exact⟨typeIs_int s i t,fun _ e=>nomatch e⟩
 |ref p=>
  cases r
  rcases ty with ⟨rfl,xs,hq⟩ | ⟨rfl,o,hk,hc,hd⟩ | ⟨rfl,hk⟩ | ⟨rfl,S,n,hk⟩
  ·obtain⟨its,_,pl,_⟩:=I.list hq;refine⟨pl.isList.typeIs,fun a e=>?_⟩
   cases e
   obtain⟨o,n,e,c,hd,_⟩:=pl;exact⟨o,e,hd⟩
  ·refine⟨⟨o,I.kIn p o hk,hc⟩,fun a e=>?_⟩
   cases e
   exact⟨o,I.kIn _ o hk,hd⟩
  ·have z:∃o,s.heap.get? p=some o/\o.ExactDict:=by
    rcases hk with ⟨kvs,hk⟩ | ⟨kvs,hk⟩
    ·obtain⟨_,_,_,_,o,_,_,e,ex,_⟩:=I.hok p _ hk;exact⟨o,e,ex⟩
    ·obtain⟨_,_,_,_,o,_,_,e,ex,_⟩:=I.hok p _ hk;exact⟨o,e,ex⟩
   obtain⟨o,e,ex⟩:=z;refine⟨⟨o,e,ex.1⟩,fun a e2=>?_⟩
   cases e2
   exact⟨o,e,ex.2.1⟩
  ·obtain⟨o,_,_,_,e,ex,_⟩:=I.hok p _ hk;refine⟨⟨o,e,ex.1⟩,fun a e2=>?_⟩
   cases e2
   exact⟨o,e,ex.2.1⟩
 |_=>exact False.elim ty
def qj3 (K:Frag)(T:String)(r:V->List V->Hp->VK->Prop)(to:TE):TE:=fun σ H Q=>to σ H fun x H1=>tyV K T x H1/\r x [] H1 Q
def tBM (K:Frag)(T:String)(r:V->List V->Hp->VK->Prop)(to:TE)(t:TA):TE:=fun σ H Q=>to σ H fun x H1=>tyV K T x H1/\t σ H1 fun xs H2=>r x xs H2 Q
variable {o e:Expr} {es:List Expr} {to:TE} {t:TA} {name:Str} {apos cpos:Pos} {T id:String} {r:V->List V->Hp->VK->Prop}
theorem Yn (pa:PlainAttrs T)(slot:Slot T name id)(hty:typeOf (.builtin id)=pure (.type "method_descriptor"))(hm:MtR X id r)(ho:PE X o to)(hbase:attributeBase o name X.env (eval o X.env)=eval o X.env:=by rfl)(hline:(apos.endLine == cpos.line)=true:=by rfl):PE X (.Call (.Attribute o name apos) [] [] cpos) (qj3 X.K T r to):=by
 intro pins s σ H Q I h;refine wpAny_Call_method0_late hbase hline (thn (ho pins s σ H _ I h) fun v s1 ⟨x,H1,I1,r1,ty,q1⟩=>?_);obtain⟨h1,h2⟩:=Nn I1 r1 ty;exact⟨T,id,pa,slot,hty,h1,h2,Calls.callWith_builtin rfl (PySem.evalArgs_none (hm pins s1 σ H1 x [] v [] Q I1 r1 .nil q1))⟩
theorem pT (pa:PlainAttrs T)(slot:Slot T name id)(hty:typeOf (.builtin id)=pure (.type "method_descriptor"))(hm:MtR X id r)(ho:PE X o to)(ha:PA X (e :: es) t)(hbase:attributeBase o name X.env (eval o X.env)=eval o X.env:=by rfl)(hfew:((backTo cpos (starEach (e :: es) X.env)).all (fun x=>!x.1) && (backToKw cpos (keywordEach [] X.env)).all (fun x=>x.1.isSome)
   && decide ((e :: es).length+([]:List Keyword).length+(if ([]:List Keyword).isEmpty then 0 else 1) < 30))=true:=by rfl)(hline:(apos.endLine == cpos.line)=true:=by rfl)(hs:starEach (e :: es) X.env=(false,eval e X.env) :: starEach es X.env:=by rfl)(hplain:(backTo cpos (starEach es X.env)).any (·.1)=false:=by rfl) :
  PE X (.Call (.Attribute o name apos) (e :: es) [] cpos) (tBM X.K T r to t):=by
 intro pins s σ H Q I h;refine wpAny_Call_method_late hbase hfew hline rfl (thn (ho pins s σ H _ I h) fun v s1 ⟨x,H1,I1,r1,ty,q1⟩=>?_);obtain⟨h1,h2⟩:=Nn I1 r1 ty;refine⟨T,id,pa,slot,hty,h1,h2,?_⟩;have hA:=ha cpos pins s1 σ H1 _ I1 q1;rw[hs] at hA ⊢;refine Calls.callWith_builtin (by show (false || (backTo cpos (starEach es X.env)).any (·.1))=false;rw[hplain]<;>rfl) (Calls.evalArgs_plain ?_);exact thn hA fun us s2 ⟨vs,H2,I2,r2,q2⟩=>hm pins s2 σ H2 x vs v us Q I2 r1 r2 q2
end
def MtM (X:Cx)(id:String)(r:V->List V->Hp->VK->Prop):Prop:=
 ∀(pins:List (Addr × Obj)) (s:Shared) (σ:St) (H:Hp) (x:V) (xs:List V) (v:Value) (us:List Value) (Q:VK),Inv X pins σ H s->bU x v->bQ xs us->r x xs H Q->
  wpAny (model X.prog X.w) X.A (call (.builtin id) (v :: us)) (EP X pins σ Q) X.xe s
theorem bQ.one:∀{x:V} {us:List Value},bQ [x] us->∃u,us=[u]/\bU x u
 |_,_,.cons r .nil=>⟨_,rfl,r⟩
theorem bQ.zero:∀{us:List Value},bQ [] us->us=[]
 |_,.nil=>rfl
theorem bQ.dropLast {xs:List V}{us:List Value}(h:bQ xs us):bQ xs.dropLast us.dropLast:=by
 induction h with
 |nil=>exact .nil
 |cons r t ih=>
  cases t with
  |nil=>exact .nil
  |cons q t'=>exact .cons r ih
theorem bQ.rep {xs:List V}{us:List Value}(h:bQ xs us):∀k:Nat,bQ (replicate k xs).flatten (replicate k us).flatten
 |0=>.nil
 |k+1=>by
  rw[replicate_succ,replicate_succ,flatten_cons,flatten_cons];exact bQ.append h (bQ.rep h k)
theorem Cg {α:Type}(l:List α):l.eraseIdx (l.length - 1)=l.dropLast:=by
 induction l with
 |nil=>rfl
 |cons a r ih=>
  cases r with
  |nil=>rfl
  |cons b r=>
   have e:(a :: b :: r).length - 1=((b :: r).length - 1)+1:=by
    have h1:(a :: b :: r).length=r.length+2:=rfl;have h2:(b :: r).length=r.length+1:=rfl;lia
   rw[e,eraseIdx_cons_succ,ih]
   all_goals rfl
theorem uZ (its:List Value):∀(k:Nat) (acc:List Value),
  foldl (fun x1 x2=>x1++x2) acc.toArray (replicate k its.toArray)=(acc++(replicate k its).flatten).toArray
 |0,acc=>by simp
 |k+1,acc=>by
  have e:acc.toArray++its.toArray=(acc++its).toArray:=by simp
  have e2:(acc++its)++(replicate k its).flatten=acc++(replicate (k+1) its).flatten:=by
   rw[replicate_succ,flatten_cons,List.append_assoc]
  rw[<- e2,<- uZ its k (acc++its),<- e,replicate_succ,foldl_cons]
section
variable {X:Cx} {pins:List (Addr × Obj)} {σ:St} {H:Hp} {s:Shared} {l b:Addr} {xs ys zs:List V}
theorem Inv.lset {its its':List Value}{n:Nat}{f:Array Value->Array Value}{t':Nat}(I:Inv X pins σ H s)(hH:H l=some (.lst xs))(e:s.heap.get? l=some { cls:=.type "list",data:=.seq its.toArray n })(hf:f its.toArray=its'.toArray)(hv:bQ ys its')(hz:ys.length<=sizeLine) :
  Inv X pins σ (upd H l (.lst ys)) { s with heap:=s.heap.update l (Obj.mapSeq f),toks:=t' }:=by
 have q:=PySem.IsL.update e f;rw[hf] at q;refine I.write (x:=l) (e:=l) (by rw[hH];exact trivial) (.inl rfl) (fun b' u hb hu=>(Heap.get?_update_other s.heap (Obj.mapSeq f) (Ne.symm hb)).trans hu) ⟨_,q⟩ ?_;exact⟨hz,its',_,hv,q⟩
theorem Inv.lnew {its:List Value}{t':Nat}(I:Inv X pins σ H s)(hv:bQ ys its)(hz:ys.length<=sizeLine) :
  Inv X pins σ (upd H s.heap.objs.size (.lst ys)) { s with heap:=s.heap.push { cls:=.type "list",data:=.seq its.toArray },toks:=t' }:=
 I.laid (fun _ _ q=>Heap.get?_push_of_some _ q) (Nat.le_refl _) ⟨hz,its,0,hv,Heap.get?_push_size _ rfl⟩
theorem Inv.fresh (I:Inv X pins σ H s):H s.heap.objs.size=none:=I.hok.fresh (Nat.le_refl _)
theorem Inv.lstM (I:Inv X pins σ H s)(hH:H l=some (.lst xs)):xs.length<=sizeLine/\∃(its:List Value) (n:Nat),bQ xs its/\xs.length=its.length/\s.heap.get? l=some { cls:=.type "list",data:=.seq its.toArray n }:=by
 obtain⟨z,its,n,r,e⟩:=I.hok l _ hH;exact⟨z,its,n,r,r.length,e⟩
theorem Nu {n:Nat}(h:n<=sizeLine):Builtin.List.listTooLong n=false:=by
 unfold Builtin.List.listTooLong;exact decide_eq_false (by lia)
end
section
variable {X:Cx}
def Rv:V->List V->Hp->VK->Prop:=fun x vs H Q=>∃l xs y,x=.ref l/\vs=[y]/\H l=some (.lst xs)/\xs.length < sizeLine/\Q .non (upd H l (.lst (xs++[y])))
theorem fK:MtM X "list.append" Rv:=by
 intro pins s σ H x vs v us Q I rx rv h;obtain⟨l,xs,y,rfl,rfl,hH,hz,q⟩:=h
 cases rx
 obtain⟨u,rfl,ru⟩:=rv.one;obtain⟨z,its,n,r,hl,e⟩:=I.lstM hH;refine call_meets F.slot_list_append ⟨_,e,rfl⟩ F.entry_list_append (F.args_list_append_2 _ _) (PySem.list_append l its.toArray n u (by rw[size_toArray];lia)) ⟨e,?_⟩;refine⟨.non,_,I.lset (its':=its++[u]) hH e (by simp) (r.append (.cons ru .nil)) ?_,rfl,q⟩;rw[List.length_append,length_singleton];lia
def qi8:V->List V->Hp->VK->Prop:=fun x vs H Q=>∃l xs y,x=.ref l/\vs=[]/\H l=some (.lst xs)/\xs[xs.length - 1]?=some y/\Q y (upd H l (.lst xs.dropLast))
theorem Ze:MtM X "list.pop" qi8:=by
 intro pins s σ H x vs v us Q I rx rv h;obtain⟨l,xs,y,rfl,rfl,hH,hy,q⟩:=h
 cases rx
 have hus:=rv.zero;subst hus;obtain⟨z,its,n,r,hl,e⟩:=I.lstM hH;obtain⟨u,hu,ru⟩:=r.get hy;have hy':its.toArray[its.toArray.size - 1]?=some u:=by
  show its.toArray[its.length - 1]?=some u;rw[<- Array.getElem?_toList,<- hl];exact hu
 refine call_meets F.slot_list_pop ⟨_,e,rfl⟩ F.entry_list_pop (F.args_list_pop_1 _) (MeetsSeq.list_pop_last l its.toArray n u hy' (by rw[size_toArray];lia)) ⟨e,?_⟩;refine⟨y,_,I.lset (its':=its.dropLast) hH e ?_ r.dropLast ?_,ru,q⟩
 ·show its.toArray.eraseIdxIfInBounds (its.toArray.size - 1)=its.dropLast.toArray;rw[size_toArray,eraseIdxIfInBounds_toArray,Cg]
 ·rw[length_dropLast];lia
def qi4:R2:=fun x y H Q=>∃l b xs zs,x=.ref l/\y=.ref b/\H l=some (.lst xs)/\H b=some (.lst zs)/\xs.length+zs.length<=sizeLine/\∀p,H p=none->Q (.ref p) (upd H p (.lst (xs++zs)))
theorem tG:OpR X (binaryOp .Add) qi4:=by
 intro pins s σ H x y v u Q I rx ry h;obtain⟨l,b,xs,zs,rfl,rfl,hH,hB,hz,q⟩:=h
 cases rx
 cases ry
 obtain⟨z,its,n,r,hl,e⟩:=I.lstM hH;obtain⟨z2,its2,n2,r2,hl2,e2⟩:=I.lstM hB;refine PySem.P.add_list e e2 ?_ (by rw[size_toArray,size_toArray];lia);have ea:its.toArray++its2.toArray=(its++its2).toArray:=by simp
 rw[ea];exact⟨.ref _,_,I.lnew (t':=s.toks) (r.append r2) (by rw[List.length_append];lia),rfl,q _ I.fresh⟩
def qg6:R2:=fun x y H Q=>∃l k xs,x=.ref l/\y=.int k/\H l=some (.lst xs)/\-(2 ^ 63)<=k/\k < 2 ^ 63/\xs.length*k.toNat<=sizeLine/\
 ∀p,H p=none->Q (.ref p) (upd H p (.lst (replicate k.toNat xs).flatten))
theorem Qr {α:Type}(xs:List α)(k:Nat):(replicate k xs).flatten.length=k*xs.length:=by
 induction k with
 |zero=>simp
 |succ k ih=>rw[replicate_succ,flatten_cons,List.length_append,ih,Nat.succ_mul,Nat.add_comm]
theorem Ci:OpR X (binaryOp .Mult) qg6:=by
 intro pins s σ H x y v u Q I rx ry h;obtain⟨l,k,xs,rfl,rfl,hH,h1,h2,hz,q⟩:=h
 cases rx
 obtain⟨t,rfl⟩:=ry;obtain⟨z,its,n,r,hl,e⟩:=I.lstM hH;have hlen:its.toArray.size*k.toNat<=sizeLine:=by rw[size_toArray,<- hl];exact hz
 have hcap:¬its.toArray.size*k.toNat > (2 ^ 63 - 1) / 8:=by
  have:(sizeLine:Nat)<=(2 ^ 63 - 1) / 8:=by decide
  lia
 have hfit:¬(!Builtin.List.listFitsIndex k)=true:=by
  rw[fitsIndex_both h1 h2];exact Bool.false_ne_true
 have hlong:¬Builtin.List.listTooLong (its.toArray.size*k.toNat)=true:=by
  rw[Nu hlen];exact Bool.false_ne_true
 have hnew:foldl (fun x1 x2=>x1++x2) #[] (replicate (if its.toArray.isEmpty=true then 0 else k.toNat) its.toArray)=(replicate k.toNat its).flatten.toArray:=by
  have f0:∀m:Nat,foldl (fun x1 x2=>x1++x2) #[] (replicate m its.toArray)=(replicate m its).flatten.toArray:=fun m=>by
   have:=uZ its m [];rw[nil_append] at this;exact this
  rw[f0]
  cases its with
  |nil=>simp
  |cons a r'=>rw[if_neg (by simp)]
 refine wpAny_binaryOp_repeat_ref (T:="list") (U:="int") (by decide) ⟨_,e,rfl⟩ (fun s'=>typeIs_int s' k t) noFill_list_mul F.fills_int_mul F.slot_int_rmul repeat_list F.slot_int_index.lookup
  (call_meets F.slot_int_rmul (typeIs_int s k t) F.entry_int_rmul (F.args_int_rmul_2 _ _) (int___rmul___int_list k t l its.toArray n)
   ⟨e,rfl,⟨_,e,rfl⟩,call_meets F.slot_list_mul ⟨_,e,rfl⟩ F.entry_list_mul (F.args_list_mul_2 _ _) (AutoListH.list___mul___list_int_3 l its.toArray n k t hfit hcap hlong) ⟨e,?_⟩⟩)
 rw[hnew];exact⟨.ref _,_,I.lnew (t':=s.toks) (r.rep k.toNat) (by rw[Qr,Nat.mul_comm];exact hz),rfl,q _ I.fresh⟩
end
end L2
namespace Att
open PySem PySem.W PySem.Calls PyProof.Rows
theorem qD {P:Params}{h:Heap}:∀(ns:List Int) (vs:List Value),WellAll P h vs (ns.map WData.int)->IntsAre vs ns:=by
 intro ns
 induction ns with
 |nil=>
  intro vs w;rw[map_nil] at w
  cases w
  exact .nil
 |cons n ns ih=>
  intro vs w;rw[map_cons] at w
  cases w with
  |cons a b=>
   cases a
   exact .cons _ _ (ih _ b)
theorem Hy {l:OpenLaw}{n:Nat}(hn:l.most=some n){P:Params}{h:Heap}{args:List WData}{vals:List Value}(hpre:l.row.toRowW.claim.pre args=true)(hwl:WellAll P h vals args) :
  ∃a vs ns,vals=[Value.ref a]/\args=[WData.list (ns.map WData.int)]/\h.get? a=some { cls:=.type "list",data:=.seq vs.toArray }/\IntsAre vs ns/\ns.length<=n:=by
 have hsh:WShape.hasAll [] args [.list .int]=true:=(pre_splitW hpre).1;have hc:l.pre.holds [] { args:=args }=true:=(pre_splitW hpre).2;obtain⟨d,r,rfl,h1,h2⟩:=hasAllW_cons hsh;obtain rfl:=hasAllW_nil h2;obtain⟨xs,rfl,h3⟩:=hasW_list h1;obtain⟨ns,rfl⟩:=items_int h3;have hlen:ns.length<=n:=by
  unfold OpenLaw.pre at hc;have h4:(WTm.not (.lt (.lit (.int (n:Int))) (.len (.arg 0)))).holds [] { args:=[.list (ns.map .int)] }=true:=by
   have h4:=(holds_andW hc).1;rw[hn] at h4;exact h4
  have h5:=condW_of h4 (w_not (w_lt w_lit (w_len_list (w_arg rfl))));rw[length_map] at h5;refine Nat.le_of_not_lt fun q=>?_;have q':(n:Int) < ((ns.length:Nat):Int):=by lia
  first
   | (rw[decide_eq_true q'] at h5;exact absurd h5 (by decide))
   | (simp at h5;lia)
 cases hwl with
 |cons w1 w2=>
  cases w2
  cases w1 with
  |list ho hall=>exact⟨_,_,ns,rfl,rfl,ho,qD ns _ hall,hlen⟩
theorem Im (l:OpenLaw)(args:List WData):l.row.toRowW.claim.post args (.bool true) args=true:=
 postW_of (r:=l.row.toRowW) (X:=(true == true))
  (show WShape.has [] (.bool true) .bool=true by first | rfl | decide | simp[WShape.has,WShape.arms,WShape.armsAll])
  (show (WTm.eq .res (.lit (.bool true))).value [] { args:=args,res:=some (.bool true),after:=args }=some (.bool (true == true)) from w_eq_bool (w_res rfl) w_lit) rfl
theorem attach_call {l:OpenLaw}{n:Nat}{q:Program}{loose:List Str}{XP:(Str->Option Value)->Heap->Prop}{YP:World->Heap->Prop}{d:DefRec}(hn:l.most=some n)(hdf:d.params.defaults=[])(call:∀(w:World) (s₀ s₁:Shared) (mg mb:Str->Option Value) (fa:Addr) (o:Obj) (pm cd doc:Value) (a:Addr) (vs:List Value) (ns:List Int),
   Ground q loose [] XP w s₀ mg mb s₁.heap->YP w s₁.heap->
   s₁.heap.get? fa=some o->o.data=.func (docDef d.name d.params d.body d.scope pm cd doc)->s₁.heap.CodeRec cd d.name->mg d.name=some (.ref fa)->
   s₁.heap.get? a=some { cls:=.type "list",data:=.seq vs.toArray }->IntsAre vs ns->ns.length<=n->s₁.gens=#[]->
   codeAny (model l.prog w) callerA (.call (.ref fa) ⟨[.ref a],[]⟩) (fun r s'=>r=.ok (.ret (.bool true))/\OldK s₁.heap s'.heap/\s'.os=s₁.os/\AllBare s'.gens) s₁) :
  WalkO q loose XP YP l.row.toRowW d [] (fun f vs=>PySem.call f vs):=by
 intro w s₀ s₁ mg mb G Y fa o pm cd doc dV kV ho hd hcd hD hmg hg args vals as hpre hlay hrd hwl hlo;obtain rfl:dV=.none:=Dflts.none hD hdf;obtain rfl:kV=.none:=Dflts.noKw hD;obtain⟨a,vs,ns,rfl,rfl,hobj,hints,hlen⟩:=Hy hn hpre hwl;refine enter_call (codeAny_mono (call w s₀ s₁ mg mb fa o pm cd doc a vs ns G Y ho (fd_plain hd) hcd hmg hobj hints hlen hg) fun r s' hq=>?_);obtain⟨rfl,h2,h3,h4⟩:=hq;exact⟨.inl ⟨.bool true,.bool true,[],rfl,fun _=>rfl,.bool true,Im l _,fun _=>⟨Pairwise.nil,fun _ hm=>(nomatch hm)⟩⟩,h2,h3,h4⟩
end Att
namespace L2
open PySem PySem.Spec PyProof.Rows
theorem vH:∀{vs:List Value} {ns:List Int},IntsAre vs ns->bQ (ns.map V.int) vs
 |_,_,.nil=>.nil
 |_,_,.cons n t h=>.cons ⟨t,rfl⟩ (vH h)
def Wu (H:Hp):Prop:=∀b,H b=none\/∃o xs,H b=some (.frz o (.lst xs))
theorem Lo {P:Program}{w:World}{K:Frag}{mg mb:Str->Option Value}{CX:CXT}{k:Nat}{fa a:Addr}{fd:FuncData}{x:Str}{sp:Sp}{s₁:Shared}{vs:List Value}{ns:List Int}(KX:K.In s₁.heap)(hns:s₁.heap.Ns mainGlobals mg)(hb:s₁.heap.Ns builtinsNs mb)(hbb:∀x:Str,x≠"__name__"->mb x=bootBuiltins x)(hlim:s₁.heap.NoLimit)(hg:s₁.gens=#[])(ha:s₁.heap.get? a=some { cls:=.type "list",data:=.seq vs.toArray })(hi:IntsAre vs ns)(hl:ns.length<=sizeLine)(hr:gC k callerA)(F:∀base:Heap,K.In base->base.Ns mainGlobals mg->aM P w K mg base CX k fa fd [x] sp)(hbind:∀(s:Shared) (u:Value),BindsTo s fd ⟨[u],[]⟩ [(x,u)])(hsp:∀H:Hp,Wu H->SqL K H a (ns.map V.int)->sp [.ref a] H (fun v _=>v=.bl true) fun _ _ _=>False)(hCX:∀H e s',CX [] H s₁ (fun _ _ _=>False) e s'->False) :
  codeAny (model P w) callerA (.call (.ref fa) ⟨[.ref a],[]⟩) (fun r s'=>r=.ok (.ret (.bool true))/\OldK s₁.heap s'.heap/\s'.os=s₁.os/\AllBare s'.gens) s₁:=by
 have rv:=vH hi;have lenV:=hi.length;have core:∀H:Hp,Wu H->SqL K H a (ns.map V.int)->HOk P w H s₁.heap->(∀b,H b≠none->b=a)->(H a≠none->K.lookup a=none)->
   codeAny (model P w) callerA (.call (.ref fa) ⟨[.ref a],[]⟩) (fun r s'=>r=.ok (.ret (.bool true))/\OldK s₁.heap s'.heap/\s'.os=s₁.os/\AllBare s'.gens) s₁:=by
  intro H hO hS hok hA hK;have base_of:∀{b:Addr} {o:Obj},s₁.heap.get? b=some o->H b=none->(xX s₁.heap H).get? b=some o:=fun e n=>Le e n;have noA:∀{b:Addr} {o:Obj} {es:Array DictEntry} {ep:Nat},s₁.heap.get? b=some o->o.data=.dict es ep->H b=none:=fun {b o es ep} e d=>by
   cases q:H b with
   |none=>rfl
   |some u=>
    have e':b=a:=hA b (by rw[q];simp);subst e';rw[ha] at e;cases e;have d':Data.seq vs.toArray _=Data.dict es ep:=d
    cases d'
  have nsK:∀{b:Addr} {m:Str->Option Value},s₁.heap.Ns b m->(xX s₁.heap H).Ns b m:=fun {b m} ⟨o,es,ep,e,d,r⟩=>⟨o,es,ep,base_of e (noA e d),d,r⟩
  have hKb:K.In (xX s₁.heap H):=fun b o e=>base_of (KX b o e) (by
   cases q:H b with
   |none=>rfl
   |some u=>
    have e':b=a:=hA b (by rw[q];simp);subst e';rw[hK (by rw[q];simp)] at e;cases e)
  have hM:Mod K mg (xX s₁.heap H):=⟨hKb,nsK hns,⟨mb,nsK hb,hbb⟩,let ⟨mc,h1,h2⟩:=hlim;⟨mc,nsK h1,h2⟩⟩
  have e0:Cm P w K mg (xX s₁.heap H) callerA [] s₁ H:=⟨rfl,hM,fun b o e=>Qw e,Nat.le_of_eq (Io _ _),trivial,fun b hb=>absurd (show b∈([]:List Addr) from hb) (by simp),hok,.of_eq hg⟩
  refine codeAny_mono ((F _ hKb (nsK hns)).run callerA [] s₁ H ⟨[.ref a],[]⟩ [.ref a] [.ref a] _ _ hr e0 (hbind s₁ (.ref a)) (.cons rfl .nil) (hsp H hO hS)) fun r s' h=>?_
  cases r with
  |error e=>exact(hCX H e s' h).elim
  |ok fl=>
   cases fl with
   |next=>exact False.elim h
   |brk=>exact False.elim h
   |cont=>exact False.elim h
   |ret u=>
    obtain⟨v,H',os,bare,un,hok',r',q⟩:=h;have q':v=.bl true:=q;subst q';obtain rfl:u=Value.bool true:=r';refine⟨rfl,OldK.of_keep fun b o e=>?_,os,bare⟩
    cases q:H b with
    |none=>exact un.keep b o e q (by intro z;exact absurd (show b∈([]:List Addr) from z) (by simp)) (by simp)
    |some u=>
     rcases hO b with z | ⟨ob,xs,z⟩
     ·rw[q] at z;cases z
     ·have z2:=un.frzs b ob _ z;obtain⟨e1,_⟩:=hok b _ z;obtain⟨e2,_⟩:=hok' b _ z2;rw[e] at e1;cases e1;exact e2
 cases hk:K.lookup a with
 |some o=>
  have e:=KX a o hk;rw[ha] at e
  cases e
  refine core (fun _=>none) (fun _=>.inl rfl) (.inr ⟨_,vs.toArray,_,hk,rfl,rfl,rfl,by rw[size_toArray,lenV];exact hl,by simpa using rv⟩) (fun b u z=>by have z':(none:Option HO)=some u:=z;cases z') (fun b z=>absurd rfl z) fun z=>absurd rfl z
 |none=>
  refine core (fun b=>if b=a then some (.frz { cls:=.type "list",data:=.seq vs.toArray } (.lst (ns.map V.int))) else none) (fun b=>?_) (.inl (.inr ⟨{ cls:=.type "list",data:=.seq vs.toArray },if_pos rfl⟩)) (fun b u z=>?_) (fun b z=>?_) fun _=>hk
  ·by_cases hb:b=a
   ·exact .inr ⟨_,_,if_pos hb⟩
   ·exact .inl (if_neg hb)
  ·by_cases hb:b=a
   ·have z':=(if_pos hb).symm.trans z
    cases z'
    subst hb;exact⟨ha,by rw[length_map];exact hl,vs,_,rv,ha⟩
   ·have z':=(if_neg hb).symm.trans z
    cases z'
  ·by_cases hb:b=a
   ·exact hb
   ·exact absurd (if_neg hb) z
abbrev KOf {K:Frag}{h:Heap}(_:K.In h):Frag:=K
theorem Tl {l:W.OpenLaw}{n k:Nat}{q:Program}{loose:List Str}{XP:(Str->Option Value)->Heap->Prop}{YP:World->Heap->Prop}{d:DefRec}{K:Params->Frag}{CX:World->CXT}{sp:World->Sp}{x:Str}(hn:l.most=some n)(hn2:n<=sizeLine)(hdf:d.params.defaults=[])(hr:gC k callerA)(hY:∀(w:World) (h:Heap),YP w h->(K w.params).In h)(F:∀(w:World) (mg:Str->Option Value) (fa:Addr) (h:Heap),(K w.params).In h->h.Ns mainGlobals mg->mg d.name=some (.ref fa)->
   ∃fd:FuncData,(∀(s:Shared) (u:Value),BindsTo s fd ⟨[u],[]⟩ [(x,u)])/\
    ∀base:Heap,(K w.params).In base->base.Ns mainGlobals mg->aM l.prog w (K w.params) mg base (CX w) k fa fd [x] (sp w))(hsp:∀(w:World) (H:Hp) (a:Addr) (ns:List Int),ns.length<=n->Wu H->SqL (K w.params) H a (ns.map V.int)->sp w [.ref a] H (fun v _=>v=.bl true) fun _ _ _=>False)(hCX:∀(w:World) (H:Hp) (s:Shared) (e:Value) (s':Shared),CX w [] H s (fun _ _ _=>False) e s'->False) :
  W.WalkO q loose XP YP l.row.toRowW d [] (fun f vs=>PySem.call f vs):=by
 refine Att.attach_call hn hdf fun w s₀ s₁ mg mb fa o pm cd doc a vs ns G Y ho hd hcd hmg hobj hints hlen hg=>?_;have KX:=hY w _ Y;obtain⟨fd,hb,hF⟩:=F w mg fa _ KX G.T.g hmg;exact Lo KX G.T.g G.T.b G.T.builtins G.T.nolimit hg hobj hints (Nat.le_trans hlen hn2) hr hF hb (fun H hO hS=>hsp w H a ns hlen hO hS) fun H e s'=>hCX w H s₁ e s'
def fH (s:Stmt)(j:Nat):Stmt:=match s with
 | .ClassDef _ _ _ body _ _ _ _ _ _ _=>body.getD j (.Pass ⟨0,0,0,0⟩)
 |_=>.Pass ⟨0,0,0,0⟩
def dF (s:Stmt):Arguments:=match s with
 | .FunctionDef _ a _ _ _ _ _ _ _ _=>a
 |_=>{ posonlyargs:=[],args:=[],vararg:=none,kwonlyargs:=[],kw_defaults:=[],kwarg:=none,defaults:=[] }
def cG (s:Stmt):List Stmt:=match s with
 | .FunctionDef _ _ b _ _ _ _ _ _ _=>b
 |_=>[]
def aH (s:Stmt):Scope:=match s with
 | .FunctionDef _ _ _ _ _ _ sc _ _ _=>sc
 |_=>{ kind:=.function,names:=[],isGenerator:=false,isCoroutine:=false }
abbrev CX0:CXT:=fun _ _ _ _ _ _=>False
abbrev E0:XK:=fun _ _ _=>False
theorem aK {X:Cx}:kM CX0 X E0:=fun _ _ _ _ _ _ _ h=>h.elim
theorem vC {A:Around}{k:Nat}(hr:gC k A):A.units+1 < cLine:=Nat.lt_of_le_of_lt (Nat.add_le_add_left (by decide:1<=64) _) hr.units
theorem bL {n:Nat}(h:n<=1000):n < sizeLine:=Nat.lt_of_le_of_lt h (by decide)
section
variable {X:Cx}
theorem pv (i:Nat){x:Str}{pos:Pos}(hN:X.N[i]?=some x:=by rfl)(hv:Vis X.env.scope x:=by first | exact Or.inl rfl | exact Or.inr (Or.inl rfl) | exact Or.inr (Or.inr rfl))(hd:(x == ("__debug__":Str))=false:=by decide)(hcd:(x == ("__classdict__":Str))=false:=by decide):PE X (.Name x pos) (Qv i):=Oa hN hv hd hcd
end
theorem fB {A B:Prop}(h:B):if false=true then A else B:=by
 rw[if_neg Bool.false_ne_true];exact h
theorem fL {A B:Prop}(h:A):if true=true then A else B:=by
 rw[if_pos rfl];exact h
theorem qC {c A B:Prop}[Decidable c](h1:c->A)(h2:¬c->B):if c then A else B:=by
 by_cases h:c
 ·rw[if_pos h];exact h1 h
 ·rw[if_neg h];exact h2 h
def aT (H H':Hp):Prop:=∀b o,H b=some o->H' b=some o
theorem aT.refl (H:Hp):aT H H:=fun _ _ h=>h
theorem aT.trans {H H1 H2:Hp}(a:aT H H1)(b:aT H1 H2):aT H H2:=fun c o h=>b c o (a c o h)
theorem aT.free {H H':Hp}(e:aT H H'){l:Addr}(h:H' l=Option.none):H l=Option.none:=by
 cases q:H l with
 |none=>rfl
 |some o=>
  rw[e l o q] at h
  cases h
theorem aT.seq {K:Frag}{H H':Hp}{a:Addr}{xs:List V}(e:aT H H')(h:SqL K H a xs):SqL K H' a xs:=by
 rcases h with (h | ⟨o,h⟩) | h
 ·exact .inl (.inl (e _ _ h))
 ·exact .inl (.inr ⟨o,e _ _ h⟩)
 ·exact .inr h
section
variable {X:Cx}
def Bt (n:Nat)(i:Int):Prop:=i.natAbs < 2 ^ n
theorem tE {n:Nat}{i:Int}(h:Bt n i):Builtin.Int.intBits i<=n:=by
 unfold Builtin.Int.intBits;split
 ·exact Nat.zero_le _
 ·rename_i h0
  have hp:i.natAbs≠0:=by
   intro z;apply h0;simp at z ⊢;exact z
  have:i.natAbs.log2 < n:=(Nat.log2_lt hp).mpr h;lia
def Re (i j:Int):Prop:=∃n m,Bt n i/\Bt m j/\n<=1048576/\m<=1048576
theorem Re.ok {i j:Int}(h:Re i j):IntMulOk i j:=by
 obtain⟨n,m,h1,h2,h3,h4⟩:=h;have e:(2:Nat) ^ 20=1048576:=by decide
 exact IntMulOk.of_bits (by have:=tE h1;lia) (by have:=tE h2;lia)
theorem cD:OpR X (binaryOp .Mult) (rI Re fun i j=>.int (i*j)):=opI fun _ _ _ _ _ _ _ hc q=>mul_int q hc.ok
def Ga (i j:Int):Prop:=j≠0/\∃n,Bt n j/\n<=9000
theorem Ga.ok {i j:Int}(h:Ga i j):Builtin.divisionGoesByPylong i j=false:=by
 obtain⟨h0,n,h1,h2⟩:=h;refine PyProof.noPylong_of_log2 ?_;have hp:j.natAbs≠0:=by lia
 have:j.natAbs.log2 < n:=(Nat.log2_lt hp).mpr h1;lia
theorem iB:OpR X (binaryOp .FloorDiv) (rI Ga fun i j=>.int (i.fdiv j)):=opI fun _ _ _ _ _ _ _ hc q=>floordiv_int hc.1 q (.inl hc.ok)
mutual
inductive lL (K:Frag) (H:Hp):V->PyData->Prop where
 |non:lL K H .non .none
 |bl (b:Bool):lL K H (.bl b) (.bool b)
 |int (i:Int):lL K H (.int i) (.int i)
 |str (x:Str):lL K H (.str x) (.str x)
 |lst {a:Addr} {xs:List V} {ds:List PyData} (h:SqL K H a xs) (q:oA K H xs ds):lL K H (.ref a) (.list ds)
 |tup {a:Addr} {xs:List V} {ds:List PyData} (h:SqT K H a xs) (q:oA K H xs ds):lL K H (.ref a) (.tuple ds)
inductive oA (K:Frag) (H:Hp):List V->List PyData->Prop where
 |nil:oA K H [] []
 |cons {x:V} {d:PyData} {xs:List V} {ds:List PyData} (p:lL K H x d) (q:oA K H xs ds):oA K H (x :: xs) (d :: ds)
end
theorem fI {pins:List (Addr × Obj)}{s:Shared}{σ:St}{H:Hp}(I:Inv X pins σ H s):∀{x:V} {d:PyData},lL X.K H x d->∀{u:Value},bU x u->∃as,Reads s.heap u d as:=by
 intro x d h
 induction h using lL.rec (motive_2:=fun xs ds _=>∀{us:List Value},bQ xs us->∃as,ReadsAll s.heap us ds as) with
 |non=>intro u r;cases (show u=Value.none from r);exact⟨_,.none⟩
 |bl b=>intro u r;cases (show u=Value.bool b from r);exact⟨_,.bool b⟩
 |int i=>intro u r;obtain⟨t,rfl⟩:=(show ∃t,u=Value.int i t from r);exact⟨_,.int i t⟩
 |str y=>intro u r;obtain⟨t,rfl⟩:=(show ∃t,u=Value.str y t from r);exact⟨_,.str y t⟩
 |lst h q ih=>
  intro u r
  cases (show u=Value.ref _ from r)
  obtain⟨its,rv,pl,_⟩:=I.list h;obtain⟨as,ra⟩:=ih rv;obtain⟨o,h1,h2,n,h3⟩:=pl.isList;exact⟨_,.list h1 h2 h3 (by simpa using ra)⟩
 |tup h q ih=>
  intro u r
  cases (show u=Value.ref _ from r)
  obtain⟨its,rv,pl,_⟩:=I.tuple h;obtain⟨as,ra⟩:=ih rv;obtain⟨o,h1,h2,n,h3⟩:=pl;exact⟨_,.tuple h1 h2 h3 (by simpa using ra)⟩
 |nil=>rename_i us r;cases r;exact⟨_,.nil⟩
 |cons p q ih1 ih2=>
  rename_i us r
  cases r with
  |cons r1 r2=>
   obtain⟨as,h1⟩:=ih1 r1;obtain⟨bs,h2⟩:=ih2 r2;exact⟨_,.cons h1 h2⟩
def Kw (K:Frag)(neg:Bool):R2:=fun x y H Q=>∃d e,lL K H x d/\lL K H y e/\d.canLay0=true/\e.canLay0=true/\min d.depth e.depth<=16/\Q (.bl (if neg then !PyData.eqv d e else PyData.eqv d e)) H
theorem Dh (hu:X.A.units+64 < cLine):OpR X (compareOp .Eq) (Kw X.K false):=by
 intro pins s σ H x y v u Q I rx ry h;obtain⟨d,e,h1,h2,c1,c2,hm,q⟩:=h;obtain⟨as,r1⟩:=fI I h1 rx;obtain⟨bs,r2⟩:=fI I h2 ry;exact PySem.SeqAt.compareEq_reads r1 r2 c1 c2 (by lia) ⟨.bl (PyData.eqv d e),H,I,rfl,q⟩
theorem Op (hu:X.A.units+64 < cLine):OpR X (compareOp .NotEq) (Kw X.K true):=by
 intro pins s σ H x y v u Q I rx ry h;obtain⟨d,e,h1,h2,c1,c2,hm,q⟩:=h;obtain⟨as,r1⟩:=fI I h1 rx;obtain⟨bs,r2⟩:=fI I h2 ry;exact PySem.SeqAt.compareNe_reads r1 r2 c1 c2 (by lia) ⟨.bl (!PyData.eqv d e),H,I,rfl,q⟩
end
section
variable {prog:Program} {w:World} {A:Around} {R:Result->Shared->Prop} {s:Shared}
abbrev Uo (ifs:List Expr)(env:Env):Sem Bool:=forIn ifs true fun c r=>if r=true then do let ok <- isTrue c env (eval c env);pure (ForInStep.yield ok) else pure (ForInStep.yield r)
theorem Hi {elt target iter:Expr}{ifs:List Expr}{scope:Scope}{pos:Pos}{it acc:Value}{env:Env}(I:Nat->Shared->Prop)(turn:∀n s,I n s->wpAny (model prog w) A (pyNext it) (fun r s₁=>match r with
   |none=>R (.ok .next) s₁
   |some v=>wpAny (model prog w) A (letOwnedTupleGo target it v) (fun _ s₀=>wpAny (model prog w) A (assign target env v) (fun _ s₂=>
     wpAny (model prog w) A (Uo ifs env) (fun ok s₃=>
      if ok=true then wpAny (model prog w) A (eval elt env) (fun x s₄=>
       wpAny (model prog w) A (call (.builtin "list.append") [acc,x]) (fun _ s₅=>∃m,m < n/\I m s₅) (fun _ _=>False) s₄) (fun _ _=>False) s₃
      else ∃m,m < n/\I m s₃) (fun _ _=>False) s₂) (fun _ _=>False) s₀) (fun _ _=>False) s₁) (fun _ _=>False) s)(n:Nat)(h:I n s) :
  codeAny (model prog w) A (.compLoop (.ListComp elt [⟨target,iter,ifs,0⟩] scope pos) 0 it acc env) R s:=by
 refine codeAny_loop rfl I (fun n s hI=>?_) n h;show wpAny _ A ((compTurn (.ListComp elt [⟨target,iter,ifs,0⟩] scope pos) 0 it acc env).onRaise (fun x=>do noteFrame x env;theTreesLotGoes x)) _ _ s;refine wpAny_noted ?_;rw[compTurn_list];refine wpAny_bind (wpAny_standAt (wpAny_bind (wpAny_mono (turn n s hI) (fun r s₁ h₁=>?_) fun _ _ z=>z.elim)))
 cases r with
 |none=>exact wpAny_pure h₁
 |some v=>
  refine wpAny_bind (wpAny_mono h₁ (fun _ s₀ h₀=>?_) fun _ _ z=>z.elim);refine wpAny_bind (wpAny_mono h₀ (fun _ s₂ h₂=>wpAny_bind (wpAny_mono h₂ (fun ok s₃ h₃=>?_) fun _ _ z=>z.elim)) fun _ _ z=>z.elim)
  cases ok with
  |false=>exact wpAny_pure ⟨rfl,h₃⟩
  |true=>
   rw[if_pos rfl] at h₃;show wpAny _ _ ((do let _ <- call (.builtin "list.append") [acc,<- eval elt env]) >>= fun _=>again (.compLoop (.ListComp elt [⟨target,iter,ifs,0⟩] scope pos) 0 it acc env)) _ _ _;exact wpAny_bind (wpAny_bind (wpAny_mono h₃ (fun x s₄ h₄=>wpAny_bind (wpAny_mono h₄ (fun _ s₅ h₅=>wpAny_pure (wpAny_pure ⟨rfl,h₅⟩)) fun _ _ z=>z.elim)) fun _ _ z=>z.elim))
end
structure yC (X:Cx) (scope:Scope) (cl:List (Str × Addr)) (Nc:List Str) (nl:Nat) (fr:List Nat):Prop where
 clos:closureFor scope X.env=pure cl
 kind:scope.kind=.function
 names:∀y∈scope.names,y.2=.local->scope.names.lookup y.1=some .local
 cell:∀y∈scope.names,y.2≠.cell
 sub:∀x c,cl.lookup x=some c->X.env.cells.lookup x=some c
 has:∀x,(relabel scope X.env).names.lookup x=some .cell\/(relabel scope X.env).names.lookup x=some .free->∃c,cl.lookup x=some c
 len:Nc.length=nl+fr.length
 tail:∀i n,Nc[nl+i]?=some n->∃j,fr[i]?=some j/\X.N[j]?=some n/\X.env.kindOf n=some .cell/\cl.lookup n=X.env.cells.lookup n/\((relabel scope X.env).names.lookup n=some .cell\/(relabel scope X.env).names.lookup n=some .free)
abbrev eZ (X:Cx)(scope:Scope)(cl:List (Str × Addr))(Nc:List Str)(C:Addr)(s3:Shared)(H3:Hp)(fp:List Addr)(pins:List (Addr × Obj)):Cx:=
 { X with N:=Nc,s₀:=s3,H₀:=H3,env:=compEnvC scope cl C X.env,outer:=X.stack,ex:=fp,fn:=fun _=>false,pn:=X.pn++pins,xe:=fun _ _=>False }
def σC (nl:Nat)(fr:List Nat)(σ:St):St:=replicate nl none++fr.map fun j=>(σ[j]?).join
abbrev PIf (X:Cx)(ifs:List Expr)(t:TT):Prop:=
 ∀(pins:List (Addr × Obj)) (s:Shared) (σ:St) (H:Hp) (Q:Bool->Hp->Prop),Inv X pins σ H s->t σ H Q->wpAny (model X.prog X.w) X.A (Uo ifs X.env) (TP X pins σ Q) X.xe s
theorem fE {X:Cx}:PIf X [] (fun _ H Q=>Q true H):=fun _ _ _ H _ I h=>wpAny_pure ⟨H,I,h⟩
theorem iW {X:Cx}{c:Expr}{t:TT}(h:PT X c t):PIf X [c] t:=fun pins s σ H Q I q=>wpAny_tests_one (h pins s σ H Q I q)
section
variable {X:Cx} {scope:Scope} {cl:List (Str × Addr)} {Nc:List Str} {nl:Nat} {fr:List Nat} {pins:List (Addr × Obj)} {σ:St} {H3:Hp} {s3:Shared} {fp:List Addr} {h4:Heap} {tk:Nat}
theorem Dv (ck:yC X scope cl Nc nl fr)(I:Inv X pins σ H3 s3)(hf:∀b∈fp,kY X pins H3 b)(hfs:∀b∈fp,b < s3.heap.objs.size)(hns:h4.Ns s3.heap.objs.size fun _=>none)(hk:∀b o,s3.heap.get? b=some o->h4.get? b=some o) :
  Inv (eZ X scope cl Nc s3.heap.objs.size s3 H3 fp pins) [] (σC nl fr σ) H3 { s3 with heap:=h4,toks:=tk }:=by
 have stk:∀b∈frs X.stack,b∈X.env.locals :: X.fs:=I.stkSub;have nfs:∀b,b≠X.env.locals->b∉X.fs->b∉frs X.stack:=fun b h1 h2 z=>(mem_cons.mp (stk b z)).elim h1 h2;have ltc:∀x c,cl.lookup x=some c->c < s3.heap.objs.size:=fun x c e=>by
  obtain⟨v,z⟩:=I.cell x c (ck.sub x c e);exact z.lt
 refine⟨⟨I.ok.mod,ck.kind,I.ok.glob,I.ok.blt,Nat.le_refl _,fun x y c h1 h2=>I.ok.inj x y c (ck.sub x c h1) (ck.sub y c h2),fun x hx=>ck.has x hx,fun x c hz=>Bool.noConfusion hz,I.ok.hd,I.ok.frames,.inl rfl,fun b hb=>?_,I.bs,Nat.le_trans I.ok.bsz I.sz,fun b o e hb=>?_,fun b hb=>?_,I.stack,I.stkFree⟩,
  rfl,I.bare,Un.kept hk,⟨_,hns,fun i x v h1 h2 h3=>?_⟩,fun x c e=>?_,I.hok.fresh (Nat.le_refl _),fun x c e=>I.freeC x c (ck.sub x c e),fun p hp=>?_,I.hok.kept hk,?_⟩
 ·obtain⟨f0,f1,f2,f3,f4,f5⟩:=hf b hb;exact⟨Nat.ne_of_lt (hfs b hb),fun x c e=>f4 x c (ck.sub x c e)⟩
 ·obtain⟨f0,f1,f2,f3,f4,f5⟩:=hf b hb;rcases f3 with z | z
  ·exact I.ok.noex b o e z
  ·exact absurd (Nat.lt_of_lt_of_le (Heap.lt_size e) (Nat.le_trans I.ok.bsz z)) (Nat.lt_irrefl _)
 ·obtain⟨f0,f1,f2,f3,f4,f5⟩:=hf b hb;exact nfs b f1 f2
 ·-- a name's value
  unfold σC at h2
  by_cases hi:i < nl
  ·rw[getElem?_append_left (by simpa using hi),getElem?_replicate] at h2;split at h2<;>cases h2
  ·have hi':nl<=i:=by lia
   rw[getElem?_append_right (by simpa using hi'),length_replicate,getElem?_map] at h2;obtain⟨k,rfl⟩:∃k,i=nl+k:=⟨i - nl,by lia⟩
   obtain⟨j,e1,e2,e3,e4,e5⟩:=ck.tail k x h1;rw[Nat.add_sub_cancel_left,e1] at h2;have h2':(σ[j]?).join=some v:=by simpa using h2
   have h2'':σ[j]?=some (some v):=by
    cases q:σ[j]? with
    |none=>rw[q] at h2';cases h2'
    |some z=>rw[q] at h2';exact congrArg some h2'
   obtain⟨m,hn,hl⟩:=I.loc;obtain⟨u,r,l⟩:=hl j x v e2 h2'' (.inr (.inl e3));refine⟨u,r,?_⟩;rcases l with ⟨k1,_⟩ | ⟨k1,c,ec,z⟩
   ·rw[e3] at k1;cases k1
   ·obtain⟨o,ho,hd⟩:=z;exact .inr ⟨e5,c,by show cl.lookup x=some c;rw[e4];exact ec,o,hk _ _ ho,hd⟩
 ·obtain⟨v,o,ho,hd⟩:=I.cell x c (ck.sub x c e);exact⟨v,o,hk _ _ ho,hd⟩
 ·have hp':p∈X.pn++pins:=by simpa using hp
  obtain⟨e,n,ne,nf,d⟩:=I.pin p hp';exact⟨hk _ _ e,n,Nat.ne_of_lt (Heap.lt_size e),nfs _ ne nf,d⟩
 ·unfold σC;show _=Nc.length;rw[List.length_append,length_replicate,length_map,ck.len]
theorem Na {pins':List (Addr × Obj)}{σ':St}{H':Hp}{s':Shared}(I:Inv X pins σ H3 s3)(hf:∀b∈fp,kY X pins H3 b)(J:Inv (eZ X scope cl Nc s3.heap.objs.size s3 H3 fp pins) pins' σ' H' s'):Inv X pins σ H' s'/\kY X pins H' s3.heap.objs.size:=by
 refine⟨I.call' (ch:=fp) J.os J.base J.hok J.bare fun b hb=>?_,I.fpOk (Nat.le_refl _) J.free⟩;obtain⟨f0,f1,f2,f3,f4,f5⟩:=hf b hb;exact⟨f3,f1,f4,f5⟩
theorem Inv.off {b:Addr}{H:Hp}{s:Shared}{h':Heap}(I:Inv X pins σ H s)(f:kY X pins H b)(hs:Heap.SameBut b s.heap h'):Inv X pins σ H { s with heap:=h' }:=by
 obtain⟨f0,f1,f2,f3,f4,f5⟩:=f;exact I.turned (t':=s.toks) (it:=b) (fun c o hb e=>(hs.2 c hb).trans e) f0 f1 f3 f4 f5
end
def Ay (J:It)(nl:Nat)(fr:List Nat)(g:TG)(tt:TT)(te:TE)(σ:St)(D:Addr)(H1:Hp)(Q:VK):Prop:=
 ∃W:Nat->Nat->List V->Hp->Prop,(∃m,W 0 m [] (upd H1 D (.lst [])))/\∀i m ys H2,W i m ys H2->H2 D=some (.lst ys)/\
  ((J.stop i H2/\Q (.ref D) H2)\/(J.go i H2/\∀x H3,J.yld i H2 x H3->g x (σC nl fr σ) H3 fun σ2 H4=>σ2.length=(σC nl fr σ).length/\(∀(i:Nat) v,(σC nl fr σ)[i]?=some (some v)->σ2[i]?=some (some v))/\
   tt σ2 H4 fun b H5=>if b=true then te σ2 H5 fun y H6=>H6 D=some (.lst ys)/\ys.length < sizeLine/\∃m',m' < m/\W (i+1) m' (ys++[y]) (upd H6 D (.lst (ys++[y])))
    else ∃m',m' < m/\W (i+1) m' ys H5))
def Os (wi:TI)(nl:Nat)(fr:List Nat)(g:TG)(tt:TT)(te:TE):TE:=fun σ H Q=>wi σ H fun J H1=>∀D,H1 D=none->Ay J nl fr g tt te σ D H1 Q
section
variable {X:Cx} {scope:Scope} {cl:List (Str × Addr)} {Nc:List Str} {nl:Nat} {fr:List Nat} {elt tg iter:Expr} {ifs:List Expr} {pos:Pos} {wi:TI} {g:TG} {tt:TT} {te:TE}
theorem zS (hc:X.calm=true)(ck:yC X scope cl Nc nl fr)(hi:PI X tg iter wi)(hg:∀C s3 H3 fp pins,PG (eZ X scope cl Nc C s3 H3 fp pins) tg g)(ht:∀C s3 H3 fp pins,PIf (eZ X scope cl Nc C s3 H3 fp pins) ifs tt)(he:∀C s3 H3 fp pins,PE (eZ X scope cl Nc C s3 H3 fp pins) elt te){pins:List (Addr × Obj)}{s:Shared}{σ:St}{H:Hp}{Q:VK}(I:Inv X pins σ H s)(h:Os wi nl fr g tt te σ H Q){RR:Value->Addr->Result->Shared->Prop}(fin:∀D C s',(∃H',(∃m,s'.heap.Ns C m)/\Inv X pins σ H' s'/\kY X pins H' C/\Q (.ref D) H')->RR (.ref D) C (.ok .next) s') :
  wpAny (model X.prog X.w) X.A (eval iter X.env) (fun x s₁=>wpAny (model X.prog X.w) X.A (pyIter x) (fun it s₂=>wpAny (model X.prog X.w) X.A (newList []) (fun acc s₃=>
   wpAny (model X.prog X.w) X.A (newFunctionEnv scope X.env.globals cl [] X.env.qual none .none (some X.env)) (fun cenv s₄=>
    codeAny (model X.prog X.w) X.A (.compStart (.ListComp elt [⟨tg,iter,ifs,0⟩] scope pos) 0 it acc { cenv with scope:=relabel scope X.env }) (RR acc cenv.locals) s₄) X.xe s₃) X.xe s₂) X.xe s₁) X.xe s:=by
 refine thn (hi pins s σ H _ I h) fun v s1 h1=>thn h1 fun itv s2 h2=>?_;obtain⟨it,fp,tn,J,H2,e,I2,T,st2,f2,hD⟩:=h2;subst e;have hn2:H2 s2.heap.objs.size=none:=I2.hok.fresh (Nat.le_refl _);obtain⟨W,⟨m0,w0⟩,turn⟩:=hD s2.heap.objs.size hn2;refine wpAny_newObj_type (wpAny_newFunctionEnv ck.cell (by intro y hy;simp at hy) (fun h4 hns hsb=>?_) ck.kind);dsimp only at hns hsb ⊢;have I3:Inv X pins σ (upd H2 s2.heap.objs.size (.lst [])) { s2 with heap:=s2.heap.push { cls:=.type "list",dict:=none,data:=.seq ([]:List Value).toArray } }:=
  I2.laid (t':=s2.toks) (fun b u e=>Heap.get?_push_of_some _ e) (Nat.le_refl _) ⟨Nat.zero_le _,[],0,.nil,Heap.get?_push_size _ rfl⟩
 have hfs:∀b∈fp,b < s2.heap.objs.size:=fun b hb=>by
  obtain⟨o,e,_⟩:=T.obj 0 _ st2 b hb;exact Heap.lt_size e
 have f3:∀b∈fp,kY X pins (upd H2 s2.heap.objs.size (.lst [])) b:=fun b hb=>⟨by rw[aW (Nat.ne_of_lt (hfs b hb))];exact(f2 b hb).1,(f2 b hb).2⟩
 generalize hH3:upd H2 s2.heap.objs.size (.lst [])=H3 at *
 generalize hs3:({ s2 with heap:=s2.heap.push { cls:=.type "list",dict:=none,data:=.seq ([]:List Value).toArray } }:Shared)=s3 at *
 have z3:s3.heap=s2.heap.push { cls:=.type "list",dict:=none,data:=.seq ([]:List Value).toArray }:=by rw[<- hs3]
 have hsz3:s3.heap.objs.size=s2.heap.objs.size+1:=by rw[z3,Heap.size_push]
 rw[<- z3] at hns hsb ⊢;have hk4:∀b o,s3.heap.get? b=some o->h4.get? b=some o:=fun b o e=>hsb.extBut b o (Nat.ne_of_lt (Heap.lt_size e)) (Heap.get?_push_of_some _ e);have hfs3:∀b∈fp,b < s3.heap.objs.size:=fun b hb=>Nat.lt_of_lt_of_le (hfs b hb) (by rw[hsz3];exact Nat.le_succ _);have hns':h4.Ns s3.heap.objs.size fun _=>none:=by simpa using hns
 have K0:=fun tk=>Dv (tk:=tk) ck I3 f3 hfs3 hns' hk4;have stat:∀{H':Hp},(∀b∈fp,H' b=none)->∀b∈fp,kY (eZ X scope cl Nc s3.heap.objs.size s3 H3 fp pins) [] H' b:=fun {H'} hn b hb=>by
  obtain⟨f0,g1,g2,g3,g4,g5⟩:=f3 b hb;refine⟨hn b hb,Nat.ne_of_lt (hfs3 b hb),fun z=>?_,.inl hb,fun x c e=>g4 x c (ck.sub x c e),fun p hp=>g5 p (by simpa using hp)⟩;exact(mem_cons.mp (I3.stkSub b z)).elim g1 g2
 have st4:tn 0 h4:=T.keep 0 _ _ st2 fun b hb o e=>hk4 b o (by rw[z3];exact Heap.get?_push_of_some _ e);have loop:∀tk,codeAny (model X.prog X.w) X.A (.compLoop (.ListComp elt [⟨tg,iter,ifs,0⟩] scope pos) 0 (.ref it) (.ref s2.heap.objs.size) (compEnvC scope cl s3.heap.objs.size X.env)) (RR (.ref s2.heap.objs.size) s3.heap.objs.size) { s3 with heap:=h4,toks:=tk }:=by
  intro tk;refine Hi (fun n s'=>∃i ys H',Inv (eZ X scope cl Nc s3.heap.objs.size s3 H3 fp pins) [] (σC nl fr σ) H' s'/\tn i s'.heap/\(∀b∈fp,H' b=none)/\W i n ys H') ?_ m0 ⟨0,[],H3,K0 tk,st4,fun b hb=>(f3 b hb).1,w0⟩;rintro n s5 ⟨i,ys,H5,I5,st5,fr5,w5⟩;obtain⟨hl5,q5⟩:=turn i n ys H5 w5;rcases q5 with ⟨stop,qn⟩ | ⟨go,step⟩
  ·refine wpAny_mono (T.done (eZ X scope cl Nc s3.heap.objs.size s3 H3 fp pins) rfl rfl rfl hc i [] s5 (σC nl fr σ) H5 (fun _ _=>False) I5 (stat fr5) st5 stop) (fun r s6 h6=>?_) fun _ _ z=>z;obtain⟨hr,I6⟩:=h6;subst hr;obtain⟨z1,z2⟩:=Na I3 f3 I6;refine fin _ _ _ ⟨H5,?_,z1,z2,qn⟩;obtain⟨m,hm,_⟩:=I6.loc;exact⟨m,hm⟩
  ·refine wpAny_mono (T.item (eZ X scope cl Nc s3.heap.objs.size s3 H3 fp pins) rfl rfl rfl hc i [] s5 (σC nl fr σ) H5 (fun _ _=>False) I5 (stat fr5) st5 go) (fun r s6 h6=>?_) fun _ _ z=>z;obtain⟨u,hr,h6⟩:=h6;subst hr;refine wpAny_mono h6 (fun _ s7 h7=>?_) fun _ _ z=>z;obtain⟨x,H7,I7,r7,y7,st7,fr7⟩:=h7;have I7':=I7.pinned (stat fr7) (T.obj _ _ st7);refine wpAny_mono (hg s3.heap.objs.size s3 H3 fp pins _ s7 _ H7 x u _ I7' r7 (step x H7 y7)) (fun _ s8 h8=>?_) fun _ _ z=>z;obtain⟨σ8,H8,I8,l8,k8,q8⟩:=h8;refine wpAny_mono (ht s3.heap.objs.size s3 H3 fp pins _ s8 σ8 H8 _ I8 q8) (fun b s9 h9=>?_) fun _ _ z=>z;obtain⟨H9,I9,q9⟩:=h9;have again:∀{ys':List V} {H':Hp} {s':Shared} {m':Nat},Inv (eZ X scope cl Nc s3.heap.objs.size s3 H3 fp pins) ([]++uI fp s7.heap) σ8 H' s'->m' < n->W (i+1) m' ys' H'->
     ∃m,m < n/\∃i ys H',Inv (eZ X scope cl Nc s3.heap.objs.size s3 H3 fp pins) [] (σC nl fr σ) H' s'/\tn i s'.heap/\(∀b∈fp,H' b=none)/\W i m ys H':=fun {ys' H' s' m'} I' hm w'=>by
    refine⟨m',hm,i+1,ys',H',I'.unpinned.weak l8.symm k8,T.keep _ _ _ st7 fun b hb o e=>(I'.pin (b,o) (mem_append_right _ (mem_append_right _ (jI hb e)))).1,fun b hb=>?_,w'⟩;obtain⟨o,e,d⟩:=T.obj _ _ st7 b hb;exact(I'.pin (b,o) (mem_append_right _ (mem_append_right _ (jI hb e)))).2.1
   cases b with
   |false=>
    rw[if_neg Bool.false_ne_true] at q9 ⊢;obtain⟨m',hm,w9⟩:=q9;exact again I9 hm w9
   |true=>
    rw[if_pos rfl] at q9 ⊢;refine wpAny_mono (he s3.heap.objs.size s3 H3 fp pins _ s9 σ8 H9 _ I9 q9) (fun yv s10 h10=>?_) fun _ _ z=>z;obtain⟨y,H10,I10,r10,hl10,hz10,m',hm,w10⟩:=h10;refine wpAny_mono (fK (X:=eZ X scope cl Nc s3.heap.objs.size s3 H3 fp pins) _ s10 σ8 H10 (.ref s2.heap.objs.size) [y] _ [yv] (fun v H'=>H'=upd H10 s2.heap.objs.size (.lst (ys++[y]))) I10 rfl (.cons r10 .nil) ⟨_,ys,y,rfl,rfl,hl10,hz10,rfl⟩) (fun _ s11 h11=>?_) fun _ _ z=>z;obtain⟨_,H11,I11,_,e11⟩:=h11;subst e11;exact again I11 hm w10
 have L:=loop (s2.toks+([]:List (Str × Value)).length);rw[show s3.gens=s2.gens by rw[<- hs3],show s3.drawn=s2.drawn by rw[<- hs3],show s3.os=s2.os by rw[<- hs3]] at L;exact codeAny_compStart_list L (T.self _ 0 _ _ _ st4 L)
theorem eI (hc:X.calm=true)(ck:yC X scope cl Nc nl fr)(hi:PI X tg iter wi)(hg:∀C s3 H3 fp pins,PG (eZ X scope cl Nc C s3 H3 fp pins) tg g)(ht:∀C s3 H3 fp pins,PIf (eZ X scope cl Nc C s3 H3 fp pins) ifs tt)(he:∀C s3 H3 fp pins,PE (eZ X scope cl Nc C s3 H3 fp pins) elt te)(hs:∀x,foldedSetIterable iter X.env x=pure x:=by intro _;rfl):PE X (.ListComp elt [⟨tg,iter,ifs,0⟩] scope pos) (Os wi nl fr g tt te):=by
 intro pins s σ H Q I h;rw[eval_ListComp];refine wpAny_comprehension_free (use:=none) rfl hs ck.clos ck.kind ck.names (zS (RR:=fun acc C=>compPost (model X.prog X.w) X.A X.xe none (EP X pins σ Q) acc C) hc ck hi hg ht he I h fun D C s' hh=>?_);obtain⟨H',⟨m,hm⟩,hI,hF,q⟩:=hh;exact⟨m,hm,fun h' hs'=>⟨.ref D,H',hI.off hF hs',rfl,q⟩⟩
theorem oJ {i:Nat}{y:Str}{py spos:Pos}(hN:X.N.Nodup)(hiy:X.N[i]?=some y)(hy:X.env.scope.names.lookup y=some .local)(hc:X.calm=true)(ck:yC X scope cl Nc nl fr)(hi:PI X tg iter wi)(hg:∀C s3 H3 fp pins,PG (eZ X scope cl Nc C s3 H3 fp pins) tg g)(ht:∀C s3 H3 fp pins,PIf (eZ X scope cl Nc C s3 H3 fp pins) ifs tt)(he:∀C s3 H3 fp pins,PE (eZ X scope cl Nc C s3 H3 fp pins) elt te)(hsw:swapsWith (.ListComp elt [⟨tg,iter,ifs,0⟩] scope pos) (some (.Name y py)) spos.line X.env=pure true)(hs:∀x,foldedSetIterable iter X.env x=pure x:=by intro _;rfl):PS X (.Assign [.Name y py] (.ListComp elt [⟨tg,iter,ifs,0⟩] scope pos) spos) (Yd (Os wi nl fr g tt te) (iS i)):=by
 intro pins s σ H D I h;rw[exec_Assign_Name_used _ _ _ _ hsw];refine wpAny_bind (wpAny_standAt (wpAny_bind ?_));show wpAny _ X.A (do let _ <- comprehension (.ListComp elt [⟨tg,iter,ifs,0⟩] scope pos) scope X.env _ (newList []) false (eval iter X.env) (some (assign (.Name y py) X.env))) _ _ s;refine wpAny_bind (wpAny_mono (wpAny_comprehension_free (use:=some (assign (.Name y py) X.env)) (Q:=fun _ s'=>SP X pins D .next s') rfl hs ck.clos ck.kind ck.names
  (zS (RR:=fun acc C=>compPost (model X.prog X.w) X.A X.xe (some (assign (.Name y py) X.env)) (fun _ s'=>SP X pins D .next s') acc C) hc ck hi hg ht he I h fun Dd C s' hh=>?_)) (fun _ s' hq=>wpAny_pure (wpAny_pure hq)) fun _ _ e=>e)
 obtain⟨H',⟨m,hm⟩,hI,hF,q⟩:=hh;show wpAny _ X.A (assign (.Name y py) X.env (.ref Dd)) _ _ _;refine wpAny_assign_Name (wC hI hN hiy (.inl hy) (v:=.ref Dd) rfl (fun s2 I2 hsb=>?_) (.inr hy));obtain⟨a,sb,ha⟩:=hsb;have hCa:C≠a:=by
  rcases ha with z | z
  ·rw[z];exact hF.2.1
  ·exact Ne.symm (hF.2.2.2.2.1 y a z)
 refine⟨m,hm.sameBut sb hCa,fun h' hs'=>⟨_,H',I2.off hF hs',q⟩⟩
end
end L2
namespace Mq
abbrev Q2:=Int × Int
def gc (a b:Int):Int:=(Int.gcd a b:Nat)
theorem El (a b:Int):gc b (Int.fmod a b)=gc a b:=by
 unfold gc;rw[Int.fmod_def,Int.gcd_comm a b,Int.sub_eq_add_neg,<- Int.mul_neg,Int.gcd_add_mul_left_right]
theorem vG {a b:Int}(h:b≠0):(Int.fmod a b).natAbs < b.natAbs:=by
 rcases (by lia:0 < b\/b < 0) with h1 | h1
 ·have:=Int.fmod_nonneg_of_pos a h1;have:=Int.fmod_lt_of_pos a h1;lia
 ·have h2:0 < -b:=by lia
  have e:Int.fmod a b=- Int.fmod (-a) (-b):=by
   rw[Int.neg_fmod_neg];lia
  have:=Int.fmod_nonneg_of_pos (-a) h2;have:=Int.fmod_lt_of_pos (-a) h2;lia
theorem Fa (a:Int):gc a 0=if a < 0 then -a else a:=by
 unfold gc;rw[Int.gcd_zero];split<;>lia
theorem Vy (a b:Int):gc (if a < 0 then -a else a) (if b < 0 then -b else b)=gc a b:=by
 unfold gc;split<;>split<;>simp
theorem rW {a b:Int}(h:b≠0):0 < gc a b:=by
 have:=Int.gcd_pos_of_ne_zero_right a h;unfold gc;lia
structure Low (p:Q2):Prop where
 pos:1<=p.2
 one:gc p.1 p.2=1
def dvr (t b:Int):Int:=if b < 0 then -gc t b else gc t b
def red (t b:Int):Q2:=(Int.fdiv t (dvr t b),Int.fdiv b (dvr t b))
theorem oW {t b:Int}(h:b≠0):dvr t b≠0:=by
 have:=rW (a:=t) h;unfold dvr;split<;>lia
theorem eK {a g k:Int}(hg:g≠0)(h:a=g*k):Int.fdiv a g=k:=by
 rw[h,Int.mul_fdiv_cancel_left _ hg]
theorem Uk (t b:Int):dvr t b ∣ t/\dvr t b ∣ b:=by
 have h1:gc t b ∣ t:=Int.gcd_dvd_left t b;have h2:gc t b ∣ b:=Int.gcd_dvd_right t b;unfold dvr;split
 ·exact⟨Int.neg_dvd.mpr h1,Int.neg_dvd.mpr h2⟩
 ·exact⟨h1,h2⟩
theorem pN {t b:Int}(h:b≠0):t=dvr t b*(red t b).1/\b=dvr t b*(red t b).2:=by
 obtain⟨⟨x,hx⟩,⟨y,hy⟩⟩:=Uk t b;have hg:=oW (t:=t) h;have e1:(red t b).1=x:=eK hg hx;have e2:(red t b).2=y:=eK hg hy;rw[e1,e2];exact⟨hx,hy⟩
theorem gE {t b:Int}(h:b≠0):Low (red t b):=by
 obtain⟨h1,h2⟩:=pN (t:=t) h;have hg:=oW (t:=t) h;have hp:=rW (a:=t) h;have nd:(dvr t b).natAbs=(gc t b).natAbs:=by unfold dvr;split<;>simp
 have e:Int.gcd t b=(dvr t b).natAbs*Int.gcd (red t b).1 (red t b).2:=by
  rw[<- Int.gcd_mul_left,<- h1,<- h2]
 have e2:(gc t b).natAbs=Int.gcd t b:=by unfold gc;simp
 rw[nd,e2] at e;have hp':0 < Int.gcd t b:=by unfold gc at hp;lia
 have one:Int.gcd (red t b).1 (red t b).2=1:=by
  have:Int.gcd t b*Int.gcd (red t b).1 (red t b).2=Int.gcd t b*1:=by lia
  exact Nat.eq_of_mul_eq_mul_left hp' this
 refine⟨?_,by unfold gc;rw[one];rfl⟩;have sgn:0 < (red t b).2:=by
  by_cases hb:b < 0
  ·have hd:dvr t b < 0:=by unfold dvr;rw[if_pos hb];lia
   have hq:¬(red t b).2<=0:=fun q=>by
    have:=Int.mul_nonneg_of_nonpos_of_nonpos (Int.le_of_lt hd) q;lia
   lia
  ·have hd:0 < dvr t b:=by unfold dvr;rw[if_neg hb];lia
   have hq:¬(red t b).2<=0:=fun q=>by
    have:=Int.mul_nonpos_of_nonneg_of_nonpos (Int.le_of_lt hd) q;lia
   lia
 lia
theorem vL {t b:Int}(h:b≠0):(red t b).1*b=t*(red t b).2:=by
 obtain⟨h1,h2⟩:=pN (t:=t) h;generalize (red t b).1=x at *
 generalize (red t b).2=y at *
 generalize dvr t b=g at *
 subst h1 h2;grind
theorem iE {a g k:Int}(hg:g≠0)(h:a=g*k):k.natAbs<=a.natAbs:=by
 rw[h,Int.natAbs_mul];exact Nat.le_mul_of_pos_left _ (by lia)
theorem lP {t b:Int}(h:b≠0):(red t b).1.natAbs<=t.natAbs/\(red t b).2.natAbs<=b.natAbs:=by
 obtain⟨h1,h2⟩:=pN (t:=t) h;exact⟨iE (oW h) h1,iE (oW h) h2⟩
theorem Bz {t b:Int}(h:b≠0):(dvr t b).natAbs<=b.natAbs:=by
 have e:(dvr t b).natAbs=Int.gcd t b:=by unfold dvr gc;split<;>simp
 rw[e];exact Int.gcd_le_natAbs_right t h
theorem Nf {p q:Q2}(hp:Low p)(hq:Low q)(h:p.1*q.2=q.1*p.2):p=q:=by
 have gp:Int.gcd p.2 p.1=1:=by have:=hp.one;rw[Int.gcd_comm];unfold gc at this;lia
 have gq:Int.gcd q.2 q.1=1:=by have:=hq.one;rw[Int.gcd_comm];unfold gc at this;lia
 have d1:p.2 ∣ q.2:=by
  have:p.2 ∣ p.1*q.2:=⟨q.1,by rw[h,Int.mul_comm]⟩
  have:=Int.dvd_gcd_mul_iff_dvd_mul.mpr this;rw[gp] at this;simpa using this
 have d2:q.2 ∣ p.2:=by
  have:q.2 ∣ q.1*p.2:=⟨p.1,by rw[<- h,Int.mul_comm]⟩
  have:=Int.dvd_gcd_mul_iff_dvd_mul.mpr this;rw[gq] at this;simpa using this
 have l1:=Int.le_of_dvd (by have:=hq.pos;lia) d1;have l2:=Int.le_of_dvd (by have:=hp.pos;lia) d2;have e2:p.2=q.2:=by lia
 have e1:p.1=q.1:=by
  rw[e2] at h;exact Int.eq_of_mul_eq_mul_right (by have:=hq.pos;lia) h
 exact Prod.ext e1 e2
def oR (p q:Q2):Q2:=red (p.1*q.2+q.1*p.2) (p.2*q.2)
def minus (p q:Q2):Q2:=red (p.1*q.2 - q.1*p.2) (p.2*q.2)
def tO (p q:Q2):Q2:=red (p.1*q.1) (p.2*q.2)
def pY (p q:Q2):Q2:=red (p.1*q.2) (p.2*q.1)
theorem gH {a b:Int}(ha:1<=a)(hb:1<=b):a*b≠0:=by
 have:=Int.mul_pos (show 0 < a by lia) (show 0 < b by lia);lia
theorem tQ {p q:Q2}(hp:1<=p.2)(hq:1<=q.2):Low (oR p q):=gE (gH hp hq)
def B (n:Nat)(i:Int):Prop:=i.natAbs < 2 ^ n
structure Bd (n:Nat) (p:Q2):Prop where
 a:B n p.1
 b:B n p.2
theorem B.mono {n m:Nat}{i:Int}(h:B n i)(l:n<=m):B m i:=Nat.lt_of_lt_of_le h (Nat.pow_le_pow_right (by decide) l)
theorem B.mul {n m:Nat}{i j:Int}(h:B n i)(q:B m j):B (n+m) (i*j):=by
 unfold B at *
 rw[Int.natAbs_mul,Nat.pow_add];exact Nat.mul_lt_mul'' h q
theorem B.add {n:Nat}{i j:Int}(h:B n i)(q:B n j):B (n+1) (i+j):=by
 unfold B at *
 have:=Int.natAbs_add_le i j;rw[Nat.pow_succ];lia
theorem B.neg {n:Nat}{i:Int}(h:B n i):B n (-i):=by unfold B at *;lia
theorem B.sub {n:Nat}{i j:Int}(h:B n i)(q:B n j):B (n+1) (i - j):=by
 rw[Int.sub_eq_add_neg];exact h.add q.neg
theorem B.le {n:Nat}{i j:Int}(h:B n i)(l:j.natAbs<=i.natAbs):B n j:=Nat.lt_of_le_of_lt l h
theorem Bd.mono {n m:Nat}{p:Q2}(h:Bd n p)(l:n<=m):Bd m p:=⟨h.a.mono l,h.b.mono l⟩
theorem En {n m:Nat}{p q:Q2}(h:Bd n p)(g:Bd m q)(hp:1<=p.2)(hq:1<=q.2):Bd (n+m+1) (oR p q):=by
 have k:=lP (t:=p.1*q.2+q.1*p.2) (gH hp hq);have a2:B (n+m) (q.1*p.2):=by rw[Nat.add_comm];exact g.a.mul h.b
 exact⟨((h.a.mul g.b).add a2).le k.1,((h.b.mul g.b).mono (Nat.le_succ _)).le k.2⟩
def Pos (l:List Q2):Prop:=∀f∈l,1<=f.2
end Mq
open Mq (Bd Bz El En Fa Low Q2 dvr eK gE gH gc lP oR oW pY red tO tQ vG)
namespace L2
open PySem PySem.Spec PyProof.Rows
structure aU (K:Frag) (x qual:Str) (st:Stmt) (dV:Value) (f:Addr) (fd:FuncData):Prop where
 ex:∃(oc:Value) (od:Option Addr) (kV doc pm:Value) (an:Option Addr) (cdv ct:Value) (osl:Array (Option Value)),
  fd=W.fnOf x qual (dF st) (cG st) (aH st) dV kV doc pm an cdv ct/\K.lookup f=some ⟨oc,od,.func fd,osl⟩/\W.codeIn K cdv qual=true
 kp:W.keepIn K (.ref f)=true
section
variable {P:Program} {w:World} {K:Frag} {mg:Str->Option Value} {base:Heap} {CX:CXT}
theorem aU.okX {x qual:Str}{st:Stmt}{dV:Value}{f:Addr}{fd:FuncData}{N ps:List Str}{k:Nat}{sp:Sp}(F:aU K x qual st dV f fd)(S:aQ N ps (aH st))(len:∀vs H Q E,sp vs H Q E->vs.length=ps.length)(hbody:∀(cdv:Value) (A:Around) (outer:List Env) (s:Shared) (H:Hp) (vs:List V) (Q:VK) (E:XK),gC k (A.deeper (envOfC qual (aH st) s.heap.objs.size f cdv))->sp vs H Q E->
   ∃t,PSs (Eg CX P w K mg base N qual (aH st) f cdv A outer s H E) (cG st) t/\t { nx:=fun _ H'=>Q .non H',rt:=Q } (start N vs) H):aM P w K mg base CX (k+1) f fd ps sp:=by
 obtain⟨oc,od,kV,doc,pm,an,cdv,ct,osl,rfl,lk,hcd⟩:=F.ex;exact qe5 lk hcd S len fun A outer s H vs Q E hr hsp=>hbody cdv A outer s H vs Q E hr hsp
theorem aU.ok {x qual:Str}{st:Stmt}{dV:Value}{f:Addr}{fd:FuncData}{N ps:List Str}{k:Nat}{sp:Sp}(F:aU K x qual st dV f fd)(S:aQ N ps (aH st))(len:∀vs H Q E,sp vs H Q E->vs.length=ps.length)(hbody:∀(cdv:Value) (A:Around) (outer:List Env) (s:Shared) (H:Hp) (vs:List V) (Q:VK) (E:XK),gC k (A.deeper (envOfC qual (aH st) s.heap.objs.size f cdv))->sp vs H Q E->
   ∃t,PSs (Eg CX P w K mg base N qual (aH st) f cdv A outer s H E).nox (cG st) t/\t { nx:=fun _ H'=>Q .non H',rt:=Q } (start N vs) H):aM P w K mg base CX (k+1) f fd ps sp:=
 F.okX S len fun cdv A outer s H vs Q E hr hsp=>by
  obtain⟨t,h,q⟩:=hbody cdv A outer s H vs Q E hr hsp;exact⟨t,h.nox,q⟩
theorem aU.binds {x qual:Str}{st:Stmt}{dV:Value}{f:Addr}{fd:FuncData}{ps:List Str}(F:aU K x qual st dV f fd)(h:∀(kV doc pm:Value) (an:Option Addr) (cdv ct:Value) (us:List Value),us.length=ps.length->bindArgs (W.fnOf x qual (dF st) (cG st) (aH st) dV kV doc pm an cdv ct) ⟨us,[]⟩=pure (ps.zip us)):aL K fd ps []:=by
 obtain⟨oc,od,kV,doc,pm,an,cdv,ct,osl,rfl,lk,hcd⟩:=F.ex;exact .all (h kV doc pm an cdv ct)
theorem qK {x qual:Str}{st:Stmt}{dV:Value}{f:Addr}{oc:Value}{od an:Option Addr}{osl:Array (Option Value)}{kV doc pm cdv ct:Value}(l:K.lookup f=some ⟨oc,od,.func (W.fnOf x qual (dF st) (cG st) (aH st) dV kV doc pm an cdv ct),osl⟩)(c:W.codeIn K cdv qual=true)(k:kI9 K f):aU K x qual st dV f (W.fnOf x qual (dF st) (cG st) (aH st) dV kV doc pm an cdv ct):=⟨⟨oc,od,kV,doc,pm,an,cdv,ct,osl,rfl,l,c⟩,k⟩
end
abbrev fT (p:Q2):HO:=.tup [.int p.1,.int p.2]
def Fq (K:Frag)(H:Hp)(a:Addr)(p:Q2):Prop:=SqT K H a [.int p.1,.int p.2]
theorem aT.seqT {K:Frag}{H H':Hp}{a:Addr}{xs:List V}(e:aT H H')(h:SqT K H a xs):SqT K H' a xs:=by
 rcases h with (h | ⟨o,h⟩) | h
 ·exact .inl (.inl (e _ _ h))
 ·exact .inl (.inr ⟨o,e _ _ h⟩)
 ·exact .inr h
theorem aI {H:Hp}{p:Addr}(h:H p=none)(o:HO):aT H (upd H p o):=fun b u q=>by rw[aW (bC q h)];exact q
theorem aT.fq {K:Frag}{H H':Hp}{a:Addr}{p:Q2}(e:aT H H')(h:Fq K H a p):Fq K H' a p:=e.seqT h
theorem Fq.of {K:Frag}{H:Hp}{a:Addr}{p:Q2}(h:H a=some (fT p)):Fq K H a p:=SqT.of h
theorem dW {K:Frag}{σ:St}{H:Hp}{i:Nat}{a:Addr}{p:Q2}{Q:VK}(hv:σ[i]?=some (some (.ref a)))(h:Fq K H a p)(q:Q (.int p.1) H):tOp (Ui K) (Qv i) (tC (.int 0)) σ H Q:=
 ⟨_,hv,a,_,_,_,rfl,rfl,h,rfl,q⟩
theorem cN {K:Frag}{σ:St}{H:Hp}{i:Nat}{a:Addr}{p:Q2}{Q:VK}(hv:σ[i]?=some (some (.ref a)))(h:Fq K H a p)(q:Q (.int p.2) H):tOp (Ui K) (Qv i) (tC (.int 1)) σ H Q:=
 ⟨_,hv,a,_,_,_,rfl,rfl,h,rfl,q⟩
theorem cF {H:Hp}{n m:Nat}{i j:Int}{Q:VK}(h1:Mq.B n i)(h2:Mq.B m j)(h3:n<=1048576)(h4:m<=1048576)(q:Q (.int (i*j)) H):rI Re (fun i j=>.int (i*j)) (.int i) (.int j) H Q:=
 ⟨_,_,rfl,rfl,⟨n,m,h1,h2,h3,h4⟩,q⟩
theorem fC {H:Hp}{n:Nat}{i j:Int}{Q:VK}(h1:j≠0)(h2:Mq.B n j)(h3:n<=9000)(q:Q (.int (i.fdiv j)) H):rI Ga (fun i j=>.int (i.fdiv j)) (.int i) (.int j) H Q:=
 ⟨_,_,rfl,rfl,⟨h1,n,h2,h3⟩,q⟩
structure Bl (mg:Str->Option Value):Prop where
 isi:mg "isinstance"=none
 int:mg "int"=none
 bool:mg "bool"=none
 abs:mg "abs"=none
def uA (t:Value):Prop:=t=.type "bool"\/t=.type "str"\/t=.type "NoneType"\/t=.type "tuple"\/t=.type "list"
def nU (K:Frag):Sp:=fun vs H Q _=>∃x,vs=[x]/\((∃i,x=.int i/\Q (.bl true) H)\/(∃t,kX K H x t/\uA t/\Q (.bl false) H))
def Qq:Sp:=fun vs H Q _=>∃a b:Int,vs=[.int a,.int b]/\Q (.int (gc a b)) H
def qE (H:Hp)(Q:VK)(p:Q2):Prop:=∀a H',aT H H'->H' a=some (fT p)->Q (.ref a) H'
def gJ:Sp:=fun vs H Q _=>∃(t b:Int) (n:Nat),vs=[.int t,.int b]/\b≠0/\Mq.B n b/\n<=9000/\qE H Q (red t b)
def iT (K:Frag)(f:Q2->Q2->Q2):Sp:=fun vs H Q _=>∃(a b:Addr) (p q:Q2) (n m:Nat),vs=[.ref a,.ref b]/\Fq K H a p/\Fq K H b q/\1<=p.2/\1<=q.2/\Bd n p/\Bd m q/\n+m+1<=9000/\qE H Q (f p q)
inductive Fqs (K:Frag) (H:Hp):List V->List Q2->Prop where
 |nil:Fqs K H [] []
 |cons {a:Addr} {p:Q2} {xs:List V} {ps:List Q2} (h:Fq K H a p) (q:Fqs K H xs ps):Fqs K H (.ref a :: xs) (p :: ps)
theorem Fqs.same {K:Frag}{H H':Hp}(e:aT H H'):∀{xs:List V} {ps:List Q2},Fqs K H xs ps->Fqs K H' xs ps
 |_,_,.nil=>.nil
 |_,_,.cons h q=>.cons (e.fq h) (Fqs.same e q)
theorem Fqs.length {K:Frag}{H:Hp}:∀{xs:List V} {ps:List Q2},Fqs K H xs ps->xs.length=ps.length
 |_,_,.nil=>rfl
 |_,_,.cons _ q=>by simp[Fqs.length q]
theorem Fqs.get {K:Frag}{H:Hp}:∀{xs:List V} {ps:List Q2} {i:Nat} {x:V},Fqs K H xs ps->xs[i]?=some x->∃a p,x=.ref a/\ps[i]?=some p/\Fq K H a p
 |_,_,_,_,.nil,h=>by simp at h
 |_,_,0,_,.cons h _,e=>by simp at e;exact⟨_,_,e.symm,rfl,h⟩
 |_,_,i+1,_,.cons _ q,e=>by simpa using Fqs.get q (by simpa using e)
theorem Fqs.app {K:Frag}{H:Hp}:∀{xs ys:List V} {ps qs:List Q2},Fqs K H xs ps->Fqs K H ys qs->Fqs K H (xs++ys) (ps++qs)
 |_,_,_,_,.nil,r=>r
 |_,_,_,_,.cons h q,r=>.cons h (Fqs.app q r)
theorem Fq.upd {K:Frag}{H:Hp}{a l:Addr}{p:Q2}{xs:List V}{o:HO}(h:Fq K H a p)(hl:H l=some (.lst xs)):Fq K (L2.upd H l o) a p:=by
 rcases h with (h | ⟨u,h⟩) | h
 ·exact .inl (.inl (by rw[aW (kI h hl (fun z=>by cases z))];exact h))
 ·exact .inl (.inr ⟨u,by rw[aW (kI h hl (fun z=>by cases z))];exact h⟩)
 ·exact .inr h
theorem Fqs.upd {K:Frag}{H:Hp}{l:Addr}{ys:List V}{o:HO}(hl:H l=some (.lst ys)):∀{xs:List V} {ps:List Q2},Fqs K H xs ps->Fqs K (L2.upd H l o) xs ps
 |_,_,.nil=>.nil
 |_,_,.cons h q=>.cons (h.upd hl) (Fqs.upd hl q)
theorem aT.change {H H':Hp}{l:Addr}{o:HO}(s:aT H H')(h:H l=none):aT H (L2.upd H' l o):=fun b u q=>by
 rw[aW (bC q h)];exact s b u q
def qd (p:Q2):PyData:=.tuple [.int p.1,.int p.2]
theorem Fq.dat {K:Frag}{H:Hp}{a:Addr}{p:Q2}(h:Fq K H a p):lL K H (.ref a) (qd p):=.tup h (.cons (.int _) (.cons (.int _) .nil))
theorem Mf (p:Q2):(qd p).canLay0=true:=rfl
theorem Qe (p:Q2):(qd p).depth<=1:=by simp[qd,PyData.depth,PyData.depthAll]
theorem Wj (p q:Q2):PyData.eqv (qd p) (qd q)=decide (p=q):=by
 unfold qd;simp only[PyData.eqv,PyData.eqvAll]
 by_cases h:p=q
 ·subst h;simp
 ·rw[decide_eq_false h]
  by_cases h1:p.1=q.1
  ·have h2:p.2≠q.2:=fun z=>h (Prod.ext h1 z);simp[h2]
  ·simp[h1]
theorem Ni {K:Frag}{H:Hp}{a b:Addr}{p q:Q2}{neg:Bool}{Q:VK}(h1:Fq K H a p)(h2:Fq K H b q)(z:Q (.bl (if neg then !decide (p=q) else decide (p=q))) H):Kw K neg (.ref a) (.ref b) H Q:=by
 refine⟨_,_,h1.dat,h2.dat,Mf p,Mf q,?_,?_⟩
 ·have:=Qe p;lia
 ·rw[Wj];exact z
abbrev Fv (nl:Nat)(fr:List Nat)(g:TG)(tt:TT)(te:TE)(σ:St)(D:Addr)(Pv:Nat->List V->Hp->Prop)(i:Nat)(ys:List V)(x:V)(H:Hp):Prop:=
 g x (σC nl fr σ) H fun σ2 H4=>σ2.length=(σC nl fr σ).length/\(∀(i:Nat) v,(σC nl fr σ)[i]?=some (some v)->σ2[i]?=some (some v))/\
  tt σ2 H4 fun b H5=>if b=true then te σ2 H5 fun y H6=>H6 D=some (.lst ys)/\ys.length < sizeLine/\Pv (i+1) (ys++[y]) (upd H6 D (.lst (ys++[y]))) else Pv (i+1) ys H5
section
variable {nl:Nat} {fr:List Nat} {g:TG} {tt:TT} {te:TE} {σ:St} {D:Addr} {H1:Hp} {Q:VK}
theorem tJ {lo:Int}{n:Nat}(Pv:Nat->List V->Hp->Prop)(h0:Pv 0 [] (upd H1 D (.lst [])))(hl:∀i ys H,Pv i ys H->H D=some (.lst ys))(hs:∀i ys H,i < n->Pv i ys H->∀(C:Nat->List V->Hp->Prop),(∀ys H,Pv (i+1) ys H->C (i+1) ys H)->Fv nl fr g tt te σ D C i ys (.int (lo+i)) H)(hd:∀ys H,Pv n ys H->Q (.ref D) H) :
  Ay (Itr lo n) nl fr g tt te σ D H1 Q:=by
 refine⟨fun i m ys H=>m=n - i/\i<=n/\Pv i ys H,⟨n,by simp,Nat.zero_le _,h0⟩,?_⟩;rintro i m ys H ⟨rfl,hi,p⟩;refine⟨hl i ys H p,?_⟩
 by_cases hlt:i < n
 ·refine .inr ⟨hlt,fun x H' y=>?_⟩;obtain⟨e,y⟩:=y;subst e y;exact hs i ys _ hlt p (fun j zs Hz=>∃m',m' < n - i/\m'=n - j/\j<=n/\Pv j zs Hz) fun zs Hz z=>⟨n - (i+1),by lia,rfl,hlt,z⟩
 ·have e:i=n:=by lia
  subst e;exact .inl ⟨Nat.le_refl _,hd ys H p⟩
theorem cZ {K:Frag}{a:Addr}{xs:List V}(Pv:Nat->List V->Hp->Prop)(h0:Pv 0 [] (upd H1 D (.lst [])))(hl:∀i ys H,Pv i ys H->H D=some (.lst ys))(hx:∀i ys H,i<=xs.length->Pv i ys H->SqL K H a xs)(hs:∀i ys x H,xs[i]?=some x->Pv i ys H->∀(C:Nat->List V->Hp->Prop),(∀ys H,Pv (i+1) ys H->C (i+1) ys H)->Fv nl fr g tt te σ D C i ys x H)(hd:∀ys H,Pv xs.length ys H->Q (.ref D) H) :
  Ay (Itl K a) nl fr g tt te σ D H1 Q:=by
 refine⟨fun i m ys H=>m=xs.length - i/\i<=xs.length/\Pv i ys H,⟨xs.length,by simp,Nat.zero_le _,h0⟩,?_⟩;rintro i m ys H ⟨rfl,hi,p⟩;refine⟨hl i ys H p,?_⟩;have q:=hx i ys H hi p
 by_cases hlt:i < xs.length
 ·refine .inr ⟨⟨xs,xs[i],q,by simp[hlt]⟩,fun x H' y=>?_⟩;obtain⟨e,y⟩:=y;subst e;exact hs i ys x _ (y xs q) p (fun j zs Hz=>∃m',m' < xs.length - i/\m'=xs.length - j/\j<=xs.length/\Pv j zs Hz) fun zs Hz z=>⟨xs.length - (i+1),by lia,rfl,hlt,z⟩
 ·have e:i=xs.length:=by lia
  subst e;exact .inl ⟨⟨xs,q,Nat.le_refl _⟩,hd ys H p⟩
end
theorem dC {fr:List Nat}{σ:St}{x:V}:((σC 1 fr σ).set 0 (some x)).length=(σC 1 fr σ).length/\∀(i:Nat) v,(σC 1 fr σ)[i]?=some (some v)->((σC 1 fr σ).set 0 (some x))[i]?=some (some v):=by
 refine⟨by simp,fun i v h=>?_⟩
 match i with
 |0=>unfold σC at h;simp at h
 |k+1=>rw[getElem?_set_ne (by lia)];exact h
theorem dU {names:List (Str × NameKind)}{cl:List (Str × Addr)}(h:names.all (fun y=>!(y.2 == .cell || y.2 == .free) || (cl.lookup y.1).isSome)=true)(x:Str)(hx:names.lookup x=some .cell\/names.lookup x=some .free):∃c,cl.lookup x=some c:=by
 have key:∀k,(k=NameKind.cell\/k=NameKind.free)->names.lookup x=some k->∃c,cl.lookup x=some c:=fun k hk e=>by
  have m:=all_eq_true.mp h _ (PySem.mem_of_lookup e);have:(k == NameKind.cell || k == NameKind.free)=true:=by rcases hk with rfl | rfl<;>rfl
  simp only[this,Bool.not_true,Bool.false_or] at m;exact Option.isSome_iff_exists.mp m
 rcases hx with e | e
 ·exact key _ (.inl rfl) e
 ·exact key _ (.inr rfl) e
section
variable {X:Cx} {pins:List (Addr × Obj)} {σ:St} {H:Hp} {s:Shared} {h':Heap}
theorem Inv.turnedL {t':Nat}{fp:List Addr}(I:Inv X pins σ H s)(k:∀b o,b∉fp->s.heap.get? b=some o->h'.get? b=some o)(hf:∀b∈fp,kY X pins H b):Inv X pins σ H { s with heap:=h',toks:=t' }:=by
 have nit:∀b u,H b=some u->b∉fp:=fun b u e z=>by rw[(hf b z).1] at e;cases e
 have nL:X.env.locals∉fp:=fun z=>(hf _ z).2.1 rfl;refine I.step (g':=s.gens) (d':=s.drawn) (ch:=fp) (fun b hb=>?_) (fun b o _ _ hc e _=>k b o hc e) (fun b o _ _ hc e _=>⟨o.slots,k b o hc e⟩) (fun _ _ _ _ n=>n)
  (fun b o hc e=>⟨o,k b o hc e⟩) (fun _ _ e=>e) (fun _ _ _ e=>e) (fun b ps e=>⟨#[],by rw[e];simp⟩) (fun m hm=>?_) (fun b u e=>?_) I.bare
 ·obtain⟨f0,f1,f2,f3,f4,f5⟩:=hf b hb;exact⟨f3,f1,f4,f5⟩
 ·obtain⟨o,es,ep,ho,r⟩:=hm;exact⟨o,es,ep,k _ o nL ho,r⟩
 ·refine(I.hok b u e).stay (fun c v hc q=>k c v ?_ q) (fun _ q=>q) fun _ _ q=>q;rcases hc with z | z
  ·rw[z];exact nit b u e
  ·exact nit c _ z
end
def Itz (K : Frag)(a b : Addr) : It :=
  ⟨fun i H => ∃ xs ys x y, SqL K H a xs /\ SqL K H b ys /\ xs[i]? = some x /\ ys[i]? = some y,
   fun i H v H' => ∃ T x y, v = .ref T /\ H T = none /\ H' = upd H T (.tup [x, y]) /\ ∀ xs ys, SqL K H a xs -> SqL K H b ys -> xs[i]? = some x /\ ys[i]? = some y,
   fun i H => ∃ xs ys, SqL K H a xs /\ SqL K H b ys /\ (xs.length <= i \/ ys.length <= i)⟩
def qa6 (z TI TO i1 i2 l1 l2:Addr)(i:Nat)(h:Heap):Prop:=
 ZipApart z TI TO i1 i2 l1 l2/\IsZip h z TI TO .none/\IsPair h TI (.ref i1) (.ref i2)/\(∃a b,IsPair h TO a b)/\h.IsListIter i1 l1 i/\h.IsListIter i2 l2 i
theorem Mv {P:Program}{w:World}{K:Frag}{elts:List Expr}{kk:Nat}{tpos:Pos}(z TI TO i1 i2 l1 l2:Addr) :
  Jc P w K (.Tuple elts kk tpos) (Itz K l1 l2) [z,TI,TO,i1,i2] z (qa6 z TI TO i1 i2 l1 l2) where
 mem:=by simp
 obj:=fun i h st b hb=>by
  obtain⟨ap,hz,hi,⟨a,c,ho⟩,⟨o1,e1,c1,d1⟩,⟨o2,e2,c2,d2⟩⟩:=st;simp only[mem_cons,not_mem_nil,or_false] at hb;rcases hb with rfl | rfl | rfl | rfl | rfl
  ·exact⟨_,hz,fun v q=>by cases q⟩
  ·exact⟨_,hi,fun v q=>by cases q⟩
  ·exact⟨_,ho,fun v q=>by cases q⟩
  ·exact⟨o1,e1,fun v q=>by rw[d1] at q;cases q⟩
  ·exact⟨o2,e2,fun v q=>by rw[d2] at q;cases q⟩
 keep:=fun i h h' st k=>by
  obtain⟨ap,hz,hi,⟨a,c,ho⟩,⟨o1,e1,c1,d1⟩,⟨o2,e2,c2,d2⟩⟩:=st;exact⟨ap,k _ (by simp) _ hz,k _ (by simp) _ hi,⟨a,c,k _ (by simp) _ ho⟩,⟨o1,k _ (by simp) _ e1,c1,d1⟩,⟨o2,k _ (by simp) _ e2,c2,d2⟩⟩
 item:=by
  intro X hP hw hK hc i pins s σ H E I hf st hg;subst hP hw hK;obtain⟨ap,hz,hi,⟨a,c,ho⟩,t1,t2⟩:=st;obtain⟨xs,ys,x,y,hx,hy,ex,ey⟩:=hg;obtain⟨its1,rv1,p1,z1⟩:=I.list hx;obtain⟨its2,rv2,p2,z2⟩:=I.list hy;obtain⟨u1,hu1,ru1⟩:=rv1.get ex;obtain⟨u2,hu2,ru2⟩:=rv2.get ey;refine wpAny_pyNext_zip_item ap hz hi ho t1 t2 p1.isList p2.isList (x:=u1) (y:=u2) (by simpa using hu1) (by simpa using hu2) fun h' g1 g2 g3 g4 g5 g6 kk'=>?_;have hn:H s.heap.objs.size=none:=I.hok.fresh (Nat.le_refl _);have lt:∀b∈[z,TI,TO,i1,i2],b < s.heap.objs.size:=fun b hb=>by
   simp only[mem_cons,not_mem_nil,or_false] at hb;obtain⟨o1,e1,_⟩:=t1;obtain⟨o2,e2,_⟩:=t2;rcases hb with rfl | rfl | rfl | rfl | rfl
   ·exact Heap.lt_size hz
   ·exact Heap.lt_size hi
   ·exact Heap.lt_size ho
   ·exact Heap.lt_size e1
   ·exact Heap.lt_size e2
  have I1:Inv X pins σ (upd H s.heap.objs.size (.tup [x,y])) { s with heap:=s.heap.push { cls:=.type "tuple",data:=.seq #[u1,u2] } }:=
   I.laid (t':=s.toks) (fun b o e=>Heap.get?_push_of_some _ e) (Nat.le_refl _) (show dL X.prog X.w _ _ _ (.tup [x,y]) from ⟨zl9 2,[u1,u2],.cons ru1 (.cons ru2 .nil),IsTup.new _ _⟩)
  have hf1:∀b∈[z,TI,TO,i1,i2],kY X pins (upd H s.heap.objs.size (.tup [x,y])) b:=fun b hb=>⟨by rw[aW (Nat.ne_of_lt (lt b hb))];exact(hf b hb).1,(hf b hb).2⟩
  have k1:∀b o,b∉[z,TI,TO,i1,i2]->(s.heap.push { cls:=.type "tuple",data:=.seq #[u1,u2] }).get? b=some o->h'.get? b=some o:=fun b o nb e=>by
   simp only[mem_cons,not_mem_nil,or_false,not_or] at nb
   by_cases hb:b=s.heap.objs.size
   ·subst hb;rw[Heap.get?_push_size _ rfl] at e
    cases e
    exact g5
   ·have e0:s.heap.get? b=some o:=by rw[Heap.get?_push_ne _ _ _ hb] at e;exact e
    exact kk' b o nb.1 nb.2.2.1 nb.2.2.2.1 nb.2.2.2.2 e0
  have I2:Inv X pins σ (upd H s.heap.objs.size (.tup [x,y])) { s with heap:=h',toks:=s.toks }:=I1.turnedL (t':=s.toks) k1 hf1;refine⟨_,rfl,wpAny_letOwnedTupleGo_zip (s:={ s with heap:=h' }) g1 fun h2 q1 q2=>?_⟩;have kz:∀b o,b≠z->h'.get? b=some o->h2.get? b=some o:=fun b o nb e=>(q2.2 b nb).trans e;have I3:Inv X pins σ (upd H s.heap.objs.size (.tup [x,y])) { s with heap:=h2,toks:=s.toks }:=Inv.turnedL (s:={ s with heap:=h',toks:=s.toks }) (t':=s.toks) (fp:=[z]) I2 (fun b o nb e=>kz b o (by simpa using nb) e) fun b hb=>hf1 b (by simp at hb;simp[hb]);have hTI:h'.get? TI=some { cls:=.type "tuple",data:=.seq #[.ref i1,.ref i2] }:=kk' TI _ ap.TIz ap.TITO ap.TIi1 ap.TIi2 hi;obtain⟨o3,e3,c3,d3⟩:=g3;obtain⟨o4,e4,c4,d4⟩:=g4;refine⟨.ref s.heap.objs.size,_,I3,rfl,⟨_,x,y,rfl,hn,rfl,fun xs' ys' h1 h2=>?_⟩,⟨ap,q1,kz _ _ ap.TIz hTI,⟨_,_,kz _ _ ap.TOz g2⟩,⟨o3,kz _ _ ap.i1z e3,c3,d3⟩,⟨o4,kz _ _ ap.i2z e4,c4,d4⟩⟩,fun b hb=>(hf1 b hb).1⟩;rw[I.list_inj h1 hx,I.list_inj h2 hy];exact⟨ex,ey⟩
 done:=by
  intro X hP hw hK hc i pins s σ H E I hf st hg;subst hP hw hK;obtain⟨ap,hz,hi,⟨a,c,ho⟩,t1,t2⟩:=st;obtain⟨xs,ys,hx,hy,hor⟩:=hg;obtain⟨its1,rv1,p1,z1⟩:=I.list hx;obtain⟨its2,rv2,p2,z2⟩:=I.list hy;have l1':=rv1.length;have l2':=rv2.length;refine wpAny_pyNext_zip_end (I.ok.hd hc) ap hz hi ho t1 t2 p1.isList p2.isList (by rcases hor with h | h;left;simp;lia;right;simp;lia) fun h' kk'=>⟨rfl,?_⟩
  refine I.turnedL (t':=s.toks) (fun b o nb e=>?_) hf;simp only[mem_cons,not_mem_nil,or_false,not_or] at nb;exact kk' b o nb.1 nb.2.2.1 nb.2.2.2.1 nb.2.2.2.2 e
 self:=fun A i s Q E st h=>by
  obtain⟨ap,hz,hi,⟨a,c,ho⟩,t1,t2⟩:=st;exact wpAny_pyIter_zip hz h
section
variable {X:Cx}
def qi2 (K:Frag)(ta:TA):TI:=fun σ H R=>ta σ H fun vs H1=>∃a b,vs=[.ref a,.ref b]/\(∃xs,SqL K H1 a xs)/\(∃ys,SqL K H1 b ys)/\R (Itz K a b) H1
theorem Ms {e1 e2:Expr}{ta:TA}{p pos:Pos}{elts:List Expr}{kk:Nat}{tpos:Pos}(hg:Gl X "zip")(hm:X.mg "zip"=none)(hv:bootBuiltins "zip"=some (.type "zip"))(ha:PA X [e1,e2] ta)(hs:starEach [e1,e2] X.env=(false,eval e1 X.env) :: starEach [e2] X.env:=by rfl)(hpl:(backTo pos (starEach [e2] X.env)).any (·.1)=false:=by rfl):PI X (.Tuple elts kk tpos) (.Call (.Name "zip" p) [e1,e2] [] pos) (qi2 X.K ta):=by
 intro pins s σ H R I h;refine Call_ (jD I hg hm hv (PyProof.Rows.callWith_type1 (thn (ha pos pins s σ H _ I h) fun us s1 ⟨vs,H1,I1,r1,q1⟩=>?_) hs hpl));obtain⟨a,b,rfl,⟨xs,hx⟩,⟨ys,hy⟩,q⟩:=q1;obtain⟨u,w',rfl,ra,rb⟩:=Gc r1
 cases (show u=Value.ref a from ra)
 cases (show w'=Value.ref b from rb)
 obtain⟨its1,rv1,p1,z1⟩:=I1.list hx;obtain⟨its2,rv2,p2,z2⟩:=I1.list hy;have la:a < s1.heap.objs.size:=by obtain⟨o,e,_⟩:=p1.isList;exact Heap.lt_size e
 have lb:b < s1.heap.objs.size:=by obtain⟨o,e,_⟩:=p2.isList;exact Heap.lt_size e
 refine call_zip_2 p1.isList p2.isList fun h' g1 g2 g3 g4 g5 g6 kk'=>?_;refine wpAny_pyIter_zip g1 ?_;have ne:∀i j:Nat,i≠j->s1.heap.objs.size+i≠s1.heap.objs.size+j:=fun i j n e=>n (Nat.add_left_cancel e);have nl:∀(c:Addr) (i:Nat),c < s1.heap.objs.size->c≠s1.heap.objs.size+i:=fun c i l e=>absurd (Nat.lt_of_lt_of_le l (Nat.le_add_right _ i)) (by rw[<- e];exact Nat.lt_irrefl _);have n0:∀j:Nat,j≠0->s1.heap.objs.size+j≠s1.heap.objs.size:=fun j n e=>n (Nat.add_left_cancel (e.trans (Nat.add_zero _).symm));refine⟨s1.heap.objs.size+4,[s1.heap.objs.size+4,s1.heap.objs.size+2,s1.heap.objs.size+3,s1.heap.objs.size,s1.heap.objs.size+1],_,Itz X.K a b,H1,rfl,I1.kept (t':=s1.toks) kk',Mv _ _ _ _ _ a b,⟨?_,g1,g2,⟨_,_,g3⟩,g4,g5⟩,fun c hc=>?_,q⟩
 ·exact⟨ne 2 4 (by decide),ne 3 4 (by decide),(n0 4 (by decide)).symm,ne 1 4 (by decide),ne 2 3 (by decide),n0 2 (by decide),ne 2 1 (by decide),n0 3 (by decide),ne 3 1 (by decide),(n0 1 (by decide)).symm,
   nl a 4 la,nl a 3 la,Nat.ne_of_lt la,nl a 1 la,nl b 4 lb,nl b 3 lb,Nat.ne_of_lt lb,nl b 1 lb⟩
 ·have hle:s1.heap.objs.size<=c:=by
   simp only[mem_cons,not_mem_nil,or_false] at hc;rcases hc with rfl | rfl | rfl | rfl | rfl<;>first | exact Nat.le_add_right _ _ | exact Nat.le_refl _
  exact I1.fpOk hle (I1.hok.fresh hle)
theorem Am {K:Frag}{a b:Addr}{xs ys:List V}{nl:Nat}{fr:List Nat}{g:TG}{tt:TT}{te:TE}{σ:St}{D:Addr}{H1:Hp}{Q:VK}(Pv:Nat->List V->Hp->Prop)(h0:Pv 0 [] (upd H1 D (.lst [])))(hl:∀i zs H,Pv i zs H->H D=some (.lst zs))(hx:∀i zs H,i<=min xs.length ys.length->Pv i zs H->SqL K H a xs/\SqL K H b ys)(hs:∀i zs x y H T,xs[i]?=some x->ys[i]?=some y->Pv i zs H->H T=none->∀(C:Nat->List V->Hp->Prop),(∀zs H,Pv (i+1) zs H->C (i+1) zs H)->Fv nl fr g tt te σ D C i zs (.ref T) (upd H T (.tup [x,y])))(hd:∀zs H,Pv (min xs.length ys.length) zs H->Q (.ref D) H) :
  Ay (Itz K a b) nl fr g tt te σ D H1 Q:=by
 refine⟨fun i m zs H=>m=min xs.length ys.length - i/\i<=min xs.length ys.length/\Pv i zs H,⟨_,rfl,Nat.zero_le _,h0⟩,?_⟩;rintro i m zs H ⟨rfl,hi,p⟩;refine⟨hl i zs H p,?_⟩;obtain⟨qx,qy⟩:=hx i zs H hi p
 by_cases hlt:i < min xs.length ys.length
 ·have hx':i < xs.length:=by lia
  have hy':i < ys.length:=by lia
  refine .inr ⟨⟨xs,ys,xs[i],ys[i],qx,qy,by simp[hx'],by simp[hy']⟩,fun v H' z=>?_⟩;obtain⟨T,x,y,rfl,hT,rfl,hh⟩:=z;obtain⟨ex,ey⟩:=hh xs ys qx qy;exact hs i zs x y H T ex ey p hT (fun j zs Hz=>∃m',m' < min xs.length ys.length - i/\m'=min xs.length ys.length - j/\j<=min xs.length ys.length/\Pv j zs Hz) fun zs Hz z=>⟨min xs.length ys.length - (i+1),by lia,rfl,hlt,z⟩
 ·have e:i=min xs.length ys.length:=by lia
  subst e;exact .inl ⟨⟨xs,ys,qx,qy,by lia⟩,hd zs H p⟩
def Sf:V->List V->Hp->VK->Prop:=fun x vs H Q=>∃(l:Addr) (xs:List V) (k:Nat) (i:Int) (y:V),x=.ref l/\vs=[.int i,y]/\i=(k:Int)/\k<=xs.length/\H l=some (.lst xs)/\xs.length < sizeLine/\Q .non (upd H l (.lst (xs.take k++y :: xs.drop k)))
theorem Jd:MtM X "list.insert" Sf:=by
 intro pins s σ H x vs v us Q I rx rv h;obtain⟨l,xs,k,i,y,rfl,rfl,hik,hk,hH,hz,q⟩:=h
 cases rx
 obtain⟨u1,u2,rfl,⟨t,rfl⟩,ru⟩:=Gc rv;obtain⟨z,its,n,r,hl,e⟩:=I.lstM hH;have hs:sizeLine=16777216:=sizeLine_eq;have hfit:¬(!Builtin.List.listFitsIndex i)=true:=by
  rw[fitsIndex_both (by lia) (by lia)];exact Bool.false_ne_true
 have hM:=AutoSeq1.list_insert_list_int_val_1 l its.toArray n i t u2 hfit (by rw[size_toArray];lia);refine call_meets F.slot_list_insert ⟨_,e,rfl⟩ F.entry_list_insert (F.args_list_insert_3 (Value.ref l) (Value.int i t) u2) hM ⟨e,?_⟩;refine⟨.non,_,I.lset (its':=its.take k++u2 :: its.drop k) hH e ?_ ((r.take k).append (.cons ru (r.drop k))) ?_,rfl,q⟩
 ·have ek:(if i < 0 then (i+(its.toArray.size:Int)).toNat else min i.toNat its.toArray.size)=k:=by
   rw[if_neg (by lia),size_toArray];lia
  show (its.toArray.extract 0 (if i < 0 then (i+(its.toArray.size:Int)).toNat else min i.toNat its.toArray.size)).push u2++its.toArray.extract (if i < 0 then (i+(its.toArray.size:Int)).toNat else min i.toNat its.toArray.size)=_;rw[ek];apply Array.ext';simp[take_of_length_le]
 ·rw[List.length_append,length_cons,length_take,length_drop];lia
end
abbrev TH:=Addr->Value->Option Addr->lY->St->Hp->Prop
end L2
namespace Mq
theorem pI {p q:Q2}(hp:1<=p.2)(hq:1<=q.2):Low (minus p q):=gE (gH hp hq)
theorem uW {p q:Q2}(hp:1<=p.2)(hq:1<=q.2):Low (tO p q):=gE (gH hp hq)
theorem oO {p q:Q2}(hp:1<=p.2)(hq:q.1≠0):p.2*q.1≠0:=Int.mul_ne_zero (by lia) hq
theorem sH {p q:Q2}(hp:1<=p.2)(hq:q.1≠0):Low (pY p q):=gE (oO hp hq)
theorem Oe {n m:Nat}{p q:Q2}(h:Bd n p)(g:Bd m q)(hp:1<=p.2)(hq:1<=q.2):Bd (n+m+1) (minus p q):=by
 have k:=lP (t:=p.1*q.2 - q.1*p.2) (gH hp hq);have a2:B (n+m) (q.1*p.2):=by rw[Nat.add_comm];exact g.a.mul h.b
 exact⟨((h.a.mul g.b).sub a2).le k.1,((h.b.mul g.b).mono (Nat.le_succ _)).le k.2⟩
theorem xF {n m:Nat}{p q:Q2}(h:Bd n p)(g:Bd m q)(hp:1<=p.2)(hq:q.1≠0):Bd (n+m) (pY p q):=by
 have k:=lP (t:=p.1*q.2) (oO hp hq);exact⟨(h.a.mul g.b).le k.1,(h.b.mul g.a).le k.2⟩
end Mq
open Mq (oO pI sH uW xF)
namespace L2
open PySem PySem.Spec PyProof.Rows
def Gy (K:Frag):Sp:=fun vs H Q _=>∃(a b:Addr) (p q:Q2) (n m:Nat),vs=[.ref a,.ref b]/\Fq K H a p/\Fq K H b q/\Bd n p/\Bd m q/\n+m+1<=9000/\Q (.bl (decide (p.1*q.2 < q.1*p.2))) H
inductive TyQ (K:Frag) (H:Hp):V->Value->Prop where
 |of {x:V} {t:Value} (h:kX K H x t):TyQ K H x t
 |tup {a:Addr} {xs:List V} (h:SqT K H a xs):TyQ K H (.ref a) (.type "tuple")
 |lst {a:Addr} {xs:List V} (h:SqL K H a xs):TyQ K H (.ref a) (.type "list")
section
variable {X:Cx} {pins:List (Addr × Obj)} {σ:St} {H:Hp} {s:Shared} {A:Around} {E:Value->Shared->Prop} {Q:Value->Shared->Prop} {c:Value} {b:Bool}
theorem Ef {x:V}{u t:Value}(I:Inv X pins σ H s)(rx:bU x u)(ty:TyQ X.K H x t)(e:W.kitOne X.K t c=some b)(h:∀tk,Q (.bool b) { s with toks:=tk }) :
  wpAny (model X.prog X.w) A (call (.builtin "isinstance") [u,c]) Q E s:=by
 cases ty with
 |of ty=>exact Iv I rx ty e h
 | @tup a xs ht=>
  cases (show u=Value.ref a from rx)
  obtain⟨its,_,p,_⟩:=I.tuple ht;obtain⟨o,h1,h2,_⟩:=p;exact W.kia_one W.kitx_tuple I.kIn ⟨o,h1,h2⟩ e (fun z=>nomatch z) h
 | @lst a xs ht=>
  cases (show u=Value.ref a from rx)
  obtain⟨its,_,p,_⟩:=I.list ht;obtain⟨o,h1,h2,_⟩:=p.isList;exact W.kia_one W.kitx_list I.kIn ⟨_,h1,h2⟩ e (fun z=>nomatch z) h
end
section
variable {X:Cx}
theorem Hd:pS X (.builtin "isinstance") (fun xs H Q=>∃x n t b,xs=[x,.ty n]/\TyQ X.K H x t/\W.kitOne X.K t (.type n)=some b/\Q (.bl b) H):=by
 intro pins s σ H vs us Q I rv h;obtain⟨x,n,t,b,rfl,ty,e,q⟩:=h;obtain⟨u,u2,rfl,r1,r2⟩:=Gc rv
 cases (show u2=Value.type n from r2)
 exact Ef I r1 ty e fun tk=>⟨.bl b,H,I.tok tk,rfl,q⟩
theorem gU {i:Nat}{x T:Str}{T':String}{p1 p2 p3 pos:Pos}(hN:X.N[i]?=some x)(hv:Vis X.env.scope x)(b:X.mg "isinstance"=none)(b2:X.mg T=none)(g1:Gl X "isinstance")(g2:Gl X T)(hT:bootBuiltins T=some (.type T'))(hd:(x == ("__debug__":Str))=false:=by decide)(hcd:(x == ("__classdict__":Str))=false:=by decide)(hTn:T≠"__name__":=by decide)(hTd:(T == ("__debug__":Str))=false:=by decide)(he:starEach [.Name x p2,.Name T p3] X.env=(false,eval (.Name x p2) X.env) :: starEach [.Name T p3] X.env:=by rfl)(he2:starEach [.Name T p3] X.env=(false,eval (.Name T p3) X.env) :: starEach [] X.env:=by rfl)(hpl:(backTo pos (starEach [.Name T p3] X.env)).any (·.1)=false:=by rfl) :
  PE X (.Call (.Name "isinstance" p1) [.Name x p2,.Name T p3] [] pos) (fun σ H Q=>∃v t b,σ[i]?=some (some v)/\TyQ X.K H v t/\W.kitOne X.K t (.type T')=some b/\Q (.bl b) H):=by
 have h:=bO (X:=X) (pos:=pos) (p:=p1) Hd g1 b PyProof.Rows.boot_isinstance (aA (Oa (i:=i) (pos:=p2) hN hv hd hcd) (aA (Su (v:=.ty T') (pos:=p3) g2 b2 hT rfl hTn hTd) aC he2) he) (by decide) (by decide) he hpl;intro pins s σ H Q I q;obtain⟨v,t,bb,h1,h2,h3,h4⟩:=q;exact h pins s σ H Q I ⟨v,h1,v,T',t,bb,rfl,h2,h3,h4⟩
end
theorem SqT.upd {K:Frag}{H:Hp}{a l:Addr}{xs ys:List V}{o:HO}(h:SqT K H a xs)(hl:H l=some (.lst ys)):SqT K (L2.upd H l o) a xs:=by
 rcases h with (h | ⟨u,h⟩) | h
 ·exact .inl (.inl (by rw[aW (kI h hl (fun z=>by cases z))];exact h))
 ·exact .inl (.inr ⟨u,by rw[aW (kI h hl (fun z=>by cases z))];exact h⟩)
 ·exact .inr h
theorem oK {K:Frag}{H:Hp}:∀ns:List Int,oA K H (ns.map V.int) (ns.map PyData.int)
 | []=>.nil
 |n :: r=>.cons (.int n) (oK r)
theorem jT:∀ns:List Int,PyData.canLayAll0 (ns.map PyData.int)=true
 | []=>rfl
 |n :: r=>by
  show ((PyData.int n).canLay0 && PyData.canLayAll0 (r.map PyData.int))=true;rw[jT r];rfl
theorem Az (ns:List Int)(lo hi:Option Int):∃ms:List Int,kW (ns.map V.int) lo hi=ms.map V.int/\ms.length<=ns.length:=by
 refine⟨(ns.drop (HT.sIx (ns.map V.int).length 0 lo)).take (HT.sIx (ns.map V.int).length (ns.map V.int).length hi - HT.sIx (ns.map V.int).length 0 lo),?_,?_⟩
 ·unfold kW;rw[map_take,map_drop]
 ·rw[length_take,length_drop];lia
theorem Bb {K:Frag}{H:Hp}{a b:Addr}{ns:List Int}{neg:Bool}{Q:VK}(h1:SqL K H a (ns.map V.int))(h2:SqL K H b [])(z:Q (.bl (if neg then !ns.isEmpty else ns.isEmpty)) H):Kw K neg (.ref a) (.ref b) H Q:=by
 refine⟨_,_,.lst h1 (oK ns),.lst h2 .nil,jT ns,rfl,?_,?_⟩
 ·have:(PyData.list []).depth<=1:=by decide
  lia
 ·cases ns<;>exact z
theorem lG {fr:List Nat}{σ:St}{x y:V}:(((σC 2 fr σ).set 0 (some x)).set 1 (some y)).length=(σC 2 fr σ).length/\∀(i:Nat) v,(σC 2 fr σ)[i]?=some (some v)->(((σC 2 fr σ).set 0 (some x)).set 1 (some y))[i]?=some (some v):=by
 refine⟨by simp,fun i v h=>?_⟩
 match i with
 |0=>unfold σC at h;simp at h
 |1=>unfold σC at h;simp at h
 |k+2=>rw[getElem?_set_ne (by lia),getElem?_set_ne (by lia)];exact h
theorem Fqs.set {K:Frag}{H:Hp}{a:Addr}{p:Q2}(h:Fq K H a p):∀{xs:List V} {ps:List Q2} (i:Nat),Fqs K H xs ps->Fqs K H (xs.set i (.ref a)) (ps.set i p)
 |_,_,_,.nil=>.nil
 |_,_,0,.cons _ q=>.cons h q
 |_,_,i+1,.cons g q=>.cons g (Fqs.set h i q)
theorem Fqs.at {K:Frag}{H:Hp}:∀{xs:List V} {ps:List Q2} {i:Nat} {p:Q2},Fqs K H xs ps->ps[i]?=some p->∃a,xs[i]?=some (.ref a)/\Fq K H a p
 |_,_,_,_,.nil,h=>by simp at h
 |_,_,0,_,.cons h _,e=>by simp at e;subst e;exact⟨_,rfl,h⟩
 |_,_,i+1,_,.cons _ q,e=>by simpa using Fqs.at q (by simpa using e)
theorem uL {n:Nat}{i:Int}(lo:-(2 ^ n:Int) < i)(hi:i < 2 ^ n):Mq.B n i:=by
 unfold Mq.B;have e:((2 ^ n:Nat):Int)=2 ^ n:=by simp
 lia
theorem yO (X:Cx):∀l:List (Int × _ × Pos),PA X (l.map fun q=>Expr.Constant (.int q.1) q.2.1 q.2.2) (fun _ H Q=>Q (l.map fun q=>V.int q.1) H)
 | []=>aC
 |q :: l=>aA (te:=tC (.int q.1)) aE (yO X l) rfl
theorem qZ {n k:Nat}(h:k < n):ixN n (k:Int)=some k:=by
 unfold ixN;rw[if_pos (by lia),if_pos (by lia)];simp
section
variable {X:Cx} {tg:Expr}
def qg8 (K:Frag):List V->Hp->VK->Prop:=fun xs H Q=>∃(p:Addr) (bs:List Bool),xs=[.ref p]/\SqL K H p (bs.map V.bl)/\Q (.bl (bs.all id)) H
theorem Pn (hc:X.calm=true):pS X (.builtin "all") (qg8 X.K):=by
 intro pins s σ H xs us Q I r h;obtain⟨p,bs,rfl,hq,q⟩:=h;obtain⟨u,rfl,rx⟩:=zX r
 cases rx
 obtain⟨its,rv,pl,hz⟩:=I.list hq;have hlen:its.toArray.size=bs.length:=by rw[size_toArray,<- rv.length,length_map]
 have hne:p≠s.heap.objs.size:=by
  obtain⟨o,e,_⟩:=pl.isList;exact Nat.ne_of_lt (Heap.lt_size e)
 refine call_all_walk (wpAny_pyIter_list pl.isList ?_);refine⟨s.heap.objs.size,_,_,_,_,_,fun i=>bs.getD i false,rfl,Walks.list (by exact I.ok.hd hc) s.heap.objs.size p hne its.toArray,⟨⟨_,Heap.get?_push_size _ rfl,rfl,rfl⟩,?_⟩,?_,?_⟩
 ·obtain⟨o,e,c⟩:=pl.isList;exact⟨o,Heap.get?_push_of_some _ e,c⟩
 ·intro i v s' Q' E' hv q';have hv':its[i]?=some v:=by simpa using hv
  have hi:i < its.length:=(List.getElem?_eq_some_iff.mp hv').1;have hb:(bs.map V.bl)[i]?=some (.bl (bs.getD i false)):=by
   rw[getElem?_map,getElem?_eq_getElem (by rw[<- hlen];simpa using hi)];simp[List.getD,getElem?_eq_getElem (show i < bs.length by rw[<- hlen];simpa using hi)]
  obtain⟨u,hu,ru⟩:=rv.get hb;have e:u=v:=by rw[hv'] at hu;cases hu;rfl
  subst e
  cases ru
  exact wpAny_truthy_bool q'
 ·intro h' tk kk;have e:(List.range its.toArray.size).all (fun i=>bs.getD i false)=bs.all id:=by
   rw[hlen,Bool.eq_iff_iff,all_eq_true,all_eq_true];constructor
   ·intro z b hb;obtain⟨i,hi,rfl⟩:=getElem_of_mem hb;have:=z i (mem_range.mpr hi);simpa[List.getD,getElem?_eq_getElem hi] using this
   ·intro z i hi;have hi':=mem_range.mp hi;have:=z bs[i] (getElem_mem hi');simpa[List.getD,getElem?_eq_getElem hi'] using this
  rw[e];refine⟨.bl _,H,I.kept (t':=tk) fun b o hb=>?_,rfl,q⟩;have hb2:b≠s.heap.objs.size:=Nat.ne_of_lt (Heap.lt_size hb);exact kk b o (by simpa using hb2) (Heap.get?_push_of_some _ hb)
end
def Vu {ι:Type}(C:ι->Addr)(m:Str)(sp:ι->Sp)(dvs:List V)(E:XK)(ta:TE)(t:TA):TE:=fun σ H Q=>ta σ H fun x H1=>∃i a dx fs,x=.ref a/\H1 a=some (.ins (C i) dx fs)/\fs.lookup m=none/\
 t σ H1 fun vs H2=>sp i (x :: (vs++dvs)) H2 Q E
section
variable {X:Cx} {ι:Type} {C f:ι->Addr} {fd:ι->FuncData} {sp:ι->Sp} {m:Str} {CX:CXT} {k:Nat} {ps:List Str} {ds:List Value} {dvs:List V} {E:XK} {o e:Expr} {es:List Expr} {ta:TE} {t:TA} {apos pos:Pos}
theorem fF {pl:Sem Bool}(he:PE X o ta)(c:∀i,Cls X.K (C i))(hm:∀i,fR X.K (C i) m (f i))(F:∀i,aM X.prog X.w X.K X.mg X.base CX k (f i) (fd i) ps (sp i))(hr:gC k X.A)(hb:∀i,aL X.K (fd i) ps ds)(hd:bQ dvs ds)(hx:kM CX X E)(ht:eval (.Call (.Attribute o m apos) [] [] pos) X.env=(do
   let ov <- eval o X.env
   standAt apos.atName
   let (f,first) <- holding [ov] (getMethod ov m pl)
   callWith pos f first (backTo pos (starEach [] X.env)) (backToKw pos (keywordEach [] X.env))):=by rfl) :
  PE X (.Call (.Attribute o m apos) [] [] pos) (Vu C m sp dvs E ta Yw):=by
 intro pins s σ H Q I h;refine W.methodCall_KW (pl:=pl) (thn (he pins s σ H _ I h) fun u s1 ⟨x,H1,I1,rx,i,a,dx,fs,ex,ea,l,q⟩=>?_) ht;subst ex;obtain rfl:u=Value.ref a:=rx;refine lV I1 ea (c i) (hm i) l ?_;exact W.callWith_K0 (first:=[.ref a]) I1.kIn (hm i).kp (yV (us:=[.ref a]) (vs:=[.ref a]) (F i) hr (hb i) hd hx I1 (.cons rfl .nil) q)
end
inductive Kd where
 |pc | pu | ho
 deriving DecidableEq
def Kd.wd:Kd->Str
 | .pc=>"piece"
 | .pu=>"push"
 | .ho=>"hold"
def Kd.cn:Kd->Str
 | .pc=>"Piece"
 | .pu=>"Push"
 | .ho=>"Hold"
theorem Kd.wd_inj {k j:Kd}(h:k.wd=j.wd):k=j:=by
 cases k<;>cases j<;>first | rfl | exact absurd h (by decide +kernel)
theorem fsg:¬(("start":Str) = "goal"):=by decide +kernel
theorem fsz:¬(("start":Str) = "size"):=by decide +kernel
theorem fgz:¬(("goal":Str) = "size"):=by decide +kernel
def iQ (s g z:V):List (Str × V):=iF "size" z (iF "goal" g (iF "start" s []))
theorem cY (s g z:V):(iQ s g z).lookup ("start":Str)=some s:=by
 unfold iQ;rw[bV,if_neg fsz,bV,if_neg fsg,bV,if_pos rfl]
theorem dP (s g z:V):(iQ s g z).lookup ("goal":Str)=some g:=by
 unfold iQ;rw[bV,if_neg fgz,bV,if_pos rfl]
theorem hZ (s g z:V):(iQ s g z).lookup ("size":Str)=some z:=by
 unfold iQ;rw[bV,if_pos rfl]
theorem eU (s g z:V){m:Str}(h1:¬m = "start")(h2:¬m = "goal")(h3:¬m = "size"):(iQ s g z).lookup m=none:=by
 unfold iQ;rw[bV,if_neg h3,bV,if_neg h2,bV,if_neg h1];rfl
def Rw (CK:Kd->Addr)(H:Hp)(x:Addr)(k:Kd)(s g z:V):Prop:=∃dx,H x=some (.ins (CK k) dx (iQ s g z))
theorem Rw.same {CK:Kd->Addr}{H H':Hp}{x:Addr}{k:Kd}{s g z:V}(e:aT H H')(h:Rw CK H x k s g z):Rw CK H' x k s g z:=let ⟨dx,q⟩:=h;⟨dx,e _ _ q⟩
theorem Rw.upd {CK:Kd->Addr}{H:Hp}{x l:Addr}{k:Kd}{s g z:V}{ys:List V}{o:HO}(h:Rw CK H x k s g z)(hl:H l=some (.lst ys)):Rw CK (L2.upd H l o) x k s g z:=let ⟨dx,q⟩:=h;⟨dx,by rw[aW (kI q hl (fun z=>by cases z))];exact q⟩
structure RT (K:Frag) (mg:Str->Option Value) (CR:Addr) (CK:Kd->Addr):Prop where
 cl:∀k,Cls K (CK k)
 nS:∀k,gX K (CK k) "start"
 nG:∀k,gX K (CK k) "goal"
 nZ:∀k,gX K (CK k) "size"
 t1:∀k,W.findIn K (.ref (CK k)) "__class__"=some (some (.builtin "object.__class__"))
 t2:W.specialIn K (.builtin "object.__class__") "__get__"=some (some (.builtin "getset_descriptor.__get__"))
 t3:W.takesIn K (.builtin "object.__class__")=some true
 t4:∀k,W.mroIn K (CK k) (.type "object")=some true
 isR:∀k,W.kitOne K (.ref (CK k)) (.ref CR)=some true
 isK:∀k j,W.kitOne K (.ref (CK k)) (.ref (CK j))=some (decide (k=j))
 mR:mg "Row"=some (.ref CR)
 mK:∀k,mg (Kd.cn k)=some (.ref (CK k))
section
variable {K:Frag} {mg:Str->Option Value} {CR:Addr} {CK:Kd->Addr} {H:Hp} {x:Addr} {k:Kd} {s g z:V}
theorem Rw.new {C x dx:Addr}{fs:List (Str × V)}(h1:H x=none)(h2:H dx=none)(ne:dx≠x):aT H (L2.upd (L2.upd H dx (.own x)) x (.ins C dx fs)):=fun b o e=>by
 rw[aW (bC e h1),aW (bC e h2)];exact e
end
def wU (CK:Kd->Addr):Sp:=fun vs H Q _=>∃(x dx:Addr) (k:Kd) (s g z:V),vs=[.ref x,s,g,z]/\H x=some (.ins (CK k) dx [])/\Q .non (upd H x (.ins (CK k) dx (iQ s g z)))
def jC (k:Kd):Sp:=fun vs H Q _=>∃x,vs=[x]/\Q (.str k.wd) H
def mV (k:Kd):Sp:=fun vs H Q _=>∃x,vs=[x]/\Q (.bl (decide (k≠.pu))) H
def xQ (CK:Kd->Addr):Sp:=fun vs H Q _=>∃(x:Addr) (k:Kd) (s g z:V),vs=[.ref x]/\Rw CK H x k s g z/\∀t,H t=none->Q (.ref t) (upd H t (.tup [.str k.wd,s,g,z]))
def qi9 (CK:Kd->Addr)(H:Hp)(Q:VK)(k:Kd)(s g z:V):Prop:=∀x H',aT H H'->H x=none->Rw CK H' x k s g z->Q (.ref x) H'
theorem ifT {c:Bool}{A B:Prop}(h:c=true)(x:A):if c=true then A else B:=by rw[if_pos h];exact x
theorem ifF {c:Bool}{A B:Prop}(h:c=false)(x:B):if c=true then A else B:=by rw[if_neg (by rw[h];decide)];exact x
theorem dY (k j:Kd):decide (V.str k.wd=V.str j.wd)=decide (k=j):=by
 by_cases h:k=j
 ·subst h;simp
 ·rw[decide_eq_false h];exact decide_eq_false fun z=>h (Kd.wd_inj (V.str.inj z))
theorem iU {p:Kd->Prop}(a:p .pc)(b:p .pu)(c:p .ho):∀k,p k:=fun k=>by cases k<;>assumption
theorem tU (K:Frag)(t:PySem.Value):PySem.W.kitOne K t t=some true:=by unfold PySem.W.kitOne;rw[if_pos (beq_self_eq_true _)]
def kd3 {α:Type}(a b c:α):Kd->α
 | .pc=>a
 | .pu=>b
 | .ho=>c
end L2
namespace Mq
def kB (ps:List Q2):Prop:=∀p∈ps,Low p
end Mq
open Mq (kB)
namespace L2
open PySem PySem.Spec PyProof.Rows
section
variable {κ:Type} [DecidableEq κ]
def nV (kvs:List (κ × V))(k:κ):Option V:=(kvs.find? fun kv=>decide (kv.1=k)).map (·.2)
def jW (kvs:List (κ × V))(k:κ)(v:V):List (κ × V):=
 if (kvs.any fun kv=>decide (kv.1=k))=true then kvs.map (fun kv=>if kv.1=k then (kv.1,v) else kv) else kvs++[(k,v)]
theorem mF {p:κ × V}{r:List (κ × V)}{k:κ}(e:p.1=k):nV (p :: r) k=some p.2:=by simp[nV,find?_cons,e]
theorem kK {p:κ × V}{r:List (κ × V)}{k:κ}(e:¬p.1=k):nV (p :: r) k=nV r k:=by simp[nV,find?_cons,e]
theorem Ax (k:κ):∀kvs:List (κ × V),(kvs.any fun kv=>decide (kv.1=k))=(nV kvs k).isSome
 | []=>rfl
 |p :: r=>by
  rw[any_cons]
  by_cases e:p.1=k
  ·simp only[mF e,decide_eq_true e,Bool.true_or,Option.isSome_some]
  ·rw[kK e,decide_eq_false e,Bool.false_or];exact Ax k r
theorem kG (kvs:List (κ × V))(k:κ)(v:V):(jW kvs k v).length<=kvs.length+1:=by
 unfold jW;split
 ·rw[length_map];lia
 ·rw[List.length_append,length_cons,length_nil];lia
theorem jN.isSome_eq {o:Option V}{u:Option Value}(r:jN o u):o.isSome=u.isSome:=by
 cases o with
 |none=>cases u with
  |none=>rfl
  |some _=>exact(show False from r).elim
 |some _=>cases u with
  |none=>exact(show False from r).elim
  |some _=>rfl
theorem jN.getD {o:Option V}{u:Option Value}{d:V}{d':Value}(r:jN o u)(rd:bU d d'):bU (o.getD d) (u.getD d'):=by
 cases o with
 |none=>cases u with
  |none=>exact rd
  |some _=>exact(show False from r).elim
 |some _=>cases u with
  |none=>exact(show False from r).elim
  |some _=>exact r
theorem KV.val {kvs:List (κ × V)}{vs:List (κ × Value)}(r:KV kvs vs)(k:κ):jN (nV kvs k) (valueAt vs k):=by
 unfold KV at r
 induction r with
 |nil=>exact True.intro
 | @cons p q ps qs h t ih=>
  obtain⟨h1,h2⟩:=h
  by_cases e:p.1=k
  ·have e':q.1=k:=h1.symm.trans e;have b:valueAt (q :: qs) k=some q.2:=by simp[valueAt,find?_cons,e']
   rw[mF e,b];exact h2
  ·have e':¬q.1=k:=fun z=>e (h1.trans z);have b:valueAt (q :: qs) k=valueAt qs k:=by simp[valueAt,find?_cons,e']
   rw[kK e,b];exact ih
theorem KV.any {kvs:List (κ × V)}{vs:List (κ × Value)}(r:KV kvs vs)(k:κ):(kvs.any fun kv=>decide (kv.1=k))=vs.any fun kv=>decide (kv.1=k):=by
 unfold KV at r
 induction r with
 |nil=>rfl
 |cons h t ih=>rw[any_cons,any_cons,ih,h.1]
theorem KV.repl {kvs:List (κ × V)}{vs:List (κ × Value)}(r:KV kvs vs)(k:κ){y:V}{u:Value}(ry:bU y u) :
  KV (kvs.map fun kv=>if kv.1=k then (kv.1,y) else kv) (vs.map fun kv=>if kv.1=k then (kv.1,u) else kv):=by
 unfold KV at r ⊢
 induction r with
 |nil=>exact .nil
 | @cons p q ps qs h t ih=>
  rw[map_cons,map_cons];refine .cons ?_ ih;obtain⟨h1,h2⟩:=h
  by_cases e:p.1=k
  ·rw[if_pos e,if_pos (h1.symm.trans e)];exact⟨h1,ry⟩
  ·rw[if_neg e,if_neg (fun z=>e (h1.trans z))];exact⟨h1,h2⟩
theorem KV.put {kvs:List (κ × V)}{vs:List (κ × Value)}(r:KV kvs vs)(k:κ){y:V}{u:Value}(ry:bU y u):KV (jW kvs k y) (stored vs k u):=by
 unfold jW stored;rw[r.any k]
 by_cases e:(vs.any fun kv=>decide (kv.1=k))=true
 ·rw[if_pos e,if_pos e];exact r.repl k ry
 ·rw[if_neg e,if_neg e];exact Paired.snoc r ⟨rfl,ry⟩
theorem KV.length {kvs:List (κ × V)}{vs:List (κ × Value)}(r:KV kvs vs):kvs.length=vs.length:=Paired.length r
end
theorem wO {P:Program}{w:World}{k:Key}{u:Value}(r:bU (kV k) u):(dE P w).is k u=true:=by
 cases k with
 |inl i=>obtain⟨t,e⟩:=(show ∃t,u=Value.int i t from r);subst e;exact Ag P w i t
 |inr x=>obtain⟨t,e⟩:=(show ∃t,u=Value.str x t from r);subst e;exact zU P w x t
theorem vS {P:Program}{w:World}:∀{ks:List Key} {us:List Value},bQ (ks.map kV) us->ItemsAre (dE P w) ks us
 | [],_,r=>by rw[map_nil] at r;cases r;exact .nil
 |k :: ks,_,r=>by
  rw[map_cons] at r
  cases r with
  |cons h t=>exact .cons (wO h) (vS t)
abbrev KT (H:Hp):List (List Key × V)->List (List Key × Addr × Value)->Prop:=Paired fun p q=>p.1=q.1/\H q.2.1=some (.tup (p.1.map kV))/\bU p.2 q.2.2
theorem KT.val {H:Hp}{kvs:List (List Key × V)}{xs:List (List Key × Addr × Value)}(r:KT H kvs xs)(k:List Key):jN (nV kvs k) ((atKey xs k).map (·.2)):=by
 induction r with
 |nil=>exact True.intro
 | @cons p q ps qs h t ih=>
  obtain⟨h1,_,h2⟩:=h
  by_cases e:p.1=k
  ·have e':q.1=k:=h1.symm.trans e;have b:atKey (q :: qs) k=some q.2:=by simp[atKey,find?_cons,e']
   rw[mF e,b];exact h2
  ·have e':¬q.1=k:=fun z=>e (h1.trans z);have b:atKey (q :: qs) k=atKey qs k:=by simp[atKey,find?_cons,e']
   rw[kK e,b];exact ih
theorem KT.repl {H:Hp}{kvs:List (List Key × V)}{xs:List (List Key × Addr × Value)}(r:KT H kvs xs)(k:List Key){y:V}{u:Value}(ry:bU y u) :
  KT H (kvs.map fun kv=>if kv.1=k then (kv.1,y) else kv) (xs.map (putAt k u)):=by
 induction r with
 |nil=>exact .nil
 | @cons p q ps qs h t ih=>
  rw[map_cons,map_cons];refine .cons ?_ ih;obtain⟨h1,h2,h3⟩:=h;unfold putAt
  by_cases e:p.1=k
  ·rw[if_pos e,if_pos (h1.symm.trans e)];exact⟨h1,h2,ry⟩
  ·rw[if_neg e,if_neg (fun z=>e (h1.trans z))];exact⟨h1,h2,h3⟩
theorem KT.put {H:Hp}{kvs:List (List Key × V)}{xs:List (List Key × Addr × Value)}(r:KT H kvs xs)(k:List Key){b:Addr}{y:V}{u:Value}(hb:H b=some (.tup (k.map kV)))(ry:bU y u) :
  KT H (jW kvs k y) (storedH xs k b u):=by
 have e:(kvs.any fun kv=>decide (kv.1=k))=(atKey xs k).isSome:=by
  rw[Ax,(r.val k).isSome_eq,Option.isSome_map]
 unfold jW storedH;rw[e]
 by_cases q:(atKey xs k).isSome=true
 ·rw[if_pos q,if_pos q];exact r.repl k ry
 ·rw[if_neg q,if_neg q];exact Paired.snoc r ⟨rfl,hb,ry⟩
theorem KT.keeps {H H':Hp}{kvs:List (List Key × V)}{xs:List (List Key × Addr × Value)}(r:KT H kvs xs)(ht:∀b ys,H b=some (.tup ys)->H' b=some (.tup ys)):KT H' kvs xs:=
 Paired.mapP r fun _ _ z=>⟨z.1,ht _ _ z.2.1,z.2.2⟩
section
variable {P:Program} {w:World} {H:Hp} {h:Heap} {a:Addr}
theorem Vf {u:HO}(ok:HOk P w H h)(e:Rd H a u):dL P w H h a u:=e.ok ok
theorem vO {kvs:List (Key × V)}(ok:HOk P w H h)(e:Rd H a (.dK kvs)):kvs.length<=sizeLine/\(a == sysModules)=false/\∃vs,KV kvs vs/\h.DictOf (dE P w) a vs:=
 show dL P w H h a (.dK kvs) from Vf ok e
theorem Vh {kvs:List (Key × V)}(ok:HOk P w H h)(e:H a=some (.dK kvs)):kvs.length<=sizeLine/\(a == sysModules)=false/\∃vs,KV kvs vs/\h.DictOf (dE P w) a vs:=vO ok (.inl e)
theorem tT {ks:List Key}(ok:HOk P w H h)(e:H a=some (.tup (ks.map kV))):(tupleKind (dE P w)).is h ks a:=by
 obtain⟨_,its,r,o,h1,h2,n,h3⟩:=(show dL P w H h a (.tup (ks.map kV)) from ok a _ e)
 exact⟨o,its.toArray,n,h1,h2,h3,by simpa using vS r⟩
theorem wJ {kvs:List (List Key × V)}(ok:HOk P w H h)(e:Rd H a (.dT kvs)):kvs.length<=sizeLine/\(a == sysModules)=false/\
  ∃xs,KT H kvs xs/\h.DictOfH (tupleKind (dE P w)) a xs:=by
 obtain⟨z,y,xs,r,o,es,ep,h1,h2,h3,h4,h5⟩:=(show dL P w H h a (.dT kvs) from Vf ok e)
 refine⟨z,y,xs,r,o,es,ep,h1,h2,h3,h4,fun x hx=>?_,h5⟩;have all:∀{l:List (List Key × V)} {m:List (List Key × Addr × Value)},KT H l m->∀x∈m,(tupleKind (dE P w)).is h x.1 x.2.1:=by
  intro l m q
  induction q with
  |nil=>intro x hx;exact nomatch hx
  | @cons p q ps qs hq t ih=>
   intro x hx;rcases mem_cons.mp hx with e | hx
   ·subst e;exact tT ok (by rw[<- hq.1];exact hq.2.1)
   ·exact ih x hx
 exact all r x hx
theorem Zt {kvs:List (List Key × V)}(ok:HOk P w H h)(e:H a=some (.dT kvs)):kvs.length<=sizeLine/\(a == sysModules)=false/\
  ∃xs,KT H kvs xs/\h.DictOfH (tupleKind (dE P w)) a xs:=wJ ok (.inl e)
end
def iO (H:Hp)(a:Addr)(y:V)(r:Option V):Prop:=
 (∃kvs k,Rd H a (.dK kvs)/\y=kV k/\r=nV kvs k)\/∃kvs k b,Rd H a (.dT kvs)/\y=.ref b/\H b=some (.tup (k.map kV))/\r=nV kvs k
def Qf (H:Hp)(a:Addr)(y v:V)(H':Hp):Prop:=
 (∃kvs k,H a=some (.dK kvs)/\y=kV k/\kvs.length < sizeLine/\H'=upd H a (.dK (jW kvs k v)))\/
 ∃kvs k b,H a=some (.dT kvs)/\y=.ref b/\H b=some (.tup (k.map kV))/\kvs.length < sizeLine/\H'=upd H a (.dT (jW kvs k v))
theorem iO.k {H:Hp}{a:Addr}{kvs:List (Key × V)}{k:Key}(e:H a=some (.dK kvs)):iO H a (kV k) (nV kvs k):=.inl ⟨kvs,k,.inl e,rfl,rfl⟩
theorem Qf.k {H:Hp}{a:Addr}{kvs:List (Key × V)}{k:Key}{v:V}(e:H a=some (.dK kvs))(hl:kvs.length < sizeLine):Qf H a (kV k) v (upd H a (.dK (jW kvs k v))):=.inl ⟨kvs,k,e,rfl,hl,rfl⟩
section
variable {X:Cx} {pins:List (Addr × Obj)} {σ:St} {H:Hp} {s:Shared} {a:Addr} {y v:V} {u r:Value} {o:Option V} {A:Around} {E:Value->Shared->Prop}
theorem Inv.big (I:Inv X pins σ H s):sysModules < s.heap.objs.size:=by
 have h:mainGlobals < s.heap.objs.size:=(I.mod.glob.keeps I.bk).lt;exact Nat.lt_trans (by decide) h
theorem Hw {Q:Value->Shared->Prop}(hu:A.units+1 < cLine)(I:Inv X pins σ H s)(g:iO H a y (some v))(ry:bU y u)(h:∀w' s',Inv X pins σ H s'->bU v w'->Q w' s') :
  wpAny (model X.prog X.w) A (getItem (.ref a) u) Q E s:=by
 rcases g with ⟨kvs,k,e,ey,l⟩ | ⟨kvs,k,b,e,ey,eb,l⟩
 ·subst ey;obtain⟨z,hd,vs,rel,dd⟩:=vO I.hok e;obtain⟨w',hw,rw'⟩:=jN.some_of (v:=v) (o:=valueAt vs k) (by rw[l];exact rel.val k);exact wpAny_getItem_of (wO ry) dd.mapOf hw (h w' _ (I.tok _) rw')
 ·subst ey
  cases (show u=Value.ref b from ry)
  obtain⟨z,hd,xs,rel,dd⟩:=wJ I.hok e;obtain⟨w',hw,rw'⟩:=jN.some_of (v:=v) (o:=(atKey xs k).map (·.2)) (by rw[l];exact rel.val k);obtain⟨p,hp,hp2⟩:=Option.map_eq_some_iff.mp hw;refine wpAny_getItem_heap (tupleKind_room_in1 hu) (tT I.hok eb) dd hp ?_;rw[hp2];exact h w' _ (I.tok _) rw'
theorem Uh {Q:Value->Shared->Prop}(hu:A.units+1 < cLine)(I:Inv X pins σ H s)(g:iO H a y o)(ry:bU y u)(h:∀s',Inv X pins σ H s'->Q (.bool (!o.isSome)) s') :
  wpAny (model X.prog X.w) A (compareOp .NotIn u (.ref a)) Q E s:=by
 rcases g with ⟨kvs,k,e,ey,l⟩ | ⟨kvs,k,b,e,ey,eb,l⟩
 ·subst ey;obtain⟨z,hd,vs,rel,dd⟩:=vO I.hok e;refine wpAny_notIn_of (wO ry) hd dd.mapOf ?_;rw[<- (rel.val k).isSome_eq,<- l];exact h _ (I.tok _)
 ·subst ey
  cases (show u=Value.ref b from ry)
  obtain⟨z,hd,xs,rel,dd⟩:=wJ I.hok e;refine wpAny_notIn_heap (tupleKind_room_in1 hu) (tT I.hok eb) hd dd ?_;have q:=(rel.val k).isSome_eq;rw[Option.isSome_map] at q;rw[<- q,<- l];exact h _ (I.tok _)
theorem yK {h':Heap}{t':Nat}{ob:HO}(I:Inv X pins σ H s)(mu:Mut (H a))(hs:Heap.SameBut a s.heap h')(he:∃q,h'.get? a=some q)(new:dL X.prog X.w (upd H a ob) h' a ob) :
  Inv X pins σ (upd H a ob) { s with heap:=h',toks:=t' }:=
 I.write (x:=a) (e:=a) mu (.inl rfl) (fun b q hb z=>(hs.2 b hb).trans z) he new
theorem Kj {P:Program}{w:World}{H':Hp}{h':Heap}{kvs:List (Key × V)}{vs:List (Key × Value)}(z:kvs.length<=sizeLine)(hd:(a == sysModules)=false)(rel:KV kvs vs)(dd:h'.DictOf (dE P w) a vs) :
  dL P w H' h' a (.dK kvs):=⟨z,hd,vs,rel,dd⟩
theorem Ji {H':Hp}{Q:Unit->Shared->Prop}(hu:A.units+1 < cLine)(I:Inv X pins σ H s)(g:Qf H a y v H')(ry:bU y u)(rv:bU v r)(h:∀s',Inv X pins σ H' s'->Q () s') :
  wpAny (model X.prog X.w) A (setItem (.ref a) u r) Q E s:=by
 rcases g with ⟨kvs,k,e,ey,l,eH⟩ | ⟨kvs,k,b,e,ey,eb,l,eH⟩
 ·subst ey eH;obtain⟨z,hd,vs,rel,dd⟩:=Vh I.hok e;have hz:vs.length<=sizeLine:=by rw[<- rel.length];exact z
  have hl:(jW kvs k v).length<=sizeLine:=by have:=kG kvs k v;lia
  refine wpAny_setItem_pairs (hsz:=hz) (wO ry) dd fun h' dd' hs=>h _ ?_;have he:∃q,h'.get? a=some q:=let ⟨q,_,_,hq,_⟩:=dd';⟨q,hq⟩
  exact yK I (by rw[e];exact True.intro) hs he (Kj hl hd (rel.put k rv) dd')
 ·subst ey eH
  cases (show u=Value.ref b from ry)
  obtain⟨z,hd,xs,rel,dd⟩:=Zt I.hok e;have hz:xs.length<=sizeLine:=by rw[<- Paired.length rel];exact z
  have hl:(jW kvs k v).length<=sizeLine:=by have:=kG kvs k v;lia
  refine wpAny_setItem_heap (hsz:=hz) (tupleKind_room_in1 hu) (tT I.hok eb) dd fun h' dd' hs=>h _ ?_;obtain⟨q,es,ep,hq,h2,h3,h4,_,h5⟩:=dd';refine yK I (by rw[e];exact True.intro) hs ⟨q,hq⟩ ⟨hl,hd,_,(rel.put k eb rv).keeps fun c ys ec=>?_,q,es,ep,hq,h2,h3,h4,h5⟩;rw[aW (kI ec e (fun z=>nomatch z))];exact ec
end
def qa0 (i:Expr):Prop:=∀ov iv,subscripted i false ov iv=operate [ov,iv] (getItem ov iv)
theorem Sh {prog:Program}{w:World}{A:Around}{E:Value->Shared->Prop}{s:Shared}{env:Env}{value slice:Expr}{pos:Pos}{T id:String}{Q:Value->Shared->Prop}(hl:typeLookup (.type T) "__getitem__"=pure (some (.builtin id)))(hs:qa0 slice)(h:wpAny (model prog w) A (eval value env) (fun o s₁=>wpAny (model prog w) A (eval slice env) (fun i s₂=>s₂.TypeIs o T/\wpAny (model prog w) A (getItem o i) Q E s₂) E s₁) E s) :
  wpAny (model prog w) A (eval (.Subscript value slice pos) env) Q E s:=by
 refine Subscript_ (wpAny_mono h (fun o s₁ h₁=>wpAny_mono h₁ (fun i s₂ h₂=>?_) fun _ _ x=>x) fun _ _ x=>x);obtain⟨hT,h₂⟩:=h₂;unfold subscriptTail;refine wpAny_bind ?_;rw[getitemInPython_of_ne hT.not_modules];refine wpAny_bind (wpAny_specialOf hT hl ?_);have fin:wpAny (model prog w) A (subscripted slice false o i) (fun r s₃=>wpAny (model prog w) A (letTemporaryGo value o r >>= fun _=>pure r) Q E s₃) E s₂:=by
  rw[hs o i];exact wpAny_operating (wpAny_mono h₂ (fun r s₃ h₃=>wpAny_bind (wpAny_letTemporaryGo (wpAny_pure h₃))) fun _ _ x=>x)
 first
  |exact wpAny_pure (wpAny_bind fin)
  |exact wpAny_bind (wpAny_pure (wpAny_bind fin))
  |exact wpAny_bind fin
theorem Ad {X:Cx}{pins:List (Addr × Obj)}{σ:St}{H:Hp}{s:Shared}{a:Addr}{y:V}{o:Option V}(I:Inv X pins σ H s)(g:iO H a y o):s.TypeIs (.ref a) "dict":=by
 rcases g with ⟨kvs,k,e,_,_⟩ | ⟨kvs,k,b,e,_,_,_⟩
 ·obtain⟨_,_,vs,_,dd⟩:=vO I.hok e;exact dd.typeIs
 ·obtain⟨_,_,xs,_,dd⟩:=wJ I.hok e;exact dd.typeIs
def qb5 (td ty:TE):TE:=fun σ H Q=>td σ H fun x H1=>ty σ H1 fun y H2=>∃a v,x=.ref a/\iO H2 a y (some v)/\Q v H2
def Uj (ty td:TE):TE:=fun σ H Q=>ty σ H fun y H1=>td σ H1 fun x H2=>∃a o,x=.ref a/\iO H2 a y o/\Q (.bl (!o.isSome)) H2
def Zq (td ty tv:TE):TS:=fun D σ H=>tv σ H fun v H1=>td σ H1 fun x H2=>ty σ H2 fun y H3=>∃a H4,x=.ref a/\Qf H3 a y v H4/\D.nx σ H4
section
variable {X:Cx} {o i e value:Expr} {pos pos' tpos:Pos} {td ty tv:TE}
theorem jJ (hu:X.A.units+1 < cLine)(ho:PE X o td)(hi:PE X i ty)(hs:qa0 i):PE X (.Subscript o i pos) (qb5 td ty):=by
 intro pins s σ H Q I h;refine Sh PySem.F.slot_dict_getitem.lookup hs (thn (ho pins s σ H _ I h) fun u s1 ⟨x,H1,I1,rx,q1⟩=>thn (hi pins s1 σ H1 _ I1 q1) fun iv s2 ⟨y,H2,I2,ry,a,v,ex,g,q2⟩=>?_);subst ex;obtain rfl:u=Value.ref a:=rx;exact⟨Ad I2 g,Hw hu I2 g ry fun w' s3 I3 rw'=>⟨v,H2,I3,rw',q2⟩⟩
theorem Je (hu:X.A.units+1 < cLine)(hi:PE X i ty)(ho:PE X o td):PC X .NotIn i o (Uj ty td):=by
 intro pins s σ H Q I h;refine thn (hi pins s σ H _ I h) fun iv s1 ⟨y,H1,I1,ry,q1⟩=>thn (ho pins s1 σ H1 _ I1 q1) fun u s2 ⟨x,H2,I2,rx,a,ov,ex,g,q2⟩=>?_;subst ex;obtain rfl:u=Value.ref a:=rx;exact Uh hu I2 g ry fun s3 I3=>⟨.bl (!ov.isSome),H2,I3,rfl,q2⟩
theorem Qt (hu:X.A.units+1 < cLine)(ho:PE X o td)(hi:PE X i ty)(hv:PE X value tv)(hs:swapsWith value (some (.Subscript o i pos')) pos.line X.env=pure false) :
  PS X (.Assign [.Subscript o i pos'] value pos) (Zq td ty tv):=by
 intro pins s σ H D I h;refine wpAny_Assign_Subscript (thn (hv pins s σ H _ I h) fun r s1 ⟨v,H1,I1,rv,q1⟩=>thn (ho pins s1 σ H1 _ I1 q1) fun u s2 ⟨x,H2,I2,rx,q2⟩=>thn (hi pins s2 σ H2 _ I2 q2) fun iv s3 ⟨y,H3,I3,ry,a,H4,ex,g,q3⟩=>?_) hs;subst ex;obtain rfl:u=Value.ref a:=rx;exact Ji hu I3 g ry rv fun s4 I4=>⟨σ,H4,I4,q3⟩
end
theorem Pl {P:Program}{w:World}{H:Hp}(h:Heap)(hb:sysModules < h.objs.size):dL P w H (h.push { cls:=.type "dict",data:=.dict #[] }) h.objs.size (.dK []):=
 ⟨Nat.zero_le _,beq_eq_false_iff_ne.mpr (Ne.symm (Nat.ne_of_lt hb)),[],.nil,Heap.DictOf.new h⟩
def Dw:List (TE × TE)->St->Hp->(List (V × V)->Hp->Prop)->Prop
 | [],_,H,Q=>Q [] H
 | (tk,tv) :: r,σ,H,Q=>tk σ H fun x H1=>tv σ H1 fun y H2=>Dw r σ H2 fun ps H3=>Q ((x,y) :: ps) H3
abbrev VV:List (V × V)->List (Value × Value)->Prop:=Paired fun p q=>bU p.1 q.1/\bU p.2 q.2
def PPs (X:Cx)(pos:Pos)(keys:List (Option Expr))(values:List Expr)(trs:List (TE × TE)):Prop:=
 ∀(pins:List (Addr × Obj)) (s:Shared) (σ:St) (H:Hp) (Q:List (V × V)->Hp->Prop),Inv X pins σ H s->Dw trs σ H Q->
  wpAny (model X.prog X.w) X.A (evalPairs (pairTrees keys values X.env pos)) (fun vs s'=>∃ps H',Inv X pins σ H' s'/\VV ps vs/\Q ps H') X.xe s
theorem Ej {X:Cx}{pos:Pos}:PPs X pos [] [] []:=fun pins s σ H Q I h=>pairTrees_nil_walk ⟨[],H,I,.nil,h⟩
theorem jU {X:Cx}{pos:Pos}{k v:Expr}{ks:List (Option Expr)}{vs:List Expr}{tk tv:TE}{trs:List (TE × TE)}(hk:PE X k tk)(hv:PE X v tv)(hr:PPs X pos ks vs trs) :
  PPs X pos (some k :: ks) (v :: vs) ((tk,tv) :: trs):=fun pins s σ H Q I h=>
 pairTrees_cons_walk (thn (hk pins s σ H _ I h) fun u s1 ⟨x,H1,I1,rx,q1⟩=>thn (hv pins s1 σ H1 _ I1 q1) fun w2 s2 ⟨y,H2,I2,ry,q2⟩=>
  thn (hr pins s2 σ H2 _ I2 q2) fun ws s3 ⟨ps,H3,I3,rel,q3⟩=>⟨(x,y) :: ps,H3,I3,.cons ⟨rx,ry⟩ rel,q3⟩)
def iL (kvs more:List (Key × V)):List (Key × V):=more.foldl (fun acc kv=>jW acc kv.1 kv.2) kvs
theorem KV.merge:∀{more:List (Key × V)} {rs:List (Key × Value)} {kvs:List (Key × V)} {vs:List (Key × Value)},KV more rs->KV kvs vs->KV (iL kvs more) (merged vs rs):=by
 intro more rs kvs vs r;unfold KV at r
 induction r generalizing kvs vs with
 |nil=>intro q;exact q
 | @cons p q ps qs h t ih=>
  intro r0;have e:KV (jW kvs p.1 p.2) (stored vs q.1 q.2):=by
   have:=r0.put p.1 h.2;rw[<- h.1];exact this
  exact ih e
theorem lF:∀(more kvs:List (Key × V)),(iL kvs more).length<=kvs.length+more.length
 | [],kvs=>by show kvs.length<=kvs.length+0;lia
 |p :: r,kvs=>by
  have h1:=lF r (jW kvs p.1 p.2);have h2:=kG kvs p.1 p.2;show (iL (jW kvs p.1 p.2) r).length<=_;rw[length_cons];lia
theorem uG {P:Program}{w:World}:∀{kvs:List (Key × V)} {ws:List (Value × Value)},VV (kvs.map fun kv=>(kV kv.1,kv.2)) ws->∃rs,Carries (dE P w) ws rs/\KV kvs rs
 | [],_,r=>by rw[map_nil] at r;cases r;exact⟨[],True.intro,.nil⟩
 |p :: kvs,_,r=>by
  rw[map_cons] at r
  cases r with
  | @cons a b as bs h t=>
   obtain⟨rs,c,q⟩:=uG (P:=P) (w:=w) t;obtain⟨b1,b2⟩:=b;exact⟨(p.1,b2) :: rs,⟨wO h.1,rfl,c⟩,.cons ⟨rfl,h.2⟩ q⟩
def qe7 (trs:List (TE × TE)):TE:=fun σ H Q=>∀p,H p=none->Dw trs σ (upd H p (.dK [])) fun ps H2=>H2 p=some (.dK [])/\∃kvs:List (Key × V),ps=kvs.map (fun kv=>(kV kv.1,kv.2))/\kvs.length<=15/\Q (.ref p) (upd H2 p (.dK (iL [] kvs)))
theorem Gd {X:Cx}{pos:Pos}{keys:List (Option Expr)}{values:List Expr}{trs:List (TE × TE)}(h:PPs X pos keys values trs)(hall:keys.all (·.isSome)=true)(hl:keys.length=values.length)(h0:keys≠[])(h15:keys.length<=15):PE X (.Dict keys values pos) (qe7 trs):=by
 intro pins s σ H Q I q;have hn:=I.hok.fresh (Nat.le_refl s.heap.objs.size);have I1:=I.laid (a:=s.heap.objs.size) (o:=.dK []) (h':=s.heap.push { cls:=.type "dict",data:=.dict #[] }) (t':=s.toks) (fun _ _ q=>Heap.get?_push_of_some _ q) (Nat.le_refl _) (Pl s.heap I.big);refine wpAny_Dict_walk (knd:=dE X.prog X.w) hall hl h0 h15 (thn (h pins _ σ _ _ I1 (q _ hn)) fun ws s2 ⟨ps,H2,I2,rel,e,kvs,ep,lk,q2⟩=>?_);subst ep;obtain⟨rs,c,rk⟩:=uG (P:=X.prog) (w:=X.w) rel;obtain⟨z,hd,vs0,r0,dd⟩:=Vh I2.hok e
 cases r0
 refine⟨rs,c,dd,fun h' dd' hs=>⟨.ref s.heap.objs.size,_,?_,rfl,q2⟩⟩;have hz:(iL [] kvs).length<=sizeLine:=by
  have h1:=lF kvs [];rw[length_nil] at h1;rw[sizeLine_eq];lia
 have he:∃q,h'.get? s.heap.objs.size=some q:=let ⟨q,_,_,hq,_⟩:=dd';⟨q,hq⟩
 exact yK I2 (by rw[e];exact True.intro) hs he (Kj hz hd (rk.merge .nil) dd')
structure M1 (X:Cx) (o:Expr) (m:Str) (apos:Pos) (e:Expr) (cpos:Pos):Prop where
 base:attributeBase o m X.env (eval o X.env)=eval o X.env
 few:((backTo cpos (starEach [e] X.env)).all (fun x=>!x.1) && (backToKw cpos (keywordEach [] X.env)).all (fun x=>x.1.isSome)
  && decide (([e]:List Expr).length+([]:List Keyword).length+(if ([]:List Keyword).isEmpty then 0 else 1) < 30))=true
 line:(apos.endLine == cpos.line)=true
 trees:backTo cpos (starEach [e] X.env)=[(false,eval e X.env)]
def IsD (H:Hp)(a:Addr):Prop:=(∃kvs,Rd H a (.dK kvs))\/∃kvs,Rd H a (.dT kvs)
theorem Vo {X:Cx}{pins:List (Addr × Obj)}{σ:St}{H:Hp}{s:Shared}{a:Addr}(I:Inv X pins σ H s)(d:IsD H a) :
  s.TypeIs (.ref a) "dict"/\(∀b,Value.ref a=.ref b->∃ob,s.heap.get? b=some ob/\ob.dict=none)/\(a == sysModules)=false:=by
 rcases d with ⟨kvs,e⟩ | ⟨kvs,e⟩
 ·obtain⟨_,hd,vs,_,dd⟩:=vO I.hok e;refine⟨dd.typeIs,fun b q=>?_,hd⟩
  cases q
  obtain⟨ob,_,_,h1,h2,_⟩:=dd;exact⟨ob,h1,h2.2.1⟩
 ·obtain⟨_,hd,xs,_,dd⟩:=wJ I.hok e;refine⟨dd.typeIs,fun b q=>?_,hd⟩
  cases q
  obtain⟨ob,_,_,h1,h2,_⟩:=dd;exact⟨ob,h1,h2.2.1⟩
section
variable {X:Cx} {pins:List (Addr × Obj)} {σ:St} {H:Hp} {s:Shared} {a:Addr} {y d:V} {u r:Value} {o:Option V} {A:Around} {E:Value->Shared->Prop}
theorem Wz {Q:Value->Shared->Prop}(hu:A.units+1 < cLine)(I:Inv X pins σ H s)(g:iO H a y o)(ry:bU y u)(h:∀w' s',Inv X pins σ H s'->bU (o.getD .non) w'->Q w' s') :
  wpAny (model X.prog X.w) A (call (.builtin "dict.get") [.ref a,u]) Q E s:=by
 rcases g with ⟨kvs,k,e,ey,l⟩ | ⟨kvs,k,b,e,ey,eb,l⟩
 ·subst ey;obtain⟨z,hd,vs,rel,dd⟩:=vO I.hok e;refine call_meetsIn PySem.F.slot_dict_get dd.typeIs PySem.F.entry_dict_get (PySem.F.args_dict_get_2 _ _) (meets_dict_get (dE X.prog X.w) a (wO ry) hd) ⟨_,dd.mapOf,h _ _ (I.tok _) ?_⟩;rw[l];exact(rel.val k).getD rfl
 ·subst ey
  cases (show u=Value.ref b from ry)
  obtain⟨z,hd,xs,rel,dd⟩:=wJ I.hok e;refine call_meetsIn PySem.F.slot_dict_get dd.typeIs PySem.F.entry_dict_get (PySem.F.args_dict_get_2 _ _) (meetsH_dict_get (tupleKind (dE X.prog X.w)) a b hd) ⟨tupleKind_room_in1 hu,k,xs,tT I.hok eb,dd,h _ _ (I.tok _) ?_⟩;rw[l];exact(rel.val k).getD rfl
end
def Xf (td ty:TE):TE:=fun σ H Q=>td σ H fun x H1=>∃a,x=.ref a/\IsD H1 a/\ty σ H1 fun y H2=>∃o,iO H2 a y o/\Q (o.getD .non) H2
section
variable {X:Cx} {o e f:Expr} {apos cpos:Pos} {td ty tx:TE}
theorem Ke (hu:X.A.units+1 < cLine)(ho:PE X o td)(he:PE X e ty)(m:M1 X o "get" apos e cpos):PE X (.Call (.Attribute o "get" apos) [e] [] cpos) (Xf td ty):=by
 intro pins s σ H Q I h;refine wpAny_Call_method m.base m.few m.line PySem.F.plainAttrs_dict PySem.F.slot_dict_get PySem.F.type_dict_get (thn (ho pins s σ H _ I h) fun u s1 ⟨x,H1,I1,rx,a,ex,d,q1⟩=>?_);subst ex;obtain rfl:u=Value.ref a:=rx;obtain⟨t1,t2,_⟩:=Vo I1 d;refine⟨t1,t2,?_⟩;rw[m.trees];refine Calls.callWith_builtin rfl (Calls.evalArgs_plain (Calls.spliced_cons (thn (he pins s1 σ H1 _ I1 q1) fun iv s2 ⟨y,H2,I2,ry,ov,g,q2⟩=>Calls.spliced_nil ?_)));exact Wz hu I2 g ry fun w' s3 I3 rw'=>⟨_,H2,I3,rw',q2⟩
end
theorem tL:∀ns:List Int,PyData.depthAll (ns.map PyData.int)<=1
 | []=>by simp[PyData.depthAll]
 |n :: r=>by
  have b:=tL r;simp only[map_cons,PyData.depthAll,PyData.depth];lia
theorem Fq.mod {K:Frag}{a:Addr}{d:Option Addr}{n:Nat}{sl:Array (Option Value)}{i j:Int}{t u:Tok}(l:K.lookup a=some ⟨.type "tuple",d,.seq #[.int i t,.int j u] n,sl⟩)(H:Hp):Fq K H a (i,j):=
 .inr ⟨_,_,_,l,rfl,rfl,(zl9 2),.cons ⟨_,rfl⟩ (.cons ⟨_,rfl⟩ .nil)⟩
abbrev RD:=Kd × Int × Int × Q2
inductive Rts (K:Frag) (H:Hp):List V->List RD->Prop where
 |nil:Rts K H [] []
 |cons {t z:Addr} {k:Kd} {i j:Int} {p:Q2} {xs:List V} {ds:List RD} (h:SqT K H t [.str k.wd,.int i,.int j,.ref z]) (f:Fq K H z p) (q:Rts K H xs ds):Rts K H (.ref t :: xs) ((k,i,j,p) :: ds)
section
variable {K:Frag} {H H':Hp}
theorem Rts.same (e:aT H H'):∀{xs:List V} {ds:List RD},Rts K H xs ds->Rts K H' xs ds
 |_,_,.nil=>.nil
 |_,_,.cons h f q=>.cons (e.seqT h) (e.fq f) (Rts.same e q)
theorem Rts.length:∀{xs:List V} {ds:List RD},Rts K H xs ds->xs.length=ds.length
 |_,_,.nil=>rfl
 |_,_,.cons _ _ q=>by simp[Rts.length q]
theorem Rts.app:∀{xs ys:List V} {ds es:List RD},Rts K H xs ds->Rts K H ys es->Rts K H (xs++ys) (ds++es)
 |_,_,_,_,.nil,r=>r
 |_,_,_,_,.cons h f q,r=>.cons h f (Rts.app q r)
theorem Rts.at:∀{xs:List V} {ds:List RD} {q:Nat} {d:RD},Rts K H xs ds->ds[q]?=some d->∃t z,xs[q]?=some (.ref t)/\SqT K H t [.str d.1.wd,.int d.2.1,.int d.2.2.1,.ref z]/\Fq K H z d.2.2.2
 |_,_,_,_,.nil,h=>by simp at h
 |_,_,0,_,.cons h f _,e=>by simp at e;subst e;exact⟨_,_,rfl,h,f⟩
 |_,_,i+1,_,.cons _ _ q,e=>by simpa using Rts.at q (by simpa using e)
theorem Rts.upd {l:Addr}{ys:List V}{o:HO}(hl:H l=some (.lst ys)):∀{xs:List V} {ds:List RD},Rts K H xs ds->Rts K (L2.upd H l o) xs ds
 |_,_,.nil=>.nil
 |_,_,.cons h f q=>.cons (h.upd hl) (f.upd hl) (Rts.upd hl q)
end
def Af (l:Addr)(H H':Hp):Prop:=∀b o,H b=some o->b≠l->H' b=some o
theorem aT.x {l:Addr}{H H':Hp}(s:aT H H'):Af l H H':=fun b o h _=>s b o h
theorem Af.write {l:Addr}{H H1:Hp}{o:HO}(a:Af l H H1):Af l H (upd H1 l o):=fun c u h n=>by rw[aW n];exact a c u h n
theorem fpk:¬(("point_count":Str) = "kept"):=by decide +kernel
def mE (m:Int)(l:Addr):List (Str × V):=iF "kept" (.ref l) (iF "point_count" (.int m) [])
theorem zK (m:Int)(l:Addr):(mE m l).lookup ("point_count":Str)=some (.int m):=by
 unfold mE;rw[bV,if_neg fpk,bV,if_pos rfl]
theorem iZ (m:Int)(l:Addr):(mE m l).lookup ("kept":Str)=some (.ref l):=by
 unfold mE;rw[bV,if_pos rfl]
theorem dA (m:Int)(l:Addr){x:Str}(h1:¬x = "point_count")(h2:¬x = "kept"):(mE m l).lookup x=none:=by
 unfold mE;rw[bV,if_neg h2,bV,if_neg h1];rfl
def Co (m:Int)(d:RD):Prop:=0<=d.2.1/\d.2.1 < m/\0<=d.2.2.1/\d.2.2.1 < m/\Low d.2.2.2/\(d.1=.pc->0 < d.2.2.2.1)/\Bd 1000 d.2.2.2
structure eO (CN:Addr) (K:Frag) (H:Hp) (n l:Addr) (m:Int) (ds:List RD):Prop where
 ob:∃dx,H n=some (.ins CN dx (mE m l))
 ls:∃ts,H l=some (.lst ts)/\Rts K H ts ds
theorem eO.same {CN:Addr}{K:Frag}{H H':Hp}{n l:Addr}{m:Int}{ds:List RD}(e:aT H H')(h:eO CN K H n l m ds):eO CN K H' n l m ds:=
 let ⟨⟨dx,a⟩,ts,b,c⟩:=h;⟨⟨dx,e _ _ a⟩,ts,e _ _ b,c.same e⟩
structure NT (K:Frag) (mg:Str->Option Value) (CN:Addr):Prop where
 cl:Cls K CN
 nP:gX K CN "point_count"
 nK:gX K CN "kept"
 t1:W.findIn K (.ref CN) "__class__"=some (some (.builtin "object.__class__"))
 t2:W.specialIn K (.builtin "object.__class__") "__get__"=some (some (.builtin "getset_descriptor.__get__"))
 t3:W.takesIn K (.builtin "object.__class__")=some true
 t4:W.mroIn K CN (.type "object")=some true
 mN:mg "Net"=some (.ref CN)
def tI (K:Frag)(CK:Kd->Addr):Sp:=fun vs H Q _=>∃(t:Addr) (v s g z:V),vs=[.ref t]/\SqT K H t [v,s,g,z]/\∃k:Kd,v=.str k.wd/\qi9 CK H Q k s g z
def Qc (K:Frag):Sp:=fun vs H Q _=>∃(a:Addr) (p:Q2),vs=[.ref a]/\Fq K H a p/\Low p/\Q (.bl true) H
def qb4 (K:Frag):Sp:=fun vs H Q _=>∃(a:Addr) (p:Q2) (n:Nat),vs=[.ref a]/\Fq K H a p/\Low p/\0 < p.1/\Bd n p/\n<=8000/\Q (.bl true) H
def qa2:Sp:=fun vs H Q _=>∃i b:Int,vs=[.int i,.int b]/\0<=i/\i < b/\Q (.bl true) H
def qf5 (K:Frag):Sp:=fun vs H Q _=>∃(k:Kd) (z:Addr) (p:Q2),vs=[.str k.wd,.ref z]/\Fq K H z p/\Low p/\(k=.pc->0 < p.1)/\Bd 1000 p/\Q .non H
def Gz (CN:Addr):Sp:=fun vs H Q _=>∃(n dx:Addr) (m:Int),vs=[.ref n,.int m]/\H n=some (.ins CN dx [])/\1<=m/\m<=20/\∀l H',H l=none->(∀b o,H b=some o->b≠n->H' b=some o)->H' n=some (.ins CN dx (mE m l))->H' l=some (.lst [])->Q .non H'
def kL (CN:Addr)(K:Frag):Sp:=fun vs H Q _=>∃(n l:Addr) (m:Int) (ds:List RD),vs=[.ref n]/\eO CN K H n l m ds/\Q (.int m) H
def Ut (CN:Addr)(K:Frag)(CK:Kd->Addr):Sp:=fun vs H Q _=>∃(n l x z:Addr) (m:Int) (ds:List RD) (k:Kd) (i j:Int) (p:Q2),vs=[.ref n,.ref x]/\eO CN K H n l m ds/\Rw CK H x k (.int i) (.int j) (.ref z)/\Fq K H z p/\Co m (k,i,j,p)/\ds.length < 40/\
 ∀H',Af l H H'->eO CN K H' n l m (ds++[(k,i,j,p)])->Q (.int ds.length) H'
theorem iG {a1 u:TS}{D:lY}{σ:St}{H:Hp}(P:St->Hp->Prop)(h1:∀X:St->Hp->Prop,(∀σ' H',P σ' H'->X σ' H')->(a1) { D with nx:=X } σ H)(h2:∀σ' H',P σ' H'->u D σ' H'):(iM a1 (u)) D σ H:=h1 _ h2
theorem Wv {a1 a2 u:TS}{D:lY}{σ:St}{H:Hp}(P:St->Hp->Prop)(h1:∀X:St->Hp->Prop,(∀σ' H',P σ' H'->X σ' H')->(iM a1 (a2)) { D with nx:=X } σ H)(h2:∀σ' H',P σ' H'->u D σ' H'):(iM a1 (iM a2 (u))) D σ H:=h1 _ h2
theorem qj0 {a1 a2 a3 u:TS}{D:lY}{σ:St}{H:Hp}(P:St->Hp->Prop)(h1:∀X:St->Hp->Prop,(∀σ' H',P σ' H'->X σ' H')->(iM a1 (iM a2 (a3))) { D with nx:=X } σ H)(h2:∀σ' H',P σ' H'->u D σ' H'):(iM a1 (iM a2 (iM a3 (u)))) D σ H:=h1 _ h2
theorem qg1 {a1 a2 a3 a4 u:TS}{D:lY}{σ:St}{H:Hp}(P:St->Hp->Prop)(h1:∀X:St->Hp->Prop,(∀σ' H',P σ' H'->X σ' H')->(iM a1 (iM a2 (iM a3 (a4)))) { D with nx:=X } σ H)(h2:∀σ' H',P σ' H'->u D σ' H'):(iM a1 (iM a2 (iM a3 (iM a4 (u))))) D σ H:=h1 _ h2
end L2
namespace Mq
def val (p:Q2):Rat:=(p.1:Rat) / (p.2:Rat)
theorem cO {b:Int}(h:b≠0):(b:Rat)≠0:=fun e=>h (Rat.intCast_inj.mp (by simpa using e))
theorem Cj {p:Q2}{t b:Int}(hp:p.2≠0)(hb:b≠0)(h:p.1*b=t*p.2):val p=(t:Rat) / (b:Rat):=by
 unfold val;have h1:=cO hp;have h2:=cO hb;have h3:(p.1:Rat)*(b:Rat)=(t:Rat)*(p.2:Rat):=by rw[<- Rat.intCast_mul,<- Rat.intCast_mul,h]
 grind
theorem iJ {t b:Int}(hb:b≠0):val (red t b)=(t:Rat) / (b:Rat):=by
 have:=(gE (t:=t) hb).pos;exact Cj (by lia) hb (vL hb)
theorem wX {p q:Q2}(hp:Low p)(hq:Low q)(h:val p=val q):p=q:=by
 refine Nf hp hq ?_;have p1:=cO (show p.2≠0 by have:=hp.pos;lia);have q1:=cO (show q.2≠0 by have:=hq.pos;lia);unfold val at h;have:(p.1:Rat)*(q.2:Rat)=(q.1:Rat)*(p.2:Rat):=by grind
 rw[<- Rat.intCast_mul,<- Rat.intCast_mul] at this;exact Rat.intCast_inj.mp this
theorem mQ {p q:Q2}(hp:1<=p.2)(hq:1<=q.2):val (oR p q)=val p+val q:=by
 have p1:=cO (show p.2≠0 by lia);have q1:=cO (show q.2≠0 by lia);unfold oR;rw[iJ (gH hp hq),Rat.intCast_add,Rat.intCast_mul,Rat.intCast_mul,Rat.intCast_mul];unfold val;grind
theorem pB {p q:Q2}(hp:1<=p.2)(hq:1<=q.2):val (minus p q)=val p - val q:=by
 have p1:=cO (show p.2≠0 by lia);have q1:=cO (show q.2≠0 by lia);unfold minus;rw[iJ (gH hp hq),Rat.intCast_sub,Rat.intCast_mul,Rat.intCast_mul,Rat.intCast_mul];unfold val;grind
theorem vU {p q:Q2}(hp:1<=p.2)(hq:1<=q.2):val (tO p q)=val p*val q:=by
 have p1:=cO (show p.2≠0 by lia);have q1:=cO (show q.2≠0 by lia);unfold tO;rw[iJ (gH hp hq),Rat.intCast_mul,Rat.intCast_mul];unfold val;grind
theorem rD {p q:Q2}(hp:1<=p.2)(hq:1<=q.2)(h0:q.1≠0):val (pY p q)=val p / val q:=by
 have p1:=cO (show p.2≠0 by lia);have q1:=cO (show q.2≠0 by lia);have q2:=cO h0;unfold pY;rw[iJ (oO hp h0),Rat.intCast_mul,Rat.intCast_mul];unfold val;grind
theorem pQ:val (0,1)=0:=by unfold val;simp;grind
theorem Ge:val (1,1)=1:=by unfold val;simp;grind
theorem Sz {t b:Int}(ht:0 < t)(hb:0 < b):0 < (red t b).1:=by
 have h1:=vL (t:=t) (b:=b) (by lia);have h2:=(gE (t:=t) (b:=b) (by lia)).pos;have h3:0 < t*(red t b).2:=Int.mul_pos ht (by lia);rw[<- h1] at h3;exact Int.pos_of_mul_pos_left h3 (by lia)
def fM:List Rat->Rat
 | []=>0
 |x :: l=>x+fM l
theorem Bc (a b:List Rat):fM (a++b)=fM a+fM b:=by
 induction a with
 |nil=>simp[fM];grind
 |cons x l ih=>simp only[cons_append,fM,ih];grind
def rs (n:Nat)(F:Nat->Rat):Rat:=match n with
 |0=>0
 |n+1=>rs n F+F n
theorem aP {n:Nat}{F G:Nat->Rat}(h:∀i,i < n->F i=G i):rs n F=rs n G:=by
 induction n with
 |zero=>rfl
 |succ n ih=>simp only[rs];rw[ih (fun i hi=>h i (by lia)),h n (by lia)]
theorem dX (n:Nat)(F G:Nat->Rat):rs n (fun i=>F i+G i)=rs n F+rs n G:=by
 induction n with
 |zero=>simp[rs];grind
 |succ n ih=>simp only[rs];rw[ih];grind
theorem eV (n:Nat)(c:Rat)(F:Nat->Rat):rs n (fun i=>c*F i)=c*rs n F:=by
 induction n with
 |zero=>simp[rs]
 |succ n ih=>simp only[rs];rw[ih];grind
theorem lW (n:Nat)(F:Nat->Rat):rs n (fun i=>- F i)=- rs n F:=by
 induction n with
 |zero=>simp[rs]
 |succ n ih=>simp only[rs];rw[ih];grind
theorem dM (n:Nat):rs n (fun _=>0)=0:=by
 induction n with
 |zero=>rfl
 |succ n ih=>simp only[rs];rw[ih];grind
theorem xM (n k:Nat)(F:Nat->Rat):rs n (fun i=>if k=i then F i else 0)=if k < n then F k else 0:=by
 induction n with
 |zero=>simp[rs]
 |succ n ih=>
  simp only[rs];rw[ih]
  by_cases h1:k < n
  ·rw[if_pos h1,if_neg (by lia),if_pos (by lia)];grind
  ·by_cases h2:k=n
   ·subst h2;rw[if_neg h1,if_pos rfl,if_pos (by lia)];grind
   ·rw[if_neg h1,if_neg h2,if_neg (by lia)];grind
abbrev z0:Q2:=(0,1)
abbrev Row:=Nat × Nat × Q2
theorem kB.pos {ls:List Q2}(h:kB ls):Pos ls:=fun p hp=>(h p hp).pos
def kZ (L b:Int):Int:=Int.fdiv L (gc L b)*b
theorem jB {L b:Int}(hL:1<=L)(hb:1<=b):1<=kZ L b/\(∃j,kZ L b=L*j)/\(∃k,kZ L b=k*b/\1<=k)/\kZ L b<=L*b:=by
 have gp:0 < gc L b:=rW (by lia);have d1:gc L b ∣ L:=by unfold gc;exact Int.gcd_dvd_left ..
 have d2:gc L b ∣ b:=by unfold gc;exact Int.gcd_dvd_right ..
 obtain⟨k,hk⟩:=d1;obtain⟨j,hj⟩:=d2;have ek:Int.fdiv L (gc L b)=k:=eK (by lia) hk;have k1:1<=k:=by
  have:0 < gc L b*k:=by lia
  have:=Int.pos_of_mul_pos_right this (by lia);lia
 unfold kZ;rw[ek];refine⟨?_,⟨j,?_⟩,⟨k,rfl,k1⟩,?_⟩
 ·have:0 < k*b:=Int.mul_pos (by lia) (by lia);lia
 ·generalize gc L b=g at *
  rw[hk,hj];grind
 ·have:k<=L:=by
   rw[hk];have:=Int.mul_le_mul_of_nonneg_right (show 1<=gc L b by lia) (show 0<=k by lia);lia
  exact Int.mul_le_mul_of_nonneg_right this (by lia)
def cU (ps:List Q2):Int:=ps.foldl (fun L p=>kZ L p.2) 1
theorem Ip (ps:List Q2)(p:Q2):cU (ps++[p])=kZ (cU ps) p.2:=by unfold cU;rw[foldl_append];rfl
theorem kS {ps:List Q2}{i:Nat}{p:Q2}(h:ps[i]?=some p):cU (ps.take (i+1))=kZ (cU (ps.take i)) p.2:=by
 rw[take_add_one,h];exact Ip _ _
theorem lQ {ps:List Q2}(hp:Pos ps){n:Nat}(hb:∀p∈ps,Bd n p):∀i,i<=ps.length->1<=cU (ps.take i)/\B (1+n*i) (cU (ps.take i))/\∀p∈ps.take i,∃k,cU (ps.take i)=k*p.2
 |0,_=>⟨by show (1:Int)<=1;lia,show (1:Nat) < 2 ^ (1+n*0) by simp,fun p h=>by simp at h⟩
 |i+1,hi=>by
  obtain⟨h1,h2,h3⟩:=lQ hp hb i (by lia);have e:ps[i]?=some ps[i]:=getElem?_eq_getElem (by lia);have mem:ps[i]∈ps:=getElem_mem _;rw[kS e];obtain⟨l1,⟨j,l2⟩,⟨k,l3,l4⟩,l5⟩:=jB h1 (hp _ mem);refine⟨l1,?_,fun p hpp=>?_⟩
  ·have:=h2.mul (hb _ mem).b;refine B.mono (n:=1+n*i+n) (this.le ?_) (by rw[Nat.mul_succ];lia);have h0:1<=ps[i].2:=hp _ mem;have:0<=cU (ps.take i)*ps[i].2:=Int.mul_nonneg (by lia) (by lia);lia
  ·rw[take_add_one,e] at hpp;rcases mem_append.mp hpp with z | z
   ·obtain⟨q,hq⟩:=h3 p z;exact⟨q*j,by rw[l2,hq];grind⟩
   ·have:p=ps[i]:=by simpa using z
    rw[this];exact⟨k,l3⟩
theorem oH {ps:List Q2}(hp:Pos ps):1<=cU ps:=by
 have:∀(l:List Q2) (L:Int),1<=L->Pos l->1<=l.foldl (fun L p=>kZ L p.2) L:=fun l=>by
  induction l with
  |nil=>intro L h _;exact h
  |cons p l ih=>intro L h q;exact ih _ (jB h (q p (by simp))).1 fun x hx=>q x (mem_cons_of_mem _ hx)
 exact this ps 1 (by lia) hp
def uS (L:Int)(p:Q2):Int:=p.1*Int.fdiv L p.2
def iw (ps:List Q2):List Int:=ps.map (uS (cU ps))
theorem Pi {L k:Int}{p:Q2}(h:1<=p.2)(e:L=k*p.2):((uS L p:Int):Rat)=val p*(L:Rat):=by
 have e1:Int.fdiv L p.2=k:=eK (by lia) (by rw[e,Int.mul_comm]);have n:=cO (show p.2≠0 by lia);unfold uS val;rw[e1,e,Rat.intCast_mul,Rat.intCast_mul];grind
theorem tS {ps:List Q2}(hp:Pos ps):∀p∈ps,∃k,cU ps=k*p.2:=fun p hpp=>by
 have:∀(l:List Q2) (L:Int),1<=L->Pos l->(∃j,l.foldl (fun L p=>kZ L p.2) L=L*j)/\∀p∈l,∃k,l.foldl (fun L p=>kZ L p.2) L=k*p.2:=fun l=>by
  induction l with
  |nil=>intro L h _;exact⟨⟨1,by simp⟩,fun p h=>by simp at h⟩
  |cons q l ih=>
   intro L h hq;obtain⟨l1,⟨j,l2⟩,⟨k,l3,l4⟩,l5⟩:=jB h (hq q (by simp));obtain⟨⟨j2,i1⟩,i2⟩:=ih (kZ L q.2) l1 fun x hx=>hq x (mem_cons_of_mem _ hx);refine⟨⟨j*j2,by rw[foldl_cons,i1,l2];grind⟩,fun p hp=>?_⟩;rcases mem_cons.mp hp with rfl | hp
   ·exact⟨k*j2,by rw[foldl_cons,i1,l3];grind⟩
   ·exact i2 p hp
 exact(this ps 1 (by lia) hp).2 p hpp
def dD (X:List (List Q2)):Prop:=∀row∈X,Pos row
theorem Pe {row:List Q2}(h:Pos row)(j:Nat):1<=(row.getD j z0).2:=by
 rw[getD_eq_getElem?_getD]
 cases e:row[j]? with
 |none=>exact Int.le_refl 1
 |some v=>exact h v (mem_of_getElem? e)
end Mq
open Mq (Bc Ge aP cO cU dD dM dX eV fM iJ iw lQ lW mQ oH pB pQ rD tS uS vU wX xM)
namespace L2
open PySem PySem.Spec PyProof.Rows
def Ite (K : Frag)(a : Addr) : It :=
  ⟨fun i H => ∃ xs x, SqL K H a xs /\ xs[i]? = some x,
   fun i H v H' => ∃ T x, v = .ref T /\ H T = none /\ H' = upd H T (.tup [.int (i : Int), x]) /\ ∀ xs, SqL K H a xs -> xs[i]? = some x,
   fun i H => ∃ xs, SqL K H a xs /\ xs.length <= i⟩
def Xi (e it l:Addr)(i:Nat)(h:Heap):Prop:=e≠it/\(∃old,IsEnum h e it (i:Int) old)/\h.IsListIter it l i
theorem Ir {P:Program}{w:World}{K:Frag}{elts:List Expr}{kk:Nat}{tpos:Pos}(e it l:Addr) :
  Jc P w K (.Tuple elts kk tpos) (Ite K l) [e,it] e (Xi e it l) where
 mem:=by simp
 obj:=fun i h st b hb=>by
  obtain⟨ne,⟨old,he⟩,⟨o1,e1,c1,d1⟩⟩:=st;simp only[mem_cons,not_mem_nil,or_false] at hb;rcases hb with rfl | rfl
  ·exact⟨_,he,fun v q=>by cases q⟩
  ·exact⟨o1,e1,fun v q=>by rw[d1] at q;cases q⟩
 keep:=fun i h h' st k=>by
  obtain⟨ne,⟨old,he⟩,⟨o1,e1,c1,d1⟩⟩:=st;exact⟨ne,⟨old,k _ (by simp) _ he⟩,⟨o1,k _ (by simp) _ e1,c1,d1⟩⟩
 item:=by
  intro X hP hw hK hc i pins s σ H E I hf st hg;subst hP hw hK;obtain⟨ne,⟨old,he⟩,t1⟩:=st;obtain⟨xs,x,hx,ex⟩:=hg;obtain⟨its1,rv1,p1,z1⟩:=I.list hx;obtain⟨u1,hu1,ru1⟩:=rv1.get ex;refine wpAny_pyNext_enum_item he t1 p1.isList (x:=u1) (by simpa using hu1) ne fun h' g1 g2 g3 g4 kk'=>?_;have hn:H s.heap.objs.size=none:=I.hok.fresh (Nat.le_refl _);have lt:∀b∈[e,it],b < s.heap.objs.size:=fun b hb=>by
   simp only[mem_cons,not_mem_nil,or_false] at hb;obtain⟨o1,e1,_⟩:=t1;rcases hb with rfl | rfl
   ·exact Heap.lt_size he
   ·exact Heap.lt_size e1
  have I1:Inv X pins σ (upd H s.heap.objs.size (.tup [.int (i:Int),x])) { s with heap:=s.heap.push { cls:=.type "tuple",data:=.seq #[.int i s.toks,u1] },toks:=s.toks+1 }:=
   I.laid (t':=s.toks+1) (fun b o e=>Heap.get?_push_of_some _ e) (Nat.le_refl _) (show dL X.prog X.w _ _ _ (.tup [.int (i:Int),x]) from ⟨zl9 2,[.int i s.toks,u1],.cons ⟨_,rfl⟩ (.cons ru1 .nil),IsTup.new _ _⟩)
  have hf1:∀b∈[e,it],kY X pins (upd H s.heap.objs.size (.tup [.int (i:Int),x])) b:=fun b hb=>⟨by rw[aW (Nat.ne_of_lt (lt b hb))];exact(hf b hb).1,(hf b hb).2⟩
  have k1:∀b o,b∉[e,it]->(s.heap.push { cls:=.type "tuple",data:=.seq #[.int i s.toks,u1] }).get? b=some o->h'.get? b=some o:=fun b o nb e=>by
   simp only[mem_cons,not_mem_nil,or_false,not_or] at nb
   by_cases hb:b=s.heap.objs.size
   ·subst hb;rw[Heap.get?_push_size _ rfl] at e
    cases e
    exact g3
   ·have e0:s.heap.get? b=some o:=by rw[Heap.get?_push_ne _ _ _ hb] at e;exact e
    exact kk' b o nb.1 nb.2 e0
  have I2:Inv X pins σ (upd H s.heap.objs.size (.tup [.int (i:Int),x])) { s with heap:=h',toks:=s.toks+1 }:=Inv.turnedL (s:={ s with heap:=s.heap.push { cls:=.type "tuple",data:=.seq #[.int i s.toks,u1] },toks:=s.toks+1 }) (t':=s.toks+1) I1 k1 hf1;refine⟨_,rfl,wpAny_letOwnedTupleGo_enum (s:={ s with heap:=h',toks:=s.toks+1 }) g1 fun h2 q1 q2=>?_⟩;have kz:∀b o,b≠e->h'.get? b=some o->h2.get? b=some o:=fun b o nb e=>(q2.2 b nb).trans e;have I3:Inv X pins σ (upd H s.heap.objs.size (.tup [.int (i:Int),x])) { s with heap:=h2,toks:=s.toks+1 }:=Inv.turnedL (s:={ s with heap:=h',toks:=s.toks+1 }) (t':=s.toks+1) (fp:=[e]) I2 (fun b o nb e=>kz b o (by simpa using nb) e) fun b hb=>hf1 b (by simp at hb;simp[hb]);obtain⟨o3,e3,c3,d3⟩:=g2;refine⟨.ref s.heap.objs.size,_,I3,rfl,⟨_,x,rfl,hn,rfl,fun xs' h1=>?_⟩,⟨ne,⟨_,q1⟩,⟨o3,kz _ _ ne.symm e3,c3,d3⟩⟩,fun b hb=>(hf1 b hb).1⟩;rw[I.list_inj h1 hx];exact ex
 done:=by
  intro X hP hw hK hc i pins s σ H E I hf st hg;subst hP hw hK;obtain⟨ne,⟨old,he⟩,t1⟩:=st;obtain⟨xs,hx,hor⟩:=hg;obtain⟨its1,rv1,p1,z1⟩:=I.list hx;have l1':=rv1.length;refine wpAny_pyNext_enum_end (I.ok.hd hc) he t1 p1.isList (by simp;lia) fun h' kk'=>⟨rfl,?_⟩
  refine I.turnedL (t':=s.toks) (fun b o nb e=>?_) hf;simp only[mem_cons,not_mem_nil,or_false,not_or] at nb;exact kk' b o nb.2 e
 self:=fun A i s Q E st h=>by
  obtain⟨ne,⟨old,he⟩,t1⟩:=st;exact wpAny_pyIter_enum he h
section
variable {X:Cx}
def qf0 (K:Frag)(ta:TA):TI:=fun σ H R=>ta σ H fun vs H1=>∃a,vs=[.ref a]/\(∃xs,SqL K H1 a xs)/\R (Ite K a) H1
theorem mU {e1:Expr}{ta:TA}{p pos:Pos}{elts:List Expr}{kk:Nat}{tpos:Pos}(hg:Gl X "enumerate")(hm:X.mg "enumerate"=none)(hv:bootBuiltins "enumerate"=some (.type "enumerate"))(ha:PA X [e1] ta)(hs:starEach [e1] X.env=(false,eval e1 X.env) :: starEach [] X.env:=by rfl)(hpl:(backTo pos (starEach [] X.env)).any (·.1)=false:=by rfl):PI X (.Tuple elts kk tpos) (.Call (.Name "enumerate" p) [e1] [] pos) (qf0 X.K ta):=by
 intro pins s σ H R I h;refine Call_ (jD I hg hm hv (PyProof.Rows.callWith_type1 (thn (ha pos pins s σ H _ I h) fun us s1 ⟨vs,H1,I1,r1,q1⟩=>?_) hs hpl));obtain⟨a,rfl,⟨xs,hx⟩,q⟩:=q1;obtain⟨u,rfl,ra⟩:=zX r1
 cases (show u=Value.ref a from ra)
 obtain⟨its1,rv1,p1,z1⟩:=I1.list hx;have la:a < s1.heap.objs.size:=by obtain⟨o,e,_⟩:=p1.isList;exact Heap.lt_size e
 refine call_enumerate_list p1.isList fun h' g1 g2 g3 kk'=>?_;refine wpAny_pyIter_enum g1 ?_;refine⟨s1.heap.objs.size+1,[s1.heap.objs.size+1,s1.heap.objs.size],_,Ite X.K a,H1,rfl,I1.kept (t':=s1.toks) kk',Ir _ _ a,⟨?_,⟨_,g1⟩,g2⟩,fun c hc=>?_,q⟩
 ·exact Nat.succ_ne_self _
 ·have hle:s1.heap.objs.size<=c:=by
   simp only[mem_cons,not_mem_nil,or_false] at hc;rcases hc with rfl | rfl<;>first | exact Nat.le_add_right _ _ | exact Nat.le_refl _
  exact I1.fpOk hle (I1.hok.fresh hle)
theorem Bn {K:Frag}{a:Addr}{xs:List V}{g:TG}{tb:TS}{D:lY}{σ:St}{H:Hp}(Pv:Nat->St->Hp->Prop)(h0:Pv 0 σ H)(hl:∀i σ H,i<=xs.length->Pv i σ H->SqL K H a xs)(hs:∀i x σ H T,xs[i]?=some x->Pv i σ H->H T=none->g (.ref T) σ (upd H T (.tup [.int (i:Int),x])) fun σ2 H2=>tb { D with nx:=Pv (i+1),ct:=Pv (i+1),bk:=D.nx } σ2 H2)(hd:∀σ H,Pv xs.length σ H->D.nx σ H) :
  ∃W:Nat->Nat->St->Hp->Prop,(∃m,W 0 m σ H)/\∀i m σ H,W i m σ H->
   ((Ite K a).stop i H/\D.nx σ H)\/((Ite K a).go i H/\∃N:St->Hp->Prop,(∀σ' H',N σ' H'->∃m',m' < m/\W (i+1) m' σ' H')/\∀x H',(Ite K a).yld i H x H'->g x σ H' fun σ2 H2=>tb { D with nx:=N,ct:=N,bk:=D.nx } σ2 H2):=by
 refine⟨fun i m σ H=>m=xs.length - i/\i<=xs.length/\Pv i σ H,⟨_,rfl,Nat.zero_le _,h0⟩,?_⟩;rintro i m σ H ⟨rfl,hi,p⟩;have qx:=hl i σ H hi p
 by_cases hlt:i < xs.length
 ·refine .inr ⟨⟨xs,xs[i],qx,by simp[hlt]⟩,Pv (i+1),fun σ' H' p'=>⟨xs.length - (i+1),by lia,rfl,hlt,p'⟩,fun v H' z=>?_⟩;obtain⟨T,x,rfl,hT,rfl,hh⟩:=z;exact hs i x σ H T (hh xs qx) p hT
 ·have e:i=xs.length:=by lia
  subst e;exact .inl ⟨⟨xs,qx,Nat.le_refl _⟩,hd σ H p⟩
theorem pG {K:Frag}{a:Addr}{xs:List V}{nl:Nat}{fr:List Nat}{g:TG}{tt:TT}{te:TE}{σ:St}{D:Addr}{H1:Hp}{Q:VK}(Pv:Nat->List V->Hp->Prop)(h0:Pv 0 [] (upd H1 D (.lst [])))(hl:∀i zs H,Pv i zs H->H D=some (.lst zs))(hx:∀i zs H,i<=xs.length->Pv i zs H->SqL K H a xs)(hs:∀i zs x H T,xs[i]?=some x->Pv i zs H->H T=none->∀(C:Nat->List V->Hp->Prop),(∀zs H,Pv (i+1) zs H->C (i+1) zs H)->Fv nl fr g tt te σ D C i zs (.ref T) (upd H T (.tup [.int (i:Int),x])))(hd:∀zs H,Pv xs.length zs H->Q (.ref D) H) :
  Ay (Ite K a) nl fr g tt te σ D H1 Q:=by
 refine⟨fun i m zs H=>m=xs.length - i/\i<=xs.length/\Pv i zs H,⟨_,rfl,Nat.zero_le _,h0⟩,?_⟩;rintro i m zs H ⟨rfl,hi,p⟩;refine⟨hl i zs H p,?_⟩;have qx:=hx i zs H hi p
 by_cases hlt:i < xs.length
 ·refine .inr ⟨⟨xs,xs[i],qx,by simp[hlt]⟩,fun v H' z=>?_⟩;obtain⟨T,x,rfl,hT,rfl,hh⟩:=z;exact hs i zs x H T (hh xs qx) p hT (fun j zs Hz=>∃m',m' < xs.length - i/\m'=xs.length - j/\j<=xs.length/\Pv j zs Hz) fun zs Hz z=>⟨xs.length - (i+1),by lia,rfl,hlt,z⟩
 ·have e:i=xs.length:=by lia
  subst e;exact .inl ⟨⟨xs,qx,Nat.le_refl _⟩,hd zs H p⟩
end
end L2
namespace Shp
open PySem L2
theorem Qn {t b:Int}(h:0 < b):dvr t b=gc t b:=by unfold dvr;rw[if_neg (by lia)]
inductive Fmx (K:Frag) (D:Addr) (H:Hp):List V->List (List Q2)->Prop where
 |nil:Fmx K D H [] []
 |cons {u:Addr} {xs:List V} {ps:List Q2} {us:List V} {X:List (List Q2)} (ne:u≠D) (h:SqL K H u xs) (f:Fqs K H xs ps) (q:Fmx K D H us X):Fmx K D H (.ref u :: us) (ps :: X)
theorem Fmx.length {K:Frag}{D:Addr}{H:Hp}:∀{xs:List V} {X:List (List Q2)},Fmx K D H xs X->xs.length=X.length
 |_,_,.nil=>rfl
 |_,_,.cons _ _ _ q=>by rw[length_cons,length_cons,q.length]
theorem Fmx.get {K:Frag}{D:Addr}{H:Hp}:∀{xs:List V} {X:List (List Q2)} {i:Nat} {x:V},Fmx K D H xs X->xs[i]?=some x->∃u ys ps,x=.ref u/\X[i]?=some ps/\SqL K H u ys/\Fqs K H ys ps
 |_,_,0,_,.cons n h f q,e=>by simp at e;exact⟨_,_,_,e.symm,rfl,h,f⟩
 |_,_,i+1,_,.cons n h f q,e=>by simp at e;exact q.get e
def wh (row:List Q2):List Int × Int:=(iw row,cU row)
end Shp
namespace Mq
def skip (j k:Nat):Nat:=if k < j then k else k+1
def sgn (n:Nat):Rat:=if n % 2=0 then 1 else -1
theorem tX (n:Nat):sgn (n+1)=- sgn n:=by
 unfold sgn;rcases Nat.mod_two_eq_zero_or_one n with h | h
 ·rw[if_neg (by lia),if_pos h]
 ·rw[if_pos (by lia),if_neg (by lia)];grind
abbrev Mat:=Nat->Nat->Rat
def det:Nat->Mat->Rat
 |0,_=>1
 |n+1,M=>rs (n+1) fun j=>sgn (n+j)*M n j*det n fun i k=>M i (skip j k)
theorem dG (n:Nat)(M:Mat):det (n+1) M=rs (n+1) fun j=>sgn (n+j)*M n j*det n fun i k=>M i (skip j k):=rfl
theorem Sl {j k n:Nat}(hk:k < n):skip j k < n+1:=by unfold skip;split<;>lia
theorem bZ:∀{n:Nat} {M N:Mat},(∀i j,i < n->j < n->M i j=N i j)->det n M=det n N
 |0,_,_,_=>rfl
 |n+1,M,N,h=>by
  rw[dG,dG];exact aP fun j hj=>by rw[h n j (by lia) hj,bZ (N:=fun i k=>N i (skip j k)) fun i k hi hk=>h i _ (by lia) (Sl hk)]
theorem vJ {j k l:Nat}(h:j<=k):skip (k+1) (skip j l)=skip j (skip k l):=by
 unfold skip
 by_cases h1:l < j
 ·rw[if_pos h1,if_pos (show l < k by lia),if_pos (show l < k+1 by lia),if_pos h1]
 ·rw[if_neg h1]
  by_cases h2:l < k
  ·rw[if_pos h2,if_pos (show l+1 < k+1 by lia),if_neg h1]
  ·rw[if_neg h2,if_neg (show ¬l+1 < k+1 by lia),if_neg (show ¬l+1 < j by lia)]
theorem Ta (n m:Nat)(F:Nat->Nat->Rat):(rs n fun i=>rs m fun j=>F i j)=rs m fun j=>rs n fun i=>F i j:=by
 induction n with
 |zero=>simp only[rs];rw[dM]
 |succ n ih=>simp only[rs];rw[ih,<- dX]
theorem oI (n:Nat)(F:Nat->Rat):rs (n+1) F=F 0+rs n fun i=>F (i+1):=by
 induction n with
 |zero=>simp only[rs];grind
 |succ n ih=>rw[show rs (n+1+1) F=rs (n+1) F+F (n+1) from rfl,ih];simp only[rs];grind
theorem vW (N:Nat)(X:Nat->Nat->Rat):(rs (N+1) fun j=>rs N fun k=>X j k)=(rs N fun k=>rs N fun j=>if k<=j then X (j+1) k else 0)+rs N fun j=>rs N fun k=>if j<=k then X j k else 0:=by
 have h1:(rs (N+1) fun j=>rs N fun k=>X j k)=(rs (N+1) fun j=>rs N fun k=>if k < j then X j k else 0)+rs (N+1) fun j=>rs N fun k=>if k < j then 0 else X j k:=by
  rw[<- dX];refine aP fun j _=>?_;rw[<- dX];exact aP fun k _=>by split<;>grind
 have h2:(rs (N+1) fun j=>rs N fun k=>if k < j then X j k else 0)=rs N fun k=>rs N fun j=>if k<=j then X (j+1) k else 0:=by
  rw[Ta];refine aP fun k _=>?_;rw[oI,if_neg (by lia)];have:(rs N fun i=>if k < i+1 then X (i+1) k else 0)=rs N fun j=>if k<=j then X (j+1) k else 0:=aP fun i _=>by
   by_cases c:k<=i
   ·rw[if_pos (by lia),if_pos c]
   ·rw[if_neg (by lia),if_neg c]
  rw[this];grind
 have h3:(rs (N+1) fun j=>rs N fun k=>if k < j then 0 else X j k)=rs N fun j=>rs N fun k=>if j<=k then X j k else 0:=by
  show (rs N fun j=>rs N fun k=>if k < j then 0 else X j k)+(rs N fun k=>if k < N then 0 else X N k)=_;have:(rs N fun k=>if k < N then 0 else X N k)=rs N fun _=>0:=aP fun k hk=>by rw[if_pos hk]
  rw[this,dM];have e2:(rs N fun j=>rs N fun k=>if k < j then 0 else X j k)=rs N fun j=>rs N fun k=>if j<=k then X j k else 0:=aP fun j _=>aP fun k _=>by
   by_cases c:j<=k
   ·rw[if_neg (by lia),if_pos c]
   ·rw[if_pos (by lia),if_neg c]
  rw[e2];grind
 rw[h1,h2,h3]
theorem Cv (N:Nat)(X Y:Nat->Nat->Rat)(h:∀j k,j<=k->Y (k+1) j=- X j k)(h':∀j k,j<=k->X (k+1) j=- Y j k):(rs (N+1) fun j=>rs N fun k=>Y j k)=- rs (N+1) fun j=>rs N fun k=>X j k:=by
 rw[vW,vW];have e1:(rs N fun k=>rs N fun j=>if k<=j then Y (j+1) k else 0)=- rs N fun j=>rs N fun k=>if j<=k then X j k else 0:=by
  rw[<- lW];refine aP fun k _=>?_;rw[<- lW];exact aP fun j _=>by
   by_cases c:k<=j
   ·rw[if_pos c,if_pos c,h k j c]
   ·rw[if_neg c,if_neg c];grind
 have e2:(rs N fun k=>rs N fun j=>if k<=j then X (j+1) k else 0)=- rs N fun j=>rs N fun k=>if j<=k then Y j k else 0:=by
  rw[<- lW];refine aP fun k _=>?_;rw[<- lW];exact aP fun j _=>by
   by_cases c:k<=j
   ·rw[if_pos c,if_pos c,h' k j c]
   ·rw[if_neg c,if_neg c];grind
 rw[e1,e2];grind
def cA (a:Nat)(M:Mat):Mat:=fun i=>if i=a then M (a+1) else if i=a+1 then M a else M i
theorem Gv (n:Nat)(M:Mat):det (n+2) M=rs (n+2) fun j=>rs (n+1) fun k=>(sgn (n+1+j)*M (n+1) j)*(sgn (n+k)*M n (skip j k)*det n fun i l=>M i (skip j (skip k l))):=by
 rw[dG];exact aP fun j _=>by rw[dG,<- eV]
theorem nH (a b:Nat):sgn (a+1+b)=- sgn (a+b):=by rw[show a+1+b=a+b+1 by lia,tX]
theorem wL (n:Nat)(M:Mat):det (n+2) (cA n M)=- det (n+2) M:=by
 rw[Gv,Gv];refine Cv (n+1) _ _ (fun j k hjk=>?_) (fun j k hjk=>?_)
 ·show (sgn (n+1+(k+1))*cA n M (n+1) (k+1))*(sgn (n+j)*cA n M n (skip (k+1) j)*det n fun i l=>cA n M i (skip (k+1) (skip j l)))=- ((sgn (n+1+j)*M (n+1) j)*(sgn (n+k)*M n (skip j k)*det n fun i l=>M i (skip j (skip k l))));have a1:cA n M (n+1)=M n:=by unfold cA;rw[if_neg (by lia),if_pos rfl]
  have a2:cA n M n=M (n+1):=by unfold cA;rw[if_pos rfl]
  have a3:(det n fun i l=>cA n M i (skip (k+1) (skip j l)))=det n fun i l=>M i (skip j (skip k l)):=bZ fun i l hi _=>by
   show cA n M i (skip (k+1) (skip j l))=M i (skip j (skip k l));rw[vJ hjk];unfold cA;rw[if_neg (by lia),if_neg (by lia)]
  have a4:skip (k+1) j=j:=by unfold skip;rw[if_pos (by lia)]
  have a5:skip j k=k+1:=by unfold skip;rw[if_neg (by lia)]
  rw[a1,a2,a3,a4,a5,nH,nH,show n+(k+1)=n+k+1 by lia,tX];generalize (det n fun i l=>M i (skip j (skip k l)))=dd;generalize sgn (n+k)=s1;generalize sgn (n+j)=s2;grind
 ·show (sgn (n+1+(k+1))*M (n+1) (k+1))*(sgn (n+j)*M n (skip (k+1) j)*det n fun i l=>M i (skip (k+1) (skip j l)))=- ((sgn (n+1+j)*cA n M (n+1) j)*(sgn (n+k)*cA n M n (skip j k)*det n fun i l=>cA n M i (skip j (skip k l))));have a1:cA n M (n+1)=M n:=by unfold cA;rw[if_neg (by lia),if_pos rfl]
  have a2:cA n M n=M (n+1):=by unfold cA;rw[if_pos rfl]
  have a3:(det n fun i l=>M i (skip (k+1) (skip j l)))=det n fun i l=>cA n M i (skip j (skip k l)):=bZ fun i l hi _=>by
   show M i (skip (k+1) (skip j l))=cA n M i (skip j (skip k l));rw[vJ hjk];unfold cA;rw[if_neg (by lia),if_neg (by lia)]
  have a4:skip (k+1) j=j:=by unfold skip;rw[if_pos (by lia)]
  have a5:skip j k=k+1:=by unfold skip;rw[if_neg (by lia)]
  rw[a1,a2,a3,a4,a5,nH,nH,show n+(k+1)=n+k+1 by lia,tX];generalize (det n fun i l=>cA n M i (skip j (skip k l)))=dd;generalize sgn (n+k)=s1;generalize sgn (n+j)=s2;grind
theorem kJ:∀(n a:Nat) (M:Mat),a+1 < n->det n (cA a M)=- det n M
 |0,_,_,h=>absurd h (by lia)
 |n+1,a,M,h=>by
  by_cases e:a+1=n
  ·subst e;exact wL a M
  ·rw[dG,dG,<- lW];refine aP fun j hj=>?_;have e1:cA a M n j=M n j:=by unfold cA;rw[if_neg (by lia),if_neg (by lia)]
   have e2:(det n fun i k=>cA a M i (skip j k))=- det n fun i k=>M i (skip j k):=by
    rw[<- kJ n a (fun i k=>M i (skip j k)) (by lia)];exact bZ fun i k _ _=>by
     show cA a M i (skip j k)=cA a (fun i k=>M i (skip j k)) i k;unfold cA;split
     ·rfl
     ·split<;>rfl
   rw[e1,e2];grind
theorem wP:∀(t n:Nat) (M:Mat) (i:Nat),i+t+1=n->(∀j,M i j=M n j)->det (n+1) M=0
 |0,n,M,i,h,e=>by
  have hn:n=i+1:=by lia
  subst hn;have s:=wL i M;have c:det (i+2) (cA i M)=det (i+2) M:=bZ fun k j _ _=>by
   unfold cA
   by_cases k1:k=i
   ·rw[if_pos k1,k1];exact(e j).symm
   ·rw[if_neg k1]
    by_cases k2:k=i+1
    ·rw[if_pos k2,k2];exact e j
    ·rw[if_neg k2]
  rw[c] at s;grind
 |t+1,n,M,i,h,e=>by
  have s:=kJ (n+1) i M (by lia);have z:=wP t n (cA i M) (i+1) (by lia) fun j=>by
   have a1:cA i M (i+1)=M i:=by unfold cA;rw[if_neg (by lia),if_pos rfl]
   have a2:cA i M n=M n:=by unfold cA;rw[if_neg (by lia),if_neg (by lia)]
   rw[a1,a2];exact e j
  rw[z] at s;grind
def xO (n:Nat)(S:Mat)(x:Nat->Rat):Mat:=fun i=>if i=n then x else S i
def F (n:Nat)(S:Mat)(c:Nat->Nat)(x:Nat->Rat):Rat:=det (n+1) (xO n (fun i j=>S i (c j)) fun j=>x (c j))
theorem Jz (n:Nat)(S:Mat)(c:Nat->Nat)(x:Nat->Rat):F n S c x=rs (n+1) fun j=>sgn (n+j)*x (c j)*det n fun i k=>S i (c (skip j k)):=by
 unfold F;rw[dG];refine aP fun j _=>?_;have e1:xO n (fun i j=>S i (c j)) (fun j=>x (c j)) n j=x (c j):=by unfold xO;rw[if_pos rfl]
 rw[e1,bZ fun i k hi _=>show xO n (fun i j=>S i (c j)) (fun j=>x (c j)) i (skip j k)=S i (c (skip j k)) by unfold xO;rw[if_neg (by lia)]]
theorem qa4 (n:Nat)(S:Mat)(c:Nat->Nat)(x y:Nat->Rat)(l:Rat):F n S c (fun j=>x j+l*y j)=F n S c x+l*F n S c y:=by
 rw[Jz,Jz,Jz,<- eV,<- dX];exact aP fun j _=>by grind
theorem Fx (n:Nat)(S:Mat)(c:Nat->Nat){i:Nat}(h:i < n):F n S c (S i)=0:=by
 unfold F;refine wP (n - i - 1) n _ i (by lia) fun j=>?_;unfold xO;rw[if_neg (by lia),if_pos rfl]
theorem yD (n:Nat)(S:Mat)(c:Nat->Nat)(x:Nat->Rat)(h:∀j,j < n->x (c j)=0):F n S c x=x (c n)*det n fun i j=>S i (c j):=by
 rw[Jz];show (rs n fun j=>sgn (n+j)*x (c j)*det n fun i k=>S i (c (skip j k)))+sgn (n+n)*x (c n)*(det n fun i k=>S i (c (skip n k)))=_;have z:(rs n fun j=>sgn (n+j)*x (c j)*det n fun i k=>S i (c (skip j k)))=rs n fun _=>0:=aP fun j hj=>by rw[h j hj];grind
 have s:sgn (n+n)=1:=by unfold sgn;rw[if_pos (by lia)]
 have d:(det n fun i k=>S i (c (skip n k)))=det n fun i j=>S i (c j):=bZ fun i k _ hk=>by show S i (c (skip n k))=_;unfold skip;rw[if_pos hk]
 rw[z,dM,s,d];grind
theorem Ar {n:Nat}{F:Nat->Rat}(h:∀i,i < n->∃z:Int,F i=(z:Rat)):∃z:Int,rs n F=(z:Rat):=by
 induction n with
 |zero=>exact⟨0,by simp[rs]⟩
 |succ n ih=>
  obtain⟨a,ha⟩:=ih fun i hi=>h i (by lia);obtain⟨b,hb⟩:=h n (by lia);exact⟨a+b,by simp only[rs];rw[ha,hb,Rat.intCast_add]⟩
theorem Hs (n:Nat):∃z:Int,sgn n=(z:Rat):=by
 unfold sgn;split
 ·exact⟨1,by simp⟩
 ·exact⟨-1,by rw[Rat.intCast_neg];simp⟩
theorem pA {a b:Rat}(h:∃z:Int,a=(z:Rat))(k:∃z:Int,b=(z:Rat)):∃z:Int,a*b=(z:Rat):=by
 obtain⟨x,rfl⟩:=h;obtain⟨y,rfl⟩:=k;exact⟨x*y,by rw[Rat.intCast_mul]⟩
theorem vT:∀{n:Nat} {M:Mat},(∀i j,∃z:Int,M i j=(z:Rat))->∃z:Int,det n M=(z:Rat)
 |0,_,_=>⟨1,by simp[det]⟩
 |n+1,M,h=>by
  rw[dG];exact Ar fun j _=>pA (pA (Hs _) (h n j)) (vT fun i k=>h i _)
theorem Sm {n:Nat}{S:Mat}{c:Nat->Nat}{x:Nat->Rat}(h:∀i j,∃z:Int,S i j=(z:Rat))(hx:∀j,∃z:Int,x j=(z:Rat)):∃z:Int,F n S c x=(z:Rat):=by
 unfold F;refine vT fun i j=>?_;unfold xO;split
 ·exact hx _
 ·exact h i _
def Lin (Φ:(Nat->Rat)->Rat):Prop:=∀x y l,Φ (fun j=>x j+l*y j)=Φ x+l*Φ y
theorem Lin.zero {Φ:(Nat->Rat)->Rat}(h:Lin Φ):Φ (fun _=>0)=0:=by
 have:=h (fun _=>0) (fun _=>0) 1;have e:(fun j:Nat=>(fun _=>(0:Rat)) j+1*(fun _=>(0:Rat)) j)=fun _=>0:=by funext j;show (0:Rat)+1*0=0;grind
 rw[e] at this;grind
theorem Lin.mul {Φ:(Nat->Rat)->Rat}(h:Lin Φ)(l:Rat)(y:Nat->Rat):Φ (fun j=>l*y j)=l*Φ y:=by
 have:=h (fun _=>0) y l;have e:(fun j:Nat=>(fun _=>(0:Rat)) j+l*y j)=fun j=>l*y j:=by funext j;show (0:Rat)+l*y j=_;grind
 rw[e,h.zero] at this;grind
theorem Lin.sum {Φ:(Nat->Rat)->Rat}(h:Lin Φ)(a:Nat->Rat)(Y:Nat->Nat->Rat):∀n,Φ (fun j=>rs n fun k=>a k*Y k j)=rs n fun k=>a k*Φ (Y k)
 |0=>h.zero
 |n+1=>by
  have:=h (fun j=>rs n fun k=>a k*Y k j) (Y n) (a n);simp only[rs];rw[this,Lin.sum h a Y n]
theorem Gx (n:Nat)(S:Mat)(c:Nat->Nat):Lin (F n S c):=fun x y l=>qa4 n S c x y l
def Wh (x:Rat):Prop:=∃z:Int,x=(z:Rat)
theorem Wh.mul {a b:Rat}(h:Wh a)(k:Wh b):Wh (a*b):=pA h k
theorem Wh.neg {a:Rat}(h:Wh a):Wh (-a):=by obtain⟨z,rfl⟩:=h;exact⟨-z,by rw[Rat.intCast_neg]⟩
theorem Wh.sub {a b:Rat}(h:Wh a)(k:Wh b):Wh (a - b):=by obtain⟨x,rfl⟩:=h;obtain⟨y,rfl⟩:=k;exact⟨x - y,by rw[Rat.intCast_sub]⟩
theorem Wh.one:Wh 1:=⟨1,by simp⟩
theorem Wh.nil:Wh 0:=⟨0,by simp⟩
structure Bar (m:Nat) (A E:Mat) (r col:Nat) (d:Rat) (c:Nat->Nat):Prop where
 dne:d≠0
 rm:r<=m
 rc:r<=col
 clt:∀j,j < r->c j < col
 cinj:∀i j,i < r->j < r->c i=c j->i=j
 wA:∀i j,Wh (A i j)
 wE:∀i j,i < m->Wh (E i j)
 i2:∀k j,k < r->j < r->E k (c j)=if j=k then d else 0
 i3:∀i x,r<=i->i < m->x < col->E i x=0
 i4:∀i x,i < m->d*A i x=(rs r fun k=>A i (c k)*E k x)+if i < r then 0 else E i x
 i5:det r (fun i j=>A i (c j))=d
 i6:∀Φ,Lin Φ->(∀s,s < r->Φ (A s)=0)->∀k,k < r->Φ (E k)=0
 full:r=col->∀j,j < r->c j=j
theorem Bar.start {m:Nat}{A:Mat}(wA:∀i j,Wh (A i j)):Bar m A A 0 0 1 id where
 dne:=by grind
 rm:=by lia
 rc:=by lia
 clt:=fun j h=>absurd h (by lia)
 cinj:=fun i j h=>absurd h (by lia)
 wA:=wA
 wE:=fun i j _=>wA i j
 i2:=fun k j h=>absurd h (by lia)
 i3:=fun i x _ _ h=>absurd h (by lia)
 i4:=fun i x _=>by simp only[rs];rw[if_neg (by lia)];grind
 i5:=rfl
 i6:=fun Φ _ _ k h=>absurd h (by lia)
 full:=fun _ j h=>absurd h (by lia)
section
variable {m:Nat} {A E:Mat} {r col:Nat} {d:Rat} {c:Nat->Nat}
theorem Bar.skip (h:Bar m A E r col d c)(hz:∀i,r<=i->i < m->E i col=0):Bar m A E r (col+1) d c:=
 { h with
  rc:=by have:=h.rc;lia
  clt:=fun j hj=>by have:=h.clt j hj;lia
  i3:=fun i x hi hm hx=>by
   by_cases e:x=col
   ·rw[e];exact hz i hi hm
   ·exact h.i3 i x hi hm (by lia)
  full:=fun e=>by have:=h.rc;lia }
def sw (p r i:Nat):Nat:=if i=r then p else if i=p then r else i
theorem wD {p r i:Nat}(hp:r<=p)(hi:i < r):sw p r i=i:=by unfold sw;rw[if_neg (by lia),if_neg (by lia)]
theorem Vd {p r i:Nat}(hp:r<=p)(hi:r<=i):r<=sw p r i:=by unfold sw;split;exact hp;split<;>lia
theorem yS {p r i m:Nat}(hp:p < m)(hr:r < m)(hi:i < m):sw p r i < m:=by unfold sw;split;exact hp;split<;>lia
theorem Mn (p r i:Nat):sw p r (sw p r i)=i:=by
 unfold sw
 by_cases h1:i=r
 ·rw[if_pos h1]
  by_cases h2:p=r
  ·rw[if_pos h2];lia
  ·rw[if_neg h2,if_pos rfl];exact h1.symm
 ·rw[if_neg h1]
  by_cases h2:i=p
  ·rw[if_pos h2,if_pos rfl];exact h2.symm
  ·rw[if_neg h2,if_neg h1,if_neg h2]
theorem Bar.swap (h:Bar m A E r col d c){p:Nat}(hp:r<=p)(hpm:p < m):Bar m (fun i=>A (sw p r i)) (fun i=>E (sw p r i)) r col d c:=
 { h with
  wA:=fun i j=>h.wA _ j
  wE:=fun i j hi=>h.wE _ j (yS hpm (by lia) hi)
  i2:=fun k j hk hj=>by
   show E (sw p r k) (c j)=_;rw[wD hp hk];exact h.i2 k j hk hj
  i3:=fun i x hi hm hx=>h.i3 _ x (Vd hp hi) (yS hpm (by lia) hm) hx
  i4:=fun i x hm=>by
   have e:(rs r fun k=>A (sw p r i) (c k)*E (sw p r k) x)=rs r fun k=>A (sw p r i) (c k)*E k x:=aP fun k hk=>by rw[wD hp hk]
   show d*A (sw p r i) x=(rs r fun k=>A (sw p r i) (c k)*E (sw p r k) x)+_;rw[e,h.i4 _ x (yS hpm (by lia) hm)];congr 1
   by_cases hi:i < r
   ·rw[wD hp hi,if_pos hi]
   ·have:=Vd hp (show r<=i by lia);rw[if_neg (by lia),if_neg hi]
  i5:=by
   rw[<- h.i5];exact bZ fun i j hi _=>by show A (sw p r i) (c j)=_;rw[wD hp hi]
  i6:=fun Φ hΦ hs k hk=>by
   show Φ (E (sw p r k))=0;rw[wD hp hk];exact h.i6 Φ hΦ (fun s hs'=>by have:=hs s hs';rwa [wD hp hs'] at this) k hk }
def clr (E:Mat)(r col:Nat)(d:Rat):Mat:=fun k x=>if k=r then E r x else (E r col*E k x - E k col*E r x) / d
def c1 (c:Nat->Nat)(r col:Nat):Nat->Nat:=fun j=>if j=r then col else c j
theorem hG (c:Nat->Nat){r col j:Nat}(h:j < r):c1 c r col j=c j:=by unfold c1;rw[if_neg (by lia)]
theorem lD (c:Nat->Nat)(r col:Nat):c1 c r col r=col:=by unfold c1;rw[if_pos rfl]
theorem zI (E:Mat)(r col:Nat)(d:Rat):clr E r col d r=E r:=by funext x;unfold clr;rw[if_pos rfl]
theorem kD (E:Mat){r col k:Nat}{d:Rat}(h:k≠r)(x:Nat):clr E r col d k x=(E r col*E k x - E k col*E r x) / d:=by unfold clr;rw[if_neg h]
theorem Bar.j2 (h:Bar m A E r col d c)(hr:r < m):∀k j,k < r+1->j < r+1->clr E r col d k (c1 c r col j)=if j=k then E r col else 0:=fun k j hk hj=>by
 have hd:=h.dne
 by_cases kr:k=r
 ·subst kr;rw[zI]
  by_cases jr:j=k
  ·rw[if_pos jr,jr,lD]
  ·rw[if_neg jr,hG c (by lia)];exact h.i3 k _ (Nat.le_refl _) hr (h.clt j (by lia))
 ·rw[kD E kr]
  by_cases jr:j=r
  ·subst jr;rw[lD,if_neg (by lia)];grind
  ·rw[hG c (by lia),h.i2 k j (by lia) (by lia),h.i3 r (c j) (Nat.le_refl _) hr (h.clt j (by lia))]
   by_cases e:j=k
   ·rw[if_pos e,if_pos e];grind
   ·rw[if_neg e,if_neg e];grind
theorem Bar.j4 (h:Bar m A E r col d c)(hr:r < m):∀i x,i < m->E r col*A i x=(rs (r+1) fun k=>A i (c1 c r col k)*clr E r col d k x)+if i < r+1 then 0 else clr E r col d i x:=fun i x hi=>by
 have hd:=h.dne;have q:=h.i4 i x hi;have q2:=h.i4 i col hi;show _=(rs r fun k=>A i (c1 c r col k)*clr E r col d k x)+A i (c1 c r col r)*clr E r col d r x+_;rw[lD,zI];have e:(rs r fun k=>A i (c1 c r col k)*clr E r col d k x)=(E r col / d)*(rs r fun k=>A i (c k)*E k x)+(-(E r x / d))*rs r fun k=>A i (c k)*E k col:=by
  rw[<- eV,<- eV,<- dX];exact aP fun k hk=>by rw[hG c hk,kD E (by lia)];grind
 rw[e];generalize (rs r fun k=>A i (c k)*E k x)=s1 at q ⊢;generalize (rs r fun k=>A i (c k)*E k col)=s2 at q2 ⊢
 by_cases h1:i < r
 ·rw[if_pos h1] at q q2;rw[if_pos (by lia)];have:s1=d*A i x:=by grind
  have:s2=d*A i col:=by grind
  subst s1 s2;grind
 ·rw[if_neg h1] at q q2;have a1:s1=d*A i x - E i x:=by grind
  have a2:s2=d*A i col - E i col:=by grind
  subst a1 a2
  by_cases h2:i=r
  ·subst h2;rw[if_pos (by lia)];grind
  ·rw[if_neg (by lia),kD E h2];grind
theorem Bar.j6 (h:Bar m A E r col d c)(hr:r < m):∀Φ,Lin Φ->(∀s,s < r+1->Φ (A s)=0)->∀k,k < r+1->Φ (clr E r col d k)=0:=fun Φ hΦ hs k hk=>by
 have hd:=h.dne;have z:=h.i6 Φ hΦ fun s hs'=>hs s (by lia);have zr:Φ (E r)=0:=by
  have e:E r=fun x=>(fun x=>d*A r x) x+(-1)*(fun x=>rs r fun k=>A r (c k)*E k x) x:=by
   funext x
   have:=h.i4 r x hr;rw[if_neg (by lia)] at this;show E r x=d*A r x+(-1)*(rs r fun k=>A r (c k)*E k x)
   grind
  rw[e,hΦ,hΦ.mul,hΦ.sum,hs r (by lia)];have:(rs r fun k=>A r (c k)*Φ (E k))=rs r fun _=>0:=aP fun k hk=>by rw[z k hk];grind
  rw[this,dM];grind
 by_cases kr:k=r
 ·rw[kr,zI];exact zr
 ·have e:clr E r col d k=fun x=>(fun x=>(E r col / d)*E k x) x+(-(E k col / d))*E r x:=by
   funext x
   rw[kD E kr];show _=(E r col / d)*E k x+(-(E k col / d))*E r x;grind
  rw[e,hΦ,hΦ.mul,z k (by lia),zr];grind
theorem Bar.j5 (h:Bar m A E r col d c)(hr:r < m):det (r+1) (fun i j=>A i (c1 c r col j))=E r col:=by
 have hd:=h.dne;have e1:det (r+1) (fun i j=>A i (c1 c r col j))=F r A (c1 c r col) (A r):=by
  unfold F;exact bZ fun i j hi _=>by
   unfold xO
   by_cases e:i=r
   ·rw[if_pos e,e]
   ·rw[if_neg e]
 have hΦ:=Gx r A (c1 c r col);have z:=h.i6 _ hΦ fun s hs=>Fx r A (c1 c r col) hs;have eA:A r=fun x=>(fun x=>(1 / d)*E r x) x+(1 / d)*(fun x=>rs r fun k=>A r (c k)*E k x) x:=by
  funext x
  have:=h.i4 r x hr;rw[if_neg (by lia)] at this;show A r x=(1 / d)*E r x+(1 / d)*(rs r fun k=>A r (c k)*E k x)
  grind
 have zs:(rs r fun k=>A r (c k)*F r A (c1 c r col) (E k))=0:=by
  have:(rs r fun k=>A r (c k)*F r A (c1 c r col) (E k))=rs r fun _=>0:=aP fun k hk=>by rw[z k hk];grind
  rw[this,dM]
 have fb:=yD r A (c1 c r col) (E r) fun j hj=>by rw[hG c hj];exact h.i3 r _ (Nat.le_refl _) hr (h.clt j hj)
 have dd:(det r fun i j=>A i (c1 c r col j))=d:=by rw[<- h.i5];exact bZ fun i j _ hj=>by show A i (c1 c r col j)=_;rw[hG c hj]
 rw[lD,dd] at fb;rw[e1,eA,hΦ,hΦ.mul,hΦ.sum,zs,fb];grind
theorem Bar.wV (h:Bar m A E r col d c)(hr:r < m)(he:E r col≠0):∀i x,i < m->Wh (clr E r col d i x):=by
 have j2:=h.j2 hr;have j4:=h.j4 hr;have j5:=h.j5 hr;have j6:=h.j6 hr;have cin:∀i j,i < r+1->j < r+1->c1 c r col i=c1 c r col j->i=j:=fun i j hi hj e=>by
  by_cases a:i=r
  ·by_cases b:j=r
   ·lia
   ·rw[a,lD,hG c (by lia)] at e;have:=h.clt j (by lia);lia
  ·by_cases b:j=r
   ·rw[b,lD,hG c (by lia)] at e;have:=h.clt i (by lia);lia
   ·rw[hG c (by lia),hG c (by lia)] at e;exact h.cinj i j (by lia) (by lia) e
 have top:∀k x,k < r+1->Wh (clr E r col d k x):=fun k x hk=>by
  by_cases hx:∃j,j < r+1/\x=c1 c r col j
  ·obtain⟨j,hj,rfl⟩:=hx;rw[j2 k j hk hj];split
   ·exact h.wE r col hr
   ·exact Wh.nil
  ·let c2:Nat->Nat:=fun j=>if j=r+1 then x else c1 c r col j
   let u:Nat->Rat:=fun j=>if j=c1 c r col k then 1 else 0
   have hΦ:=Gx (r+1) A c2;have z:=j6 _ hΦ (fun s hs=>Fx (r+1) A c2 hs) k hk;have eu:u=fun y=>(fun y=>u y+(-(1 / E r col))*clr E r col d k y) y+(1 / E r col)*clr E r col d k y:=by
    funext y
    show u y=u y+(-(1 / E r col))*clr E r col d k y+(1 / E r col)*clr E r col d k y;grind
   have fb:=yD (r+1) A c2 (fun y=>u y+(-(1 / E r col))*clr E r col d k y) fun j hj=>by
    have ec:c2 j=c1 c r col j:=by show (if j=r+1 then x else c1 c r col j)=_;rw[if_neg (by lia)]
    rw[ec];show u (c1 c r col j)+(-(1 / E r col))*clr E r col d k (c1 c r col j)=0;rw[j2 k j hk hj];show (if c1 c r col j=c1 c r col k then (1:Rat) else 0)+_=0
    by_cases e:j=k
    ·rw[if_pos e,if_pos (by rw[e])];grind
    ·rw[if_neg e,if_neg (fun q=>e (cin j k hj hk q))];grind
   have dd:(det (r+1) fun i j=>A i (c2 j))=E r col:=by
    rw[<- j5];exact bZ fun i j _ hj=>by show A i (if j=r+1 then x else c1 c r col j)=_;rw[if_neg (by lia)]
   have ux:u x=0:=by show (if x=c1 c r col k then (1:Rat) else 0)=0;rw[if_neg (fun q=>hx ⟨k,hk,q⟩)]
   have cx:c2 (r+1)=x:=by show (if r+1=r+1 then x else _)=x;rw[if_pos rfl]
   rw[dd,cx] at fb;have val:F (r+1) A c2 u=- clr E r col d k x:=by
    rw[eu,hΦ,z,fb];show (u x+(-(1 / E r col))*clr E r col d k x)*E r col+_=_;rw[ux];grind
   have wh:Wh (F (r+1) A c2 u):=Sm h.wA fun j=>by
    show Wh (if j=c1 c r col k then (1:Rat) else 0);split
    ·exact Wh.one
    ·exact Wh.nil
   rw[val] at wh;have:=wh.neg
   rwa [show - - clr E r col d k x=clr E r col d k x by grind] at this
 intro i x hi
 by_cases h1:i < r+1
 ·exact top i x h1
 ·have q:=j4 i x hi;rw[if_neg h1] at q;have e:clr E r col d i x=E r col*A i x - rs (r+1) fun k=>A i (c1 c r col k)*clr E r col d k x:=by grind
  rw[e];exact Wh.sub (Wh.mul (h.wE r col hr) (h.wA i x)) (Ar fun k hk=>Wh.mul (h.wA _ _) (top k x hk))
theorem Bar.clear (h:Bar m A E r col d c)(hr:r < m)(he:E r col≠0):Bar m A (clr E r col d) (r+1) (col+1) (E r col) (c1 c r col) where
 dne:=he
 rm:=hr
 rc:=by have:=h.rc;lia
 clt:=fun j hj=>by
  by_cases e:j=r
  ·rw[e,lD];lia
  ·rw[hG c (by lia)];have:=h.clt j (by lia);lia
 cinj:=fun i j hi hj e=>by
  by_cases a:i=r
  ·by_cases b:j=r
   ·lia
   ·rw[a,lD,hG c (by lia)] at e;have:=h.clt j (by lia);lia
  ·by_cases b:j=r
   ·rw[b,lD,hG c (by lia)] at e;have:=h.clt i (by lia);lia
   ·rw[hG c (by lia),hG c (by lia)] at e;exact h.cinj i j (by lia) (by lia) e
 wA:=h.wA
 wE:=fun i j hi=>h.wV hr he i j hi
 i2:=h.j2 hr
 i3:=fun i x hi hm hx=>by
  rw[kD E (by lia)]
  by_cases e:x=col
  ·rw[e];grind
  ·rw[h.i3 i x (by lia) hm (by lia),h.i3 r x (Nat.le_refl _) hr (by lia)];grind
 i4:=h.j4 hr
 i5:=h.j5 hr
 i6:=h.j6 hr
 full:=fun e j hj=>by
  by_cases a:j=r
  ·rw[a,lD];lia
  ·rw[hG c (by lia)];exact h.full (by lia) j (by lia)
end
def ent (R:List (List Int))(i x:Nat):Int:=(R.getD i []).getD x 0
def at2 (R:List (List Int)):Mat:=fun i x=>((ent R i x:Int):Rat)
theorem Bar.congr {m:Nat}{A E E':Mat}{r col:Nat}{d:Rat}{c:Nat->Nat}(h:Bar m A E r col d c)(e:∀i,i < m->E i=E' i):Bar m A E' r col d c:=
 { h with
  wE:=fun i j hi=>by rw[<- e i hi];exact h.wE i j hi
  i2:=fun k j hk hj=>by rw[<- e k (by have:=h.rm;lia)];exact h.i2 k j hk hj
  i3:=fun i x hi hm hx=>by rw[<- e i hm];exact h.i3 i x hi hm hx
  i4:=fun i x hm=>by
   rw[h.i4 i x hm];congr 1
   ·exact aP fun k hk=>by rw[e k (by have:=h.rm;lia)]
   ·rw[e i hm]
  i6:=fun Φ hΦ hs k hk=>by rw[<- e k (by have:=h.rm;lia)];exact h.i6 Φ hΦ hs k hk }
theorem Mp (n:Nat):∀(t p r:Nat) (A:Mat),p=r+t+1->p < n->det n (fun i=>A (sw p r i))=- det n A
 |0,p,r,A,h,hp=>by
  subst h;rw[<- kJ n r A (by lia)];exact bZ fun i j _ _=>by
   show A (sw (r+0+1) r i) j=cA r A i j;unfold sw cA
   by_cases h1:i=r
   ·rw[if_pos h1,if_pos h1]
   ·rw[if_neg h1,if_neg h1]
    by_cases h2:i=r+1
    ·rw[if_pos (by lia),if_pos h2]
    ·rw[if_neg (by lia),if_neg h2]
 |t+1,p,r,A,h,hp=>by
  have ih:=Mp n t (r+t+1) r (cA (r+t+1) A) rfl (by lia);have s1:=kJ n (r+t+1) A (by lia);have s2:=kJ n (r+t+1) (fun i=>cA (r+t+1) A (sw (r+t+1) r i)) (by lia);have e:det n (fun i=>A (sw p r i))=det n (cA (r+t+1) (fun i=>cA (r+t+1) A (sw (r+t+1) r i))):=bZ fun i j _ _=>by
   subst h;show A (sw (r+(t+1)+1) r i) j=cA (r+t+1) (fun i=>cA (r+t+1) A (sw (r+t+1) r i)) i j
   by_cases h1:i=r
   ·have a1:sw (r+(t+1)+1) r i=r+t+1+1:=by unfold sw;rw[if_pos h1];lia
    have a2:sw (r+t+1) r i=r+t+1:=by unfold sw;rw[if_pos h1]
    rw[a1];unfold cA;rw[if_neg (by lia),if_neg (by lia)];dsimp only;rw[a2,if_pos rfl]
   ·by_cases h2:i=r+t+1+1
    ·have a1:sw (r+(t+1)+1) r i=r:=by unfold sw;rw[if_neg h1,if_pos (by lia)]
     have a2:sw (r+t+1) r (r+t+1)=r:=by unfold sw;rw[if_neg (by lia),if_pos rfl]
     rw[a1];unfold cA;rw[if_neg (by lia),if_pos h2];dsimp only;rw[a2,if_neg (by lia),if_neg (by lia)]
    ·have a1:sw (r+(t+1)+1) r i=i:=by unfold sw;rw[if_neg h1,if_neg (by lia)]
     rw[a1]
     by_cases h3:i=r+t+1
     ·have a2:sw (r+t+1) r (r+t+1+1)=r+t+1+1:=by unfold sw;rw[if_neg (by lia),if_neg (by lia)]
      unfold cA;rw[if_pos h3];dsimp only;rw[a2,if_neg (by lia),if_pos rfl,h3]
     ·have a2:sw (r+t+1) r i=i:=by unfold sw;rw[if_neg h1,if_neg h3]
      unfold cA;rw[if_neg h3,if_neg h2];dsimp only;rw[a2,if_neg h3,if_neg h2]
  rw[e,s2,ih,s1];grind
def eX (R:List (List Int))(p r:Nat):List (List Int):=(R.set p (R.getD r [])).set r (R.getD p [])
theorem Xg (R:List (List Int))(p r:Nat):(eX R p r).length=R.length:=by unfold eX;simp
theorem yG {R:List (List Int)}{p r:Nat}(hp:p < R.length)(hr:r < R.length)(i:Nat):(eX R p r).getD i []=R.getD (sw p r i) []:=by
 unfold eX sw;rw[getD_eq_getElem?_getD]
 by_cases h1:i=r
 ·rw[if_pos h1,h1,getElem?_set_self (by simpa using hr)];rfl
 ·rw[if_neg h1,getElem?_set_ne (Ne.symm h1)]
  by_cases h2:i=p
  ·rw[if_pos h2,h2,getElem?_set_self hp];rfl
  ·rw[if_neg h2,getElem?_set_ne (Ne.symm h2),getD_eq_getElem?_getD]
def fP (upper row:List Int)(col:Nat)(dv:Int):List Int:=zipWith (fun here above=>Int.fdiv (upper.getD col 0*here - row.getD col 0*above) dv) row upper
def cB (R:List (List Int))(r col:Nat)(dv:Int):List (List Int):=R.mapIdx fun i row=>if i=r then row else fP (R.getD r []) row col dv
theorem Gi (R:List (List Int))(r col:Nat)(dv:Int):(cB R r col dv).length=R.length:=by unfold cB;simp
theorem mY {R:List (List Int)}{i:Nat}(hi:i < R.length)(r col:Nat)(dv:Int):(cB R r col dv).getD i []=if i=r then R.getD i [] else fP (R.getD r []) (R.getD i []) col dv:=by
 unfold cB;rw[getD_eq_getElem?_getD,getElem?_mapIdx,getElem?_eq_getElem hi];have:R.getD i []=R[i]:=by rw[getD_eq_getElem?_getD,getElem?_eq_getElem hi];rfl
 rw[this];rfl
structure SI (m w:Nat) (A0:Mat) (R:List (List Int)) (r col:Nat) (d sg:Int):Prop where
 len:R.length=m
 wid:∀i,i < m->(R.getD i []).length=w
 bar:∃A c,Bar m A (at2 R) r col (d:Rat) c/\det m A=(sg:Rat)*det m A0
 one:sg=1\/sg=-1
theorem SI.start {m w:Nat}{R:List (List Int)}(h:R.length=m)(hw:∀i,i < m->(R.getD i []).length=w):SI m w (at2 R) R 0 0 1 1:=
 ⟨h,hw,⟨at2 R,id,by
  have:=Bar.start (m:=m) (A:=at2 R) fun i j=>⟨_,rfl⟩
  simpa using this,by simp⟩,.inl rfl⟩
theorem SI.skip {m w:Nat}{A0:Mat}{R:List (List Int)}{r col:Nat}{d sg:Int}(h:SI m w A0 R r col d sg)(hz:∀i,r<=i->i < m->ent R i col=0):SI m w A0 R r (col+1) d sg:=by
 obtain⟨A,c,B,e⟩:=h.bar;exact⟨h.len,h.wid,⟨A,c,B.skip fun i h1 h2=>by unfold at2;rw[hz i h1 h2];simp,e⟩,h.one⟩
theorem SI.swap {m w:Nat}{A0:Mat}{R:List (List Int)}{r col:Nat}{d sg:Int}(h:SI m w A0 R r col d sg){p:Nat}(hp:r < p)(hm:p < m):SI m w A0 (eX R p r) r col d (-sg):=by
 obtain⟨A,c,B,e⟩:=h.bar;have hl:=h.len;have gd:=fun i=>yG (R:=R) (p:=p) (r:=r) (by lia) (by lia) i;refine⟨(Xg R p r).trans hl,fun i hi=>?_,⟨_,c,(B.swap (by lia) hm).congr fun i hi=>?_,?_⟩,?_⟩
 ·rw[gd i];exact h.wid _ (yS hm (by lia) hi)
 ·funext x
  show (((R.getD (sw p r i) []).getD x 0:Int):Rat)=((((eX R p r).getD i []).getD x 0:Int):Rat)
  rw[gd i]
 ·rw[Mp m (p - r - 1) p r A (by lia) hm,e,Rat.intCast_neg];grind
 ·rcases h.one with z | z
  ·right;lia
  ·left;lia
theorem kN {l:List Int}{x:Nat}(h:x < l.length):l[x]?=some (l.getD x 0):=by rw[getD_eq_getElem?_getD,getElem?_eq_getElem h];rfl
theorem uC {l:List Int}{x:Nat}(h:l.length<=x):l.getD x 0=0:=by rw[getD_eq_getElem?_getD,getElem?_eq_none h];rfl
theorem Gh {m w:Nat}{A A0:Mat}{R:List (List Int)}{r col:Nat}{d sg:Int}(h:SI m w A0 R r col d sg){c:Nat->Nat}(B:Bar m A (at2 R) r col (d:Rat) c)(hr:r < m)(hc:col < w)(he:ent R r col≠0){i:Nat}(hi:i < m)(hir:i≠r)(x:Nat) :
  ∃z:Int,(fP (R.getD r []) (R.getD i []) col d).getD x 0=z/\(z:Rat)=clr (at2 R) r col (d:Rat) i x/\(x < w->ent R r col*ent R i x - ent R i col*ent R r x=d*z):=by
 have dn:d≠0:=fun z=>B.dne (by rw[z];simp);have dq:=B.dne;have heq:at2 R r col≠0:=fun z=>he (Rat.intCast_inj.mp (by unfold at2 at z;simpa using z));have wi:=h.wid i hi;have wr:=h.wid r hr
 by_cases hx:x < w
 ·obtain⟨z,hz⟩:=B.wV hr heq i x hi;have e1:ent R r col*ent R i x - ent R i col*ent R r x=d*z:=by
   rw[kD _ hir] at hz;have:((ent R r col*ent R i x - ent R i col*ent R r x:Int):Rat)=((d*z:Int):Rat):=by
    rw[Rat.intCast_sub,Rat.intCast_mul,Rat.intCast_mul,Rat.intCast_mul,<- hz];show at2 R r col*at2 R i x - at2 R i col*at2 R r x=_;grind
   exact Rat.intCast_inj.mp this
  refine⟨z,?_,hz.symm,fun _=>e1⟩;unfold fP;have g1:(R.getD i [])[x]?=some ((R.getD i []).getD x 0):=kN (by lia);have g2:(R.getD r [])[x]?=some ((R.getD r []).getD x 0):=kN (by lia);rw[getD_eq_getElem?_getD (l:=zipWith _ _ _),getElem?_zipWith,g1,g2];exact eK dn e1
 ·refine⟨0,?_,?_,fun h=>absurd h hx⟩
  ·unfold fP;exact uC (by rw[length_zipWith,wi,wr];lia)
  ·rw[kD _ hir];have a1:at2 R i x=0:=by unfold at2 ent;rw[uC (by lia)];simp
   have a2:at2 R r x=0:=by unfold at2 ent;rw[uC (by lia)];simp
   rw[a1,a2];simp;grind
theorem SI.clear {m w:Nat}{A0:Mat}{R:List (List Int)}{r col:Nat}{d sg:Int}(h:SI m w A0 R r col d sg)(hr:r < m)(hc:col < w)(he:ent R r col≠0):SI m w A0 (cB R r col d) (r+1) (col+1) (ent R r col) sg:=by
 obtain⟨A,c,B,e⟩:=h.bar;have hl:=h.len;have heq:at2 R r col≠0:=fun z=>he (Rat.intCast_inj.mp (by unfold at2 at z;simpa using z));refine⟨(Gi R r col d).trans hl,fun i hi=>?_,⟨A,_,(B.clear hr heq).congr fun i hi=>?_,e⟩,h.one⟩
 ·rw[mY (by lia)];split
  ·exact h.wid i hi
  ·unfold fP;rw[length_zipWith,h.wid i hi,h.wid r hr,Nat.min_self]
 ·funext x
  show clr (at2 R) r col (d:Rat) i x=((((cB R r col d).getD i []).getD x 0:Int):Rat)
  rw[mY (by lia)]
  by_cases hir:i=r
  ·rw[if_pos hir,hir,zI];rfl
  ·rw[if_neg hir];obtain⟨z,h1,h2,_⟩:=Gh h B hr hc he hi hir x;rw[h1,h2]
def BdR (n:Nat)(R:List (List Int)):Prop:=∀i x,B n (ent R i x)
theorem SI.whole {m w:Nat}{A0:Mat}{R:List (List Int)}{d sg:Int}(h:SI m w A0 R m m d sg):det m A0=(sg:Rat)*(d:Rat):=by
 obtain⟨A,c,B,e⟩:=h.bar;have f:=B.full rfl;have i5:=B.i5;have:det m (fun i j=>A i (c j))=det m A:=bZ fun i j _ hj=>by show A i (c j)=A i j;rw[f j hj]
 rw[this,e] at i5;rcases h.one with z | z
 ·rw[z] at i5 ⊢;simp at i5 ⊢;exact i5
 ·rw[z,Rat.intCast_neg] at i5 ⊢;simp at i5 ⊢;grind
theorem SI.lame {m w:Nat}{A0:Mat}{R:List (List Int)}{r:Nat}{d sg:Int}(h:SI m w A0 R r m d sg)(hr:r < m):det m A0=0:=by
 obtain⟨A,c,B,e⟩:=h.bar;obtain⟨n,rfl⟩:∃n,m=n+1:=⟨m - 1,by lia⟩
 have dq:=B.dne;have e1:det (n+1) A=F n A id (A n):=by
  unfold F;exact bZ fun i j hi _=>by
   unfold xO
   by_cases z:i=n
   ·rw[if_pos z,z];rfl
   ·rw[if_neg z];rfl
 have hΦ:=Gx n A id;have z:=B.i6 _ hΦ fun s hs=>Fx n A id (by lia);have eA:A n=fun x=>(fun x=>(1 / (d:Rat))*at2 R n x) x+(1 / (d:Rat))*(fun x=>rs r fun k=>A n (c k)*at2 R k x) x:=by
  funext x
  have:=B.i4 n x (by lia);rw[if_neg (by lia)] at this;show A n x=(1 / (d:Rat))*at2 R n x+(1 / (d:Rat))*(rs r fun k=>A n (c k)*at2 R k x)
  grind
 have zs:(rs r fun k=>A n (c k)*F n A id (at2 R k))=0:=by
  have:(rs r fun k=>A n (c k)*F n A id (at2 R k))=rs r fun _=>0:=aP fun k hk=>by rw[z k hk];grind
  rw[this,dM]
 have zn:F n A id (at2 R n)=0:=by
  rw[Jz];have:(rs (n+1) fun j=>sgn (n+j)*at2 R n (id j)*det n fun i k=>A i (id (Mq.skip j k)))=rs (n+1) fun _=>0:=aP fun j hj=>by
   rw[show at2 R n (id j)=0 from B.i3 n j (by lia) (by lia) hj];grind
  rw[this,dM]
 have:det (n+1) A=0:=by
  rw[e1,eA,hΦ,hΦ.mul,hΦ.sum,zs,zn];grind
 rw[this] at e;rcases h.one with q | q
 ·rw[q] at e;simp at e;exact e.symm
 ·rw[q,Rat.intCast_neg] at e;simp at e;grind
def Hk:Nat->(Nat->Rat)->Rat
 |0,_=>1
 |n+1,b=>Hk n b*b n
theorem kU:∀(n:Nat) (b:Nat->Rat) (Q:Mat),det n (fun i j=>b i*Q i j)=Hk n b*det n Q
 |0,_,_=>by simp[det,Hk]
 |n+1,b,Q=>by
  rw[dG,dG,<- eV];refine aP fun j _=>?_;have:=kU n b (fun i k=>Q i (Mq.skip j k));show sgn (n+j)*(b n*Q n j)*det n (fun i k=>b i*Q i (Mq.skip j k))=Hk n b*b n*_;rw[this];grind
end Mq
open Mq (BdR Hk Mat SI bZ cB eX fP kN kU mY oI yG)
namespace Shp
open PySem L2
inductive Imx (D:Addr) (H:Hp):List V->List (List Int)->Prop where
 |nil:Imx D H [] []
 |cons {u:Addr} {r:List Int} {us:List V} {R:List (List Int)} (ne:u≠D) (h:H u=some (.lst (r.map V.int))) (q:Imx D H us R):Imx D H (.ref u :: us) (r :: R)
theorem Imx.same {D:Addr}{H H':Hp}(e:aT H H'):∀{xs:List V} {R:List (List Int)},Imx D H xs R->Imx D H' xs R
 |_,_,.nil=>.nil
 |_,_,.cons n h q=>.cons n (e _ _ h) (q.same e)
theorem Imx.upd {D:Addr}{H:Hp}{o:HO}:∀{xs:List V} {R:List (List Int)},Imx D H xs R->Imx D (L2.upd H D o) xs R
 |_,_,.nil=>.nil
 |_,_,.cons n h q=>.cons n (by rw[aW n];exact h) q.upd
theorem Imx.length {D:Addr}{H:Hp}:∀{xs:List V} {R:List (List Int)},Imx D H xs R->xs.length=R.length
 |_,_,.nil=>rfl
 |_,_,.cons _ _ q=>by rw[length_cons,length_cons,q.length]
theorem Imx.get {D:Addr}{H:Hp}:∀{xs:List V} {R:List (List Int)} {i:Nat} {x:V},Imx D H xs R->xs[i]?=some x->∃u r,x=.ref u/\R[i]?=some r/\u≠D/\H u=some (.lst (r.map V.int))
 |_,_,0,_,.cons n h q,e=>by simp at e;exact⟨_,_,e.symm,rfl,n,h⟩
 |_,_,i+1,_,.cons n h q,e=>by simp at e;exact q.get e
theorem Imx.at {D:Addr}{H:Hp}{xs:List V}{R:List (List Int)}(h:Imx D H xs R){i:Nat}(hi:i < R.length):∃u,xs[i]?=some (.ref u)/\u≠D/\H u=some (.lst ((R.getD i []).map V.int)):=by
 have hx:i < xs.length:=by rw[h.length];exact hi
 obtain⟨u,r,e1,e2,e3,e4⟩:=h.get (getElem?_eq_getElem hx);refine⟨u,by rw[getElem?_eq_getElem hx,e1],e3,?_⟩;rw[getD_eq_getElem?_getD,e2];exact e4
theorem Imx.app {D:Addr}{H:Hp}:∀{xs ys:List V} {R S:List (List Int)},Imx D H xs R->Imx D H ys S->Imx D H (xs++ys) (R++S)
 |_,_,_,_,.nil,k=>k
 |_,_,_,_,.cons n h q,k=>.cons n h (q.app k)
theorem Imx.set {D:Addr}{H:Hp}{u:Addr}{r:List Int}(hn:u≠D)(hu:H u=some (.lst (r.map V.int))):∀{xs:List V} {R:List (List Int)} (i:Nat),Imx D H xs R->Imx D H (xs.set i (.ref u)) (R.set i r)
 |_,_,_,.nil=>by simp;exact .nil
 |_,_,0,.cons n h q=>.cons hn hu q
 |_,_,i+1,.cons n h q=>.cons n h (q.set hn hu i)
theorem Imx.other {D D':Addr}{H:Hp}(hD:H D'=none):∀{xs:List V} {R:List (List Int)},Imx D H xs R->Imx D' H xs R
 |_,_,.nil=>.nil
 |_,_,.cons n h q=>.cons (fun z=>by rw[z,hD] at h;cases h) h (q.other hD)
inductive Wmx (K:Frag) (D:Addr) (H:Hp):List V->List (List Int × Int)->Prop where
 |nil:Wmx K D H [] []
 |cons {t l:Addr} {r:List Int × Int} {us:List V} {rs:List (List Int × Int)} (ne:l≠D) (h:SqT K H t [.ref l,.int r.2]) (f:H l=some (.lst (r.1.map V.int))) (q:Wmx K D H us rs):Wmx K D H (.ref t :: us) (r :: rs)
theorem Wmx.same {K:Frag}{D:Addr}{H H':Hp}(e:aT H H'):∀{xs:List V} {rs:List (List Int × Int)},Wmx K D H xs rs->Wmx K D H' xs rs
 |_,_,.nil=>.nil
 |_,_,.cons n h f q=>.cons n (e.seqT h) (e _ _ f) (q.same e)
theorem Wmx.upd {K:Frag}{D:Addr}{H:Hp}{ys:List V}{o:HO}(hl:H D=some (.lst ys)):∀{xs:List V} {rs:List (List Int × Int)},Wmx K D H xs rs->Wmx K D (L2.upd H D o) xs rs
 |_,_,.nil=>.nil
 |_,_,.cons n h f q=>.cons n (h.upd hl) (by rw[aW n];exact f) (q.upd hl)
theorem Wmx.length {K:Frag}{D:Addr}{H:Hp}:∀{xs:List V} {rs:List (List Int × Int)},Wmx K D H xs rs->xs.length=rs.length
 |_,_,.nil=>rfl
 |_,_,.cons _ _ _ q=>by rw[length_cons,length_cons,q.length]
theorem Wmx.get {K:Frag}{D:Addr}{H:Hp}:∀{xs:List V} {rs:List (List Int × Int)} {i:Nat} {x:V},Wmx K D H xs rs->xs[i]?=some x->∃t l r,x=.ref t/\rs[i]?=some r/\SqT K H t [.ref l,.int r.2]/\H l=some (.lst (r.1.map V.int))
 |_,_,0,_,.cons n h f q,e=>by simp at e;exact⟨_,_,_,e.symm,rfl,h,f⟩
 |_,_,i+1,_,.cons n h f q,e=>by simp at e;exact q.get e
theorem Wmx.app {K:Frag}{D:Addr}{H:Hp}:∀{xs ys:List V} {rs ss:List (List Int × Int)},Wmx K D H xs rs->Wmx K D H ys ss->Wmx K D H (xs++ys) (rs++ss)
 |_,_,_,_,.nil,k=>k
 |_,_,_,_,.cons n h f q,k=>.cons n h f (q.app k)
theorem jG {l:List Int}{i:Nat}(h:i < l.length):(l.map V.int)[i]?=some (.int (l.getD i 0)):=by
 rw[getElem?_map,kN h];rfl
def Ox (K:Frag):Sp:=fun vs H Q _=>∃(a:Addr) (xs:List V) (ps:List Q2) (n:Nat),vs=[.ref a]/\SqL K H a xs/\Fqs K H xs ps/\Mq.Pos ps/\(∀p∈ps,Bd n p)/\ps.length<=100/\10+n+n*ps.length<=8000/\
 ∀t l H',aT H H'->H l=none->SqT K H' t [.ref l,.int (cU ps)]->H' l=some (.lst ((iw ps).map V.int))->Q (.ref t) H'
def Uz (K:Frag):Sp:=fun vs H Q _=>∃(l D:Addr) (zs:List V) (R:List (List Int)) (r c m w:Nat),vs=[.ref l,.int (r:Int),.int (c:Int)]/\SqL K H l zs/\Imx D H zs R/\R.length=m/\(∀i,i < m->(R.getD i []).length=w)/\c < w/\r<=m/\m<=100/\
 (∀p,r<=p->p < m->Mq.ent R p c≠0->Q (.int (p:Int)) H)/\((∀i,r<=i->i < m->Mq.ent R i c=0)->Q .non H)
def uV (K:Frag):Sp:=fun vs H Q _=>∃(u v:Addr) (row upper:List Int) (c n:Nat) (dv:Int),vs=[.ref u,.ref v,.int (c:Int),.int dv]/\SqL K H u (row.map V.int)/\SqL K H v (upper.map V.int)/\row.length=upper.length/\row.length<=100/\c < row.length/\dv≠0/\
 (∀i,Mq.B n (row.getD i 0))/\(∀i,Mq.B n (upper.getD i 0))/\Mq.B n dv/\n<=9000/\
 ∀l H',aT H H'->H l=none->H' l=some (.lst ((fP upper row c dv).map V.int))->Q (.ref l) H'
def wI (K:Frag):Sp:=fun vs H Q _=>∃(l D:Addr) (zs:List V) (R:List (List Int)) (r c m w n:Nat) (dv:Int),vs=[.ref l,.int (r:Int),.int (c:Int),.int dv]/\SqL K H l zs/\Imx D H zs R/\R.length=m/\(∀i,i < m->(R.getD i []).length=w)/\c < w/\w<=100/\r < m/\m<=100/\dv≠0/\BdR n R/\Mq.B n dv/\n<=9000/\
 ∀l' zs' H',aT H H'->H l'=none->H' l'=some (.lst zs')->Imx l' H' zs' (cB R r c dv)->Q (.ref l') H'
def Nz (l:Addr)(rank:Nat)(pivot sign:Int):HO:=.dK (iL [] [(.inr "rows",.ref l),(.inr "rank",.int (rank:Int)),(.inr "pivot",.int pivot),(.inr "sign",.int sign)])
def wgt (X:List (List Q2)):Rat:=Mq.det X.length fun i j=>Mq.val ((X.getD i []).getD j Mq.z0)
theorem rL {H:Hp}{d l:Addr}{rank:Nat}{pivot sign:Int}(h:H d=some (Nz l rank pivot sign)):iO H d (.str "rows") (some (.ref l))/\iO H d (.str "rank") (some (.int (rank:Int)))/\iO H d (.str "pivot") (some (.int pivot))/\iO H d (.str "sign") (some (.int sign)):=by
 refine⟨?_,?_,?_,?_⟩
 ·exact iO.k (k:=(Sum.inr "rows":Key)) h
 ·exact iO.k (k:=(Sum.inr "rank":Key)) h
 ·exact iO.k (k:=(Sum.inr "pivot":Key)) h
 ·exact iO.k (k:=(Sum.inr "sign":Key)) h
def jF (X:List (List Q2)):Int:=X.foldl (fun b row=>b*cU row) 1
theorem kR {X:List (List Q2)}{i:Nat}{row:List Q2}(h:X[i]?=some row):jF (X.take (i+1))=jF (X.take i)*cU row:=by
 unfold jF;rw[take_add_one,h,foldl_append];rfl
theorem kP (X:List (List Q2)):∀i,i<=X.length->((jF (X.take i):Int):Rat)=Hk i fun k=>((cU (X.getD k []):Int):Rat)
 |0,_=>by simp[jF,Hk]
 |i+1,h=>by
  have e:X[i]?=some (X.getD i []):=by rw[getD_eq_getElem?_getD,getElem?_eq_getElem (by lia)];rfl
  rw[kR e,Rat.intCast_mul,kP X i (by lia)];rfl
theorem kT {X:List (List Q2)}(hX:dD X):∀i,i<=X.length->1<=jF (X.take i)
 |0,_=>by show (1:Int)<=1;lia
 |i+1,h=>by
  have e:X[i]?=some (X.getD i []):=by rw[getD_eq_getElem?_getD,getElem?_eq_getElem (by lia)];rfl
  rw[kR e];have h1:=kT hX i (by lia);have h2:=oH (hX _ (mem_of_getElem? e));have:=Int.mul_pos (show 0 < jF (X.take i) by lia) (show 0 < cU (X.getD i []) by lia);lia
theorem Ce {row:List Q2}(hp:Mq.Pos row){j:Nat}(hj:j < row.length):(((iw row).getD j 0:Int):Rat)=((cU row:Int):Rat)*Mq.val (row.getD j Mq.z0):=by
 have ej:row[j]?=some (row.getD j Mq.z0):=by rw[getD_eq_getElem?_getD,getElem?_eq_getElem hj];rfl
 have mem:row.getD j Mq.z0∈row:=mem_of_getElem? ej;obtain⟨k,hk⟩:=tS hp _ mem;have e2:(iw row).getD j 0=uS (cU row) (row.getD j Mq.z0):=by
  unfold iw;rw[getD_eq_getElem?_getD,getElem?_map,ej];rfl
 rw[e2,Mq.Pi (hp _ mem) hk];grind
theorem Cb {X:List (List Q2)}{i:Nat}(h:i < X.length):(X.map iw).getD i []=iw (X.getD i []):=by
 rw[getD_eq_getElem?_getD,getElem?_map,getD_eq_getElem?_getD,getElem?_eq_getElem h];rfl
theorem wM {X:List (List Q2)}(hX:dD X)(hw:∀row∈X,row.length=X.length):Mq.det X.length (Mq.at2 (X.map iw))=((jF X:Int):Rat)*wgt X:=by
 unfold wgt;have hb:=kP X X.length (Nat.le_refl _);rw[take_length] at hb;rw[hb,<- kU];refine bZ fun i j hi hj=>?_;have e:X[i]?=some (X.getD i []):=by rw[getD_eq_getElem?_getD,getElem?_eq_getElem hi];rfl
 have mem:=mem_of_getElem? e;show ((((X.map iw).getD i []).getD j 0:Int):Rat)=_;rw[Cb hi];exact Ce (hX _ mem) (by rw[hw _ mem];exact hj)
theorem pH (row:List Q2):(iw row).length=row.length:=by unfold iw;simp
theorem Pc {X:List (List Q2)}{R:List (List Int)}{w:Nat}{d sg:Int}(hX:dD X)(hw:∀row∈X,row.length=X.length)(h:SI X.length w (Mq.at2 (X.map iw)) R X.length X.length d sg):Mq.val (red (sg*d) (jF X))=wgt X:=by
 have b1:=kT hX X.length (Nat.le_refl _);rw[take_length] at b1;have bn:=cO (show jF X≠0 by lia);have e:=h.whole;rw[wM hX hw] at e;rw[iJ (by lia),Rat.intCast_mul,<- e];grind
theorem Nb {X:List (List Q2)}{R:List (List Int)}{w r:Nat}{d sg:Int}(hX:dD X)(hw:∀row∈X,row.length=X.length)(h:SI X.length w (Mq.at2 (X.map iw)) R r X.length d sg)(hr:r < X.length):wgt X=0:=by
 have b1:=kT hX X.length (Nat.le_refl _);rw[take_length] at b1;have bn:=cO (show jF X≠0 by lia);have e:=h.lame hr;rw[wM hX hw] at e;grind
end Shp
namespace Mq
theorem jR (m a:Nat)(v:Rat)(h:a < m):(rs m fun i=>if i=a then v else 0)=v:=by
 induction m with
 |zero=>lia
 |succ m ih=>
  simp only[rs]
  by_cases e:m=a
  ·subst e;rw[if_pos rfl];have:(rs m fun i=>if i=m then v else 0)=rs m fun _=>0:=aP fun i hi=>by rw[if_neg (by lia)]
   rw[this,dM];grind
  ·rw[if_neg e,ih (by lia)];grind
theorem qd3 (m p r:Nat)(hp:p < m)(hr:r < m)(F:Nat->Rat):(rs m fun i=>F (sw p r i))=rs m F:=by
 by_cases e:p=r
 ·subst e;exact aP fun i _=>by
   congr 1;unfold sw
   by_cases h:i=p
   ·rw[if_pos h,h]
   ·rw[if_neg h,if_neg h]
 have:(rs m fun i=>F (sw p r i))=rs m fun i=>F i+((if i=r then F p - F r else 0)+(if i=p then F r - F p else 0)):=aP fun i _=>by
  unfold sw
  by_cases h1:i=r
  ·rw[if_pos h1,if_pos h1,if_neg (by lia),h1];grind
  ·rw[if_neg h1,if_neg h1]
   by_cases h2:i=p
   ·rw[if_pos h2,if_pos h2,h2];grind
   ·rw[if_neg h2,if_neg h2];grind
 rw[this,dX,dX,jR m r _ hr,jR m p _ hp];grind
structure LI (m:Nat) (Aq:Mat) (R:List (List Int)):Prop where
 lin:∀i x,i < m->x < m->at2 R i x=rs m fun k=>at2 R i (m+k)*Aq k x
 ind:∀lam:Nat->Rat,(∀j,j < m->(rs m fun i=>lam i*at2 R i (m+j))=0)->∀i,i < m->lam i=0
theorem pD {R:List (List Int)}{p r:Nat}(hp:p < R.length)(hr:r < R.length)(i x:Nat):at2 (eX R p r) i x=at2 R (sw p r i) x:=by
 show ((((eX R p r).getD i []).getD x 0:Int):Rat)=_;rw[yG hp hr];rfl
theorem LI.swap {m:Nat}{Aq:Mat}{R:List (List Int)}(h:LI m Aq R)(hl:R.length=m){p r:Nat}(hp:p < m)(hr:r < m):LI m Aq (eX R p r) where
 lin:=fun i x hi hx=>by
  rw[pD (by lia) (by lia),h.lin _ x (yS hp hr hi) hx];exact aP fun k _=>by rw[pD (by lia) (by lia)]
 ind:=fun lam hz i hi=>by
  have:=h.ind (fun i=>lam (sw p r i)) (fun j hj=>by
   rw[<- hz j hj,<- qd3 m p r hp hr];exact aP fun i _=>by
    show lam (sw p r (sw p r i))*_=_;rw[Mn,pD (by lia) (by lia)]) (sw p r i) (yS hp hr hi)
  have e:lam (sw p r (sw p r i))=0:=this
  rwa [Mn] at e
theorem qJ {m w:Nat}{A0:Mat}{R:List (List Int)}{r col:Nat}{d sg:Int}(h:SI m w A0 R r col d sg)(hr:r < m)(hc:col < w)(he:ent R r col≠0){i:Nat}(hi:i < m)(x:Nat) :
  at2 (cB R r col d) i x=if i=r then at2 R i x else (at2 R r col*at2 R i x - at2 R i col*at2 R r x) / (d:Rat):=by
 obtain⟨A,c,B,e⟩:=h.bar;have hl:=h.len;show ((((cB R r col d).getD i []).getD x 0:Int):Rat)=_;rw[mY (by lia)]
 by_cases hir:i=r
 ·rw[if_pos hir,if_pos hir];rfl
 ·rw[if_neg hir,if_neg hir];obtain⟨z,h1,h2,_⟩:=Gh h B hr hc he hi hir x;rw[h1,h2,kD _ hir]
theorem SI.dne {m w:Nat}{A0:Mat}{R:List (List Int)}{r col:Nat}{d sg:Int}(h:SI m w A0 R r col d sg):(d:Rat)≠0:=by
 obtain⟨A,c,B,e⟩:=h.bar;exact B.dne
theorem LI.clear {m w:Nat}{Aq A0:Mat}{R:List (List Int)}{r col:Nat}{d sg:Int}(h:LI m Aq R)(s:SI m w A0 R r col d sg)(hr:r < m)(hc:col < w)(he:ent R r col≠0):LI m Aq (cB R r col d):=by
 have dn:=s.dne;have hn:at2 R r col≠0:=fun z=>he (Rat.intCast_inj.mp (by unfold at2 at z;simpa using z));have cl:=fun (i:Nat) (hi:i < m) (x:Nat)=>qJ s hr hc he hi x;refine⟨fun i x hi hx=>?_,fun lam hz i hi=>?_⟩
 ·rw[cl i hi x]
  by_cases e:i=r
  ·rw[if_pos e,h.lin i x hi hx];exact aP fun k _=>by rw[cl i hi,if_pos e]
  ·rw[if_neg e,h.lin i x hi hx,h.lin r x hr hx];have:(rs m fun k=>at2 (cB R r col d) i (m+k)*Aq k x)=rs m fun k=>(at2 R r col / (d:Rat))*(at2 R i (m+k)*Aq k x)+(-(at2 R i col / (d:Rat)))*(at2 R r (m+k)*Aq k x):=aP fun k _=>by rw[cl i hi,if_neg e];grind
   rw[this,dX,eV,eV];grind
 ·-- the factors of the rows as they were
  have key:=h.ind (fun i=>if i=r then lam r - (rs m fun k=>if k=r then 0 else lam k*(at2 R k col / (d:Rat))) else lam i*(at2 R r col / (d:Rat))) (fun j hj=>by
   have e0:=hz j hj;have e1:(rs m fun i=>lam i*at2 (cB R r col d) i (m+j))=rs m fun i=>(if i=r then lam r*at2 R r (m+j) else 0)+((if i=r then 0 else lam i*(at2 R r col / (d:Rat))*at2 R i (m+j))+(-(at2 R r (m+j)))*(if i=r then 0 else lam i*(at2 R i col / (d:Rat)))):=aP fun i hi=>by
    rw[cl i hi]
    by_cases e:i=r
    ·rw[if_pos e,if_pos e,if_pos e,if_pos e,e];grind
    ·rw[if_neg e,if_neg e,if_neg e,if_neg e];grind
   rw[e1,dX,dX,eV,jR m r _ hr] at e0;have e2:(rs m fun i=>(if i=r then lam r - (rs m fun k=>if k=r then 0 else lam k*(at2 R k col / (d:Rat))) else lam i*(at2 R r col / (d:Rat)))*at2 R i (m+j))=rs m fun i=>(if i=r then (lam r - (rs m fun k=>if k=r then 0 else lam k*(at2 R k col / (d:Rat))))*at2 R r (m+j) else 0)+(if i=r then 0 else lam i*(at2 R r col / (d:Rat))*at2 R i (m+j)):=aP fun i _=>by
    by_cases e:i=r
    ·rw[if_pos e,if_pos e,if_pos e,e];grind
    ·rw[if_neg e,if_neg e,if_neg e];grind
   rw[e2,dX,jR m r _ hr];grind)
  have other:∀k,k < m->k≠r->lam k=0:=fun k hk e=>by
   have:=key k hk;rw[if_neg e] at this;have n2:at2 R r col / (d:Rat)≠0:=fun z=>hn (by grind);grind
  by_cases e:i=r
  ·have:=key r hr;rw[if_pos rfl] at this;have z:(rs m fun k=>if k=r then 0 else lam k*(at2 R k col / (d:Rat)))=rs m fun _=>0:=aP fun k hk=>by
    by_cases e:k=r
    ·rw[if_pos e]
    ·rw[if_neg e,other k hk e];grind
   rw[z,dM] at this;rw[e];grind
  ·exact other i hi e
theorem LI.lame {m w:Nat}{Aq A0:Mat}{R:List (List Int)}{d sg:Int}{r:Nat}(h:LI m Aq R)(s:SI m w A0 R r m d sg)(hr:r < m):(∃k,k < m/\ent R (m - 1) (m+k)≠0)/\∀x,x < m->(rs m fun k=>at2 R (m - 1) (m+k)*Aq k x)=0:=by
 obtain⟨A,c,B,e⟩:=s.bar;refine⟨Classical.byContradiction fun n=>?_,fun x hx=>?_⟩
 ·have all:∀k,k < m->ent R (m - 1) (m+k)=0:=fun k hk=>Classical.byContradiction fun z=>n ⟨k,hk,z⟩;have:=h.ind (fun i=>if i=m - 1 then 1 else 0) (fun j hj=>by
   have:(rs m fun i=>(if i=m - 1 then (1:Rat) else 0)*at2 R i (m+j))=rs m fun _=>0:=aP fun i _=>by
    by_cases e:i=m - 1
    ·rw[if_pos e,e];have:at2 R (m - 1) (m+j)=0:=by unfold at2;rw[all j hj];simp
     rw[this];grind
    ·rw[if_neg e];grind
   rw[this,dM]) (m - 1) (by lia)
  rw[if_pos rfl] at this;grind
 ·rw[<- h.lin (m - 1) x (by lia) hx];exact B.i3 (m - 1) x (by lia) (by lia) hx
end Mq
namespace Shp
open PySem L2
inductive Fmd (K:Frag) (H0:Hp) (D:Addr) (H:Hp):List V->List (List Q2)->Prop where
 |nil:Fmd K H0 D H [] []
 |cons {u:Addr} {xs:List V} {ps:List Q2} {us:List V} {X:List (List Q2)} (n0:H0 u=none) (ne:u≠D) (h:H u=some (.lst xs)) (f:Fqs K H xs ps) (q:Fmd K H0 D H us X):Fmd K H0 D H (.ref u :: us) (ps :: X)
theorem Fmd.same {K:Frag}{H0:Hp}{D:Addr}{H H':Hp}(e:aT H H'):∀{xs:List V} {X:List (List Q2)},Fmd K H0 D H xs X->Fmd K H0 D H' xs X
 |_,_,.nil=>.nil
 |_,_,.cons n0 n h f q=>.cons n0 n (e _ _ h) (f.same e) (q.same e)
theorem Fmd.length {K:Frag}{H0:Hp}{D:Addr}{H:Hp}:∀{xs:List V} {X:List (List Q2)},Fmd K H0 D H xs X->xs.length=X.length
 |_,_,.nil=>rfl
 |_,_,.cons _ _ _ _ q=>by rw[length_cons,length_cons,q.length]
def pF (X:List (List Q2)):Mat:=fun i j=>Mq.val ((X.getD i []).getD j Mq.z0)
def kO (m i:Nat)(row:List Q2):List Int:=iw row++(List.range m).map fun c=>if c=i then cU row else 0
def iN (X:List (List Q2)):List (List Int):=X.mapIdx fun i row=>kO X.length i row
theorem Mi (X:List (List Q2)):(iN X).length=X.length:=by unfold iN;simp
theorem rZ {X:List (List Q2)}{i:Nat}(h:i < X.length):(iN X).getD i []=kO X.length i (X.getD i []):=by
 unfold iN;rw[getD_eq_getElem?_getD,getElem?_mapIdx,getD_eq_getElem?_getD,getElem?_eq_getElem h];rfl
theorem uK {X:List (List Q2)}{i:Nat}(h:i < X.length):X[i]?=some (X.getD i []):=by rw[getD_eq_getElem?_getD,getElem?_eq_getElem h];rfl
theorem Bi (m i:Nat)(row:List Q2):(kO m i row).length=row.length+m:=by unfold kO;simp[pH]
theorem wR {X:List (List Q2)}(hX:dD X)(hw:∀row∈X,row.length=X.length){i x:Nat}(hi:i < X.length)(hx:x < X.length):Mq.at2 (iN X) i x=((cU (X.getD i []):Int):Rat)*pF X i x:=by
 have mem:=mem_of_getElem? (uK hi);show ((((iN X).getD i []).getD x 0:Int):Rat)=_;rw[rZ hi];unfold kO;have l:=hw _ mem;rw[getD_eq_getElem?_getD,getElem?_append_left (by rw[pH];lia),<- getD_eq_getElem?_getD];exact Ce (hX _ mem) (by lia)
theorem rA {X:List (List Q2)}(hw:∀row∈X,row.length=X.length){i k:Nat}(hi:i < X.length)(hk:k < X.length):Mq.ent (iN X) i (X.length+k)=if k=i then cU (X.getD i []) else 0:=by
 have mem:=mem_of_getElem? (uK hi);unfold Mq.ent;rw[rZ hi];unfold kO;have l:=hw _ mem;rw[getD_eq_getElem?_getD,getElem?_append_right (by rw[pH];lia),pH,l,Nat.add_sub_cancel_left,getElem?_map,getElem?_range hk];rfl
theorem Ua {X:List (List Q2)}(hX:dD X)(hw:∀row∈X,row.length=X.length):Mq.LI X.length (pF X) (iN X) where
 lin:=fun i x hi hx=>by
  rw[wR hX hw hi hx];have:(Mq.rs X.length fun k=>Mq.at2 (iN X) i (X.length+k)*pF X k x)=Mq.rs X.length fun k=>if k=i then ((cU (X.getD i []):Int):Rat)*pF X i x else 0:=aP fun k hk=>by
   show ((Mq.ent (iN X) i (X.length+k):Int):Rat)*_=_;rw[rA hw hi hk]
   by_cases e:k=i
   ·rw[if_pos e,if_pos e,e]
   ·rw[if_neg e,if_neg e];simp
  rw[this,Mq.jR _ _ _ hi]
 ind:=fun lam hz i hi=>by
  have e:=hz i hi;have:(Mq.rs X.length fun j=>lam j*Mq.at2 (iN X) j (X.length+i))=Mq.rs X.length fun j=>if j=i then lam i*((cU (X.getD i []):Int):Rat) else 0:=aP fun k hk=>by
   show _*((Mq.ent (iN X) k (X.length+i):Int):Rat)=_;rw[rA hw hk hi]
   by_cases e:k=i
   ·rw[if_pos e,if_pos e.symm,e]
   ·rw[if_neg e,if_neg (Ne.symm e)];simp
  rw[this,Mq.jR _ _ _ hi] at e;have g:=oH (hX _ (mem_of_getElem? (uK hi)));have n:=cO (show cU (X.getD i [])≠0 by lia);grind
theorem Tg {X:List (List Q2)}{R:List (List Int)}(h:∀i j,i < X.length->j < X.length->Mq.at2 R i j=((cU (X.getD i []):Int):Rat)*pF X i j):Mq.det X.length (Mq.at2 R)=((jF X:Int):Rat)*wgt X:=by
 unfold wgt;have hb:=kP X X.length (Nat.le_refl _);rw[take_length] at hb;rw[hb,<- kU];exact bZ fun i j hi hj=>h i j hi hj
theorem No {X:List (List Q2)}{R R':List (List Int)}{w r:Nat}{d sg:Int}(hX:dD X)(hR:Mq.det X.length (Mq.at2 R)=((jF X:Int):Rat)*wgt X)(h:SI X.length w (Mq.at2 R) R' r X.length d sg):(r < X.length/\wgt X=0)\/(r=X.length/\wgt X≠0):=by
 have b1:=kT hX X.length (Nat.le_refl _);rw[take_length] at b1;have bn:=cO (show jF X≠0 by lia);obtain⟨A,c,B,e⟩:=h.bar;have rm:=B.rm;have dn:=B.dne;clear B
 by_cases hr:r < X.length
 ·left
  have e:=h.lame hr;rw[hR] at e;exact⟨hr,by grind⟩
 ·right
  have er:r=X.length:=by lia
  subst er;refine⟨rfl,fun z=>?_⟩;have e:=h.whole;rw[hR,z] at e;rcases h.one with q | q
  ·rw[q] at e;simp at e;grind
  ·rw[q,Rat.intCast_neg] at e;simp at e;grind
structure Stp (m w:Nat) (A0:Mat) (Pr:List (List Int)->Prop):Prop where
 sw:∀R r col d sg p,SI m w A0 R r col d sg->r < p->p < m->Pr R->Pr (eX R p r)
 cl:∀R r col d sg,SI m w A0 R r col d sg->r < m->col < w->Mq.ent R r col≠0->Pr R->Pr (cB R r col d)
theorem Yj {m w:Nat}{A0 Aq:Mat}:Stp m w A0 (Mq.LI m Aq):=
 ⟨fun R r col d sg p s h1 h2 h=>h.swap s.len h2 (by lia),fun R r col d sg s h1 h2 h3 h=>h.clear s h1 h2 h3⟩
end Shp
namespace Mq
theorem s1:sgn 1=-1:=by unfold sgn;rfl
theorem s2:sgn 2=1:=by unfold sgn;rw[if_pos (by decide)]
theorem s3:sgn 3=-1:=by unfold sgn;rfl
theorem s4:sgn 4=1:=by unfold sgn;rw[if_pos (by decide)]
theorem s5:sgn 5=-1:=by unfold sgn;rfl
theorem s6:sgn 6=1:=by unfold sgn;rw[if_pos (by decide)]
theorem Cp (A:Mat):det 1 A=A 0 0:=by simp[det,rs,sgn]<;>grind
theorem Ec (A:Mat):det 2 A=A 0 0*A 1 1 - A 0 1*A 1 0:=by
 rw[dG];simp only[rs,Cp,skip,s1,s2];simp[s1,s2,s3,s4,s5,s6]<;>grind
theorem Cs (A:Mat):det 3 A=A 2 0*(A 0 1*A 1 2 - A 0 2*A 1 1) - A 2 1*(A 0 0*A 1 2 - A 0 2*A 1 0)+A 2 2*(A 0 0*A 1 1 - A 0 1*A 1 0):=by
 rw[dG];simp only[rs,Ec,skip,s2,s3,s4];simp[s1,s2,s3,s4,s5,s6]<;>grind
def d3 (a b c d e f g h i:Rat):Rat:=g*(b*f - c*e) - h*(a*f - c*d)+i*(a*e - b*d)
theorem qf1 (A:Mat):det 3 A=d3 (A 0 0) (A 0 1) (A 0 2) (A 1 0) (A 1 1) (A 1 2) (A 2 0) (A 2 1) (A 2 2):=Cs A
theorem Xj (A:Mat):det 4 A=- (A 3 0*d3 (A 0 1) (A 0 2) (A 0 3) (A 1 1) (A 1 2) (A 1 3) (A 2 1) (A 2 2) (A 2 3))+A 3 1*d3 (A 0 0) (A 0 2) (A 0 3) (A 1 0) (A 1 2) (A 1 3) (A 2 0) (A 2 2) (A 2 3) - A 3 2*d3 (A 0 0) (A 0 1) (A 0 3) (A 1 0) (A 1 1) (A 1 3) (A 2 0) (A 2 1) (A 2 3)+A 3 3*d3 (A 0 0) (A 0 1) (A 0 2) (A 1 0) (A 1 1) (A 1 2) (A 2 0) (A 2 1) (A 2 2):=by
 rw[dG];simp only[rs,qf1,skip,s3,s4,s5,s6];simp[s1,s2,s3,s4,s5,s6]<;>grind
theorem Zx {row:List Q2}{j:Nat}(h:j < row.length):row[j]?=some (row.getD j z0):=by rw[getD_eq_getElem?_getD,getElem?_eq_getElem h];rfl
end Mq
open Mq (Cp Cs Ec Xj Zx)
namespace Shp
open PySem L2
theorem Fmd.get {K:Frag}{H0:Hp}{D:Addr}{H:Hp}:∀{xs:List V} {X:List (List Q2)} {i:Nat} {x:V},Fmd K H0 D H xs X->xs[i]?=some x->∃u ys ps,x=.ref u/\X[i]?=some ps/\H0 u=none/\u≠D/\H u=some (.lst ys)/\Fqs K H ys ps
 |_,_,0,_,.cons n0 n h f q,e=>by simp at e;exact⟨_,_,_,e.symm,rfl,n0,n,h,f⟩
 |_,_,i+1,_,.cons n0 n h f q,e=>by simp at e;exact q.get e
end Shp
namespace Mq
def KI (m:Nat)(A0:Mat)(R:List (List Int)):Prop:=∀Φ,Lin Φ->(∀k,k < m->Φ (at2 R k)=0)->∀i,i < m->Φ (A0 i)=0
theorem KI.swap {m:Nat}{A0:Mat}{R:List (List Int)}(h:KI m A0 R)(hl:R.length=m){p r:Nat}(hp:p < m)(hr:r < m):KI m A0 (eX R p r):=fun Φ lin hz=>by
 refine h Φ lin fun k hk=>?_;have e:at2 R k=at2 (eX R p r) (sw p r k):=by
  funext x
  rw[pD (by lia) (by lia),Mn]
 rw[e];exact hz _ (yS hp hr hk)
theorem KI.clear {m w:Nat}{A0 A1:Mat}{R:List (List Int)}{r col:Nat}{d sg:Int}(h:KI m A1 R)(s:SI m w A0 R r col d sg)(hr:r < m)(hc:col < w)(he:ent R r col≠0):KI m A1 (cB R r col d):=fun Φ lin hz=>by
 have dn:=s.dne;have hn:at2 R r col≠0:=fun z=>he (Rat.intCast_inj.mp (by unfold at2 at z;simpa using z));have cl:=fun (i:Nat) (hi:i < m) (x:Nat)=>qJ s hr hc he hi x;have zr:Φ (at2 R r)=0:=by
  have e:at2 R r=at2 (cB R r col d) r:=by funext x;rw[cl r hr x,if_pos rfl]
  rw[e];exact hz r hr
 refine h Φ lin fun k hk=>?_
 by_cases e:k=r
 ·rw[e];exact zr
 ·have e2:at2 R k=fun x=>(fun x=>((d:Rat) / at2 R r col)*at2 (cB R r col d) k x) x+(at2 R k col / at2 R r col)*at2 R r x:=by
   funext x
   show _=((d:Rat) / at2 R r col)*at2 (cB R r col d) k x+_;rw[cl k hk x,if_neg e];grind
  rw[e2,lin,lin.mul,hz k hk,zr];grind
theorem KI.whole {m w:Nat}{A0 A1:Mat}{R:List (List Int)}{d sg:Int}(h:KI m A1 R)(s:SI m w A0 R m m d sg){i:Nat}(hi:i < m):(rs m fun k=>A1 i k*(at2 R k m / (d:Rat)))=A1 i m:=by
 obtain⟨A,c,B,e⟩:=s.bar;have dn:=B.dne;have:=h (fun f=>(rs m fun k=>f k*(at2 R k m / (d:Rat))) - f m) (fun x y l=>by
  have:(rs m fun k=>(x k+l*y k)*(at2 R k m / (d:Rat)))=(rs m fun k=>x k*(at2 R k m / (d:Rat))+l*(y k*(at2 R k m / (d:Rat)))):=aP fun k _=>by grind
  show (rs m fun k=>(x k+l*y k)*(at2 R k m / (d:Rat))) - (x m+l*y m)=((rs m fun k=>x k*(at2 R k m / (d:Rat))) - x m)+l*((rs m fun k=>y k*(at2 R k m / (d:Rat))) - y m)
  rw[this,dX,eV];grind) (fun k hk=>by
  have:(rs m fun j=>at2 R k j*(at2 R j m / (d:Rat)))=rs m fun j=>if j=k then (d:Rat)*(at2 R k m / (d:Rat)) else 0:=aP fun j hj=>by
   have i2:=B.i2 k j hk hj;rw[B.full rfl j hj] at i2;rw[i2]
   by_cases z:j=k
   ·rw[if_pos z,if_pos z,z]
   ·rw[if_neg z,if_neg z];grind
  show (rs m fun j=>at2 R k j*(at2 R j m / (d:Rat))) - at2 R k m=0;rw[this,jR m k _ hk];grind) i hi
 have e2:(rs m fun k=>A1 i k*(at2 R k m / (d:Rat))) - A1 i m=0:=this;grind
end Mq
namespace Shp
open PySem L2
def jO (X:List (List Q2))(qs:List Q2):List (List Q2):=zipWith (fun row q=>row++[q]) X qs
def gL (X:List (List Q2))(qs:List Q2):List (List Int):=(jO X qs).map iw
section
variable {X:List (List Q2)} {qs:List Q2}
theorem oG (hl:qs.length=X.length):(jO X qs).length=X.length:=by unfold jO;simp[hl]
theorem Ao (hl:qs.length=X.length):(gL X qs).length=X.length:=by unfold gL;rw[length_map,oG hl]
theorem oQ (hl:qs.length=X.length){i:Nat}(hi:i < X.length):(jO X qs).getD i []=X.getD i []++[qs.getD i Mq.z0]:=by
 unfold jO;rw[getD_eq_getElem?_getD,getElem?_zipWith,uK hi,Zx (show i < qs.length by lia)];rfl
theorem sU (hl:qs.length=X.length){i:Nat}(hi:i < X.length):(gL X qs).getD i []=iw (X.getD i []++[qs.getD i Mq.z0]):=by
 unfold gL;rw[getD_eq_getElem?_getD,getElem?_map,uK (X:=jO X qs) (by rw[oG hl];exact hi),oQ hl hi];rfl
theorem qO (hX:dD X)(hq:Mq.Pos qs)(hl:qs.length=X.length){i:Nat}(hi:i < X.length):Mq.Pos (X.getD i []++[qs.getD i Mq.z0]):=fun p hp=>by
 rcases mem_append.mp hp with z | z
 ·exact hX _ (mem_of_getElem? (uK hi)) p z
 ·have e:p=qs.getD i Mq.z0:=by simpa using z
  rw[e];exact Mq.Pe hq i
theorem Dy (hX:dD X)(hq:Mq.Pos qs)(hl:qs.length=X.length):dD (jO X qs):=fun row hr=>by
 obtain⟨i,hi,rfl⟩:=getElem_of_mem hr;have hi':i < X.length:=by rw[oG hl] at hi;exact hi
 have e:=oQ hl hi';rw[getD_eq_getElem?_getD,getElem?_eq_getElem hi] at e;have e':(jO X qs)[i]=X.getD i []++[qs.getD i Mq.z0]:=e;rw[e'];exact qO hX hq hl hi'
theorem sZ (hX:dD X)(hq:Mq.Pos qs)(hl:qs.length=X.length)(hw:∀row∈X,row.length=X.length){i x:Nat}(hi:i < X.length)(hx:x < X.length+1) :
  Mq.at2 (gL X qs) i x=((cU ((jO X qs).getD i []):Int):Rat)*if x < X.length then pF X i x else Mq.val (qs.getD i Mq.z0):=by
 have l:=hw _ (mem_of_getElem? (uK hi));show ((((gL X qs).getD i []).getD x 0:Int):Rat)=_;rw[sU hl hi,oQ hl hi,Ce (qO hX hq hl hi) (by rw[List.length_append,l];simpa using hx)];congr 1
 by_cases h:x < X.length
 ·rw[if_pos h,getD_eq_getElem?_getD,getElem?_append_left (by rw[l];exact h),<- getD_eq_getElem?_getD];rfl
 ·have ex:x=X.length:=by lia
  rw[if_neg h,getD_eq_getElem?_getD,getElem?_append_right (by rw[l];lia),l,ex,Nat.sub_self];rfl
theorem Tx (hX:dD X)(hq:Mq.Pos qs)(hl:qs.length=X.length)(hw:∀row∈X,row.length=X.length):Mq.det X.length (Mq.at2 (gL X qs))=((jF (jO X qs):Int):Rat)*wgt X:=by
 unfold wgt;have hb:=kP (jO X qs) (jO X qs).length (Nat.le_refl _);rw[take_length,oG hl] at hb;rw[hb,<- kU];refine bZ fun i j hi hj=>?_;rw[sZ hX hq hl hw hi (by lia),if_pos hj];rfl
theorem Ii {R R':List (List Int)}{w r:Nat}{d sg:Int}{f:Rat}(fn:f≠0)(hR:Mq.det X.length (Mq.at2 R)=f*wgt X)(h:SI X.length w (Mq.at2 R) R' r X.length d sg):(r < X.length/\wgt X=0)\/(r=X.length/\wgt X≠0):=by
 obtain⟨A,c,B,e⟩:=h.bar;have rm:=B.rm;have dn:=B.dne;clear B
 by_cases hr:r < X.length
 ·left
  have e:=h.lame hr;rw[hR] at e;exact⟨hr,by grind⟩
 ·right
  have er:r=X.length:=by lia
  subst er;refine⟨rfl,fun z=>?_⟩;have e:=h.whole;rw[hR,z] at e;rcases h.one with q | q
  ·rw[q] at e;simp at e;grind
  ·rw[q,Rat.intCast_neg] at e;simp at e;grind
theorem Ng (hX:dD X)(hq:Mq.Pos qs)(hl:qs.length=X.length)(hw:∀row∈X,row.length=X.length){R':List (List Int)}{w r:Nat}{d sg:Int}(h:SI X.length w (Mq.at2 (gL X qs)) R' r X.length d sg):(r < X.length/\wgt X=0)\/(r=X.length/\wgt X≠0):=by
 have b1:=kT (Dy hX hq hl) (jO X qs).length (Nat.le_refl _);rw[take_length] at b1;exact Ii (cO (show jF (jO X qs)≠0 by lia)) (Tx hX hq hl hw) h
end
structure Slv (X:List (List Q2)) (qs ps:List Q2):Prop where
 len:ps.length=X.length
 low:kB ps
 bd:∀p∈ps,Bd 9000 p
 sum:∀i,i < X.length->(Mq.rs X.length fun j=>pF X i j*Mq.val (ps.getD j Mq.z0))=Mq.val (qs.getD i Mq.z0)
theorem Xp {X:List (List Q2)}{qs:List Q2}(hX:dD X)(hq:Mq.Pos qs)(hl:qs.length=X.length)(hw:∀row∈X,row.length=X.length){R:List (List Int)}{w:Nat}{d sg:Int}(h:Mq.KI X.length (Mq.at2 (gL X qs)) R)(s:SI X.length w (Mq.at2 (gL X qs)) R X.length X.length d sg){i:Nat}(hi:i < X.length):(Mq.rs X.length fun j=>pF X i j*(Mq.at2 R j X.length / (d:Rat)))=Mq.val (qs.getD i Mq.z0):=by
 have e:=h.whole s hi;rw[sZ hX hq hl hw hi (by lia),if_neg (by lia)] at e;have e2:(Mq.rs X.length fun k=>Mq.at2 (gL X qs) i k*(Mq.at2 R k X.length / (d:Rat)))=((cU ((jO X qs).getD i []):Int):Rat)*Mq.rs X.length fun k=>pF X i k*(Mq.at2 R k X.length / (d:Rat)):=by
  rw[<- eV];refine aP fun k hk=>?_;rw[sZ hX hq hl hw hi (by lia),if_pos hk];grind
 rw[e2] at e;have g:=oH (qO hX hq hl hi);have n:=cO (show cU ((jO X qs).getD i [])≠0 by rw[oQ hl hi];lia);grind
end Shp
namespace Mq
def Wb (n:Nat)(x:Rat):Prop:=∃z:Int,x=(z:Rat)/\B n z
theorem Wb.mono {n m:Nat}{x:Rat}(h:Wb n x)(l:n<=m):Wb m x:=by obtain⟨z,e,b⟩:=h;exact⟨z,e,b.mono l⟩
theorem Wb.mul {n m:Nat}{x y:Rat}(h:Wb n x)(k:Wb m y):Wb (n+m) (x*y):=by
 obtain⟨a,rfl,b⟩:=h;obtain⟨c,rfl,d⟩:=k;exact⟨a*c,by rw[Rat.intCast_mul],b.mul d⟩
theorem Wb.sub {n:Nat}{x y:Rat}(h:Wb n x)(k:Wb n y):Wb (n+1) (x - y):=by
 obtain⟨a,rfl,b⟩:=h;obtain⟨c,rfl,d⟩:=k;exact⟨a - c,by rw[Rat.intCast_sub],b.sub d⟩
theorem Wb.neg {n:Nat}{x:Rat}(h:Wb n x):Wb n (-x):=by
 obtain⟨a,rfl,b⟩:=h;exact⟨-a,by rw[Rat.intCast_neg],b.neg⟩
theorem Wb.zero (n:Nat):Wb n 0:=⟨0,by simp,Nat.two_pow_pos _⟩
theorem Wb.one:Wb 1 1:=⟨1,by simp,show (1:Nat) < 2 ^ 1 by decide⟩
theorem Wb.sgn {n:Nat}{x:Rat}(h:Wb n x)(k:Nat):Wb n (Mq.sgn k*x):=by
 unfold Mq.sgn;split
 ·rw[show (1:Rat)*x=x by grind];exact h
 ·rw[show (-1:Rat)*x=-x by grind];exact h.neg
theorem Uu {n:Nat}{f:Nat->Rat}:∀K,(∀k,k < K->Wb n (f k))->∃z:Int,rs K f=(z:Rat)/\z.natAbs+K<=K*2 ^ n
 |0,_=>⟨0,by simp only[rs];simp,by simp⟩
 |K+1,h=>by
  obtain⟨z,e,b⟩:=Uu K fun k hk=>h k (by lia);obtain⟨y,e2,b2⟩:=h K (by lia);refine⟨z+y,by simp only[rs];rw[e,e2,Rat.intCast_add],?_⟩;have:y.natAbs < 2 ^ n:=b2;rw[Nat.succ_mul];lia
def SB (n m:Nat)(R:List (List Int))(r col:Nat)(d:Int):Prop:=∃A c,Bar m A (at2 R) r col (d:Rat) c/\∀i x,i < m->Wb n (A i x)
theorem SB.start {n m:Nat}{R:List (List Int)}(hb:BdR n R):SB n m R 0 0 1:=
 ⟨at2 R,id,by
  have:=Bar.start (m:=m) (A:=at2 R) fun i j=>⟨_,rfl⟩
  simpa using this,fun i x _=>⟨ent R i x,rfl,hb i x⟩⟩
theorem SB.skip {n m:Nat}{R:List (List Int)}{r col:Nat}{d:Int}(h:SB n m R r col d)(hz:∀i,r<=i->i < m->ent R i col=0):SB n m R r (col+1) d:=by
 obtain⟨A,c,B,q⟩:=h;exact⟨A,c,B.skip fun i h1 h2=>by unfold at2;rw[hz i h1 h2];simp,q⟩
theorem SB.swap {n m w:Nat}{A0:Mat}{R:List (List Int)}{r col:Nat}{d sg:Int}(h:SB n m R r col d)(s:SI m w A0 R r col d sg){p:Nat}(hp:r < p)(hm:p < m):SB n m (eX R p r) r col d:=by
 obtain⟨A,c,B,q⟩:=h;have hl:=s.len;refine⟨_,c,(B.swap (by lia) hm).congr fun i hi=>?_,fun i x hi=>q _ x (yS hm (by lia) hi)⟩
 funext x
 rw[pD (by lia) (by lia)]
theorem SB.clear {n m w:Nat}{A0:Mat}{R:List (List Int)}{r col:Nat}{d sg:Int}(h:SB n m R r col d)(s:SI m w A0 R r col d sg)(hr:r < m)(hc:col < w)(he:ent R r col≠0):SB n m (cB R r col d) (r+1) (col+1) (ent R r col):=by
 obtain⟨A,c,B,q⟩:=h;have heq:at2 R r col≠0:=fun z=>he (Rat.intCast_inj.mp (by unfold at2 at z;simpa using z));refine⟨A,_,(B.clear hr heq).congr fun i hi=>?_,q⟩
 funext x
 rw[qJ s hr hc he hi x];unfold clr
 by_cases e:i=r
 ·rw[if_pos e,if_pos e,e]
 ·rw[if_neg e,if_neg e]
end Mq
namespace Shp
open PySem L2
abbrev bq (n m:Nat):Nat:=(n+4)*(m+1)+7
end Shp
namespace L2
open PySem PySem.Spec PyProof.Rows
theorem aM.weak {P:Program}{w:World}{K:Frag}{mg:Str->Option Value}{base:Heap}{CX:CXT}{k:Nat}{f:Addr}{fd:FuncData}{ps:List Str}{sp sp':Sp}(F:aM P w K mg base CX k f fd ps sp)(h:∀vs H Q E,sp' vs H Q E->sp vs H Q E):aM P w K mg base CX k f fd ps sp':=
 ⟨fun vs H Q E q=>F.len vs H Q E (h _ _ _ _ q),fun A outer s H args us vs Q E hr he hb hv hs=>F.run A outer s H args us vs Q E hr he hb hv (h _ _ _ _ hs)⟩
abbrev cH (m i j:Int):Prop:=0<=i/\i < m/\0<=j/\j < m
inductive Zv (K:Frag) (H:Hp):V->Option Q2->Prop where
 |fr {u:Addr} {p:Q2} (h:Fq K H u p) (l:Low p):Zv K H (.ref u) (some p)
 |ty {v:V} {t:Value} (h:TyQ K H v t) (n:W.kitOne K t (.type "tuple")=some false):Zv K H v none
 |len {u:Addr} {x y z:V} (h:SqT K H u [x,y,z]):Zv K H (.ref u) none
 |n0 {u:Addr} {x y:V} {t:Value} (h:SqT K H u [x,y]) (ty:kX K H x t) (n:uA t):Zv K H (.ref u) none
 |n1 {u:Addr} {i:Int} {y:V} {t:Value} (h:SqT K H u [.int i,y]) (ty:kX K H y t) (n:uA t):Zv K H (.ref u) none
 |fb {u:Addr} {p:Q2} (h:Fq K H u p) (c:p.2 < 1\/(1<=p.2/\gc p.1 p.2≠1)):Zv K H (.ref u) none
def Oh (K:Frag):Sp:=fun vs H Q _=>∃(v:V) (o:Option Q2),vs=[v]/\Zv K H v o/\Q (.bl o.isSome) H
inductive fX (CK:Kd->Addr) (K:Frag) (H:Hp):List V->List RD->Prop where
 |nil:fX CK K H [] []
 |cons {x z:Addr} {k:Kd} {i j:Int} {p:Q2} {xs:List V} {ds:List RD} (h:Rw CK H x k (.int i) (.int j) (.ref z)) (f:Fq K H z p) (q:fX CK K H xs ds):fX CK K H (.ref x :: xs) ((k,i,j,p) :: ds)
section
variable {CK:Kd->Addr} {K:Frag} {H H':Hp}
theorem fX.same (e:aT H H'):∀{xs:List V} {ds:List RD},fX CK K H xs ds->fX CK K H' xs ds
 |_,_,.nil=>.nil
 |_,_,.cons h f q=>.cons (h.same e) (e.fq f) (fX.same e q)
theorem fX.length:∀{xs:List V} {ds:List RD},fX CK K H xs ds->xs.length=ds.length
 |_,_,.nil=>rfl
 |_,_,.cons _ _ q=>by simp[fX.length q]
theorem fX.app:∀{xs ys:List V} {ds es:List RD},fX CK K H xs ds->fX CK K H ys es->fX CK K H (xs++ys) (ds++es)
 |_,_,_,_,.nil,r=>r
 |_,_,_,_,.cons h f q,r=>.cons h f (fX.app q r)
theorem fX.at:∀{xs:List V} {ds:List RD} {q:Nat} {d:RD},fX CK K H xs ds->ds[q]?=some d->∃x z,xs[q]?=some (.ref x)/\Rw CK H x d.1 (.int d.2.1) (.int d.2.2.1) (.ref z)/\Fq K H z d.2.2.2
 |_,_,_,_,.nil,h=>by simp at h
 |_,_,0,_,.cons h f _,e=>by simp at e;subst e;exact⟨_,_,rfl,h,f⟩
 |_,_,i+1,_,.cons _ _ q,e=>by simpa using fX.at q (by simpa using e)
theorem fX.upd {l:Addr}{ys:List V}{o:HO}(hl:H l=some (.lst ys)):∀{xs:List V} {ds:List RD},fX CK K H xs ds->fX CK K (L2.upd H l o) xs ds
 |_,_,.nil=>.nil
 |_,_,.cons (h:=h) f q=>by
  obtain⟨dx,e⟩:=h;exact .cons ⟨dx,by rw[aW (kI e hl (fun z=>by cases z))];exact e⟩ (f.upd hl) (fX.upd hl q)
end
def lZ (CN:Addr)(K:Frag)(CK:Kd->Addr):Sp:=fun vs H Q _=>∃(n l:Addr) (m:Int) (ds:List RD),vs=[.ref n]/\eO CN K H n l m ds/\ds.length<=100/\∀a xs H',aT H H'->H a=none->H' a=some (.lst xs)->fX CK K H' xs ds->Q (.ref a) H'
abbrev RE:=RD × Q2
def jA (k:Kd)(l:List RD):List RD:=l.filter fun d=>decide (d.1=k)
theorem Ia (k:Kd)(l:List RD)(e:RD):jA k (l++[e])=if e.1=k then jA k l++[e] else jA k l:=by
 unfold jA;rw[filter_append]
 by_cases h:e.1=k
 ·rw[if_pos h];simp[h]
 ·rw[if_neg h];simp[h]
def sR (K:Frag):Sp:=fun vs H Q _=>∃(a b:Addr) (p q:Q2) (n m:Nat),vs=[.ref a,.ref b]/\Fq K H a p/\Fq K H b q/\1<=p.2/\1<=q.2/\0 < q.1/\Bd n p/\Bd m q/\n+m+1<=9000/\qE H Q (pY p q)
section
variable {m n:Nat} {hp:List Q2} {d:RD} {e:RE}
theorem zY {ps:List Q2}{j:Nat}(h:j < ps.length):ps[j]?=some (ps.getD j (0,1)):=by rw[getD_eq_getElem?_getD,getElem?_eq_getElem h];rfl
end
def rzl (ps:List Q2)(j:Nat)(a:Q2):List Q2:=ps.set j (oR (ps.getD j (0,1)) a)
def gQ (M:List (List Q2))(i j:Nat):Q2:=(M.getD i []).getD j (0,1)
def rz (M:List (List Q2))(i j:Nat)(a:Q2):List (List Q2):=M.set i (rzl (M.getD i []) j a)
structure MxB (M:List (List Q2)) (h w n:Nat):Prop where
 h:M.length=h
 w:∀ps∈M,ps.length=w
 l:∀ps∈M,∀p∈ps,Low p/\Bd n p
theorem MxB.mono {M:List (List Q2)}{h w n n':Nat}(b:MxB M h w n)(le:n<=n'):MxB M h w n':=⟨b.h,b.w,fun ps hp p hp'=>⟨(b.l ps hp p hp').1,(b.l ps hp p hp').2.mono le⟩⟩
theorem MxB.row {M:List (List Q2)}{h w n i:Nat}(b:MxB M h w n)(hi:i < h):M[i]?=some (M.getD i [])/\M.getD i []∈M/\(M.getD i []).length=w:=by
 have hi':i < M.length:=by rw[b.h];exact hi
 have e:M.getD i []=M[i]:=by rw[getD_eq_getElem?_getD,getElem?_eq_getElem hi'];rfl
 rw[e];exact⟨getElem?_eq_getElem hi',getElem_mem hi',b.w _ (getElem_mem hi')⟩
theorem MxB.at {M:List (List Q2)}{h w n i j:Nat}(b:MxB M h w n)(hi:i < h)(hj:j < w):(M.getD i [])[j]?=some (gQ M i j)/\Low (gQ M i j)/\Bd n (gQ M i j):=by
 obtain⟨e,m,l⟩:=b.row hi;have hj':j < (M.getD i []).length:=by rw[l];exact hj
 have:=zY hj';exact⟨this,b.l _ m _ (mem_of_getElem? this)⟩
theorem MxB.rz {M:List (List Q2)}{h w n k i j:Nat}{a:Q2}(b:MxB M h w n)(hi:i < h)(hj:j < w)(la:Low a)(ba:Bd k a):MxB (L2.rz M i j a) h w (n+k+1):=by
 obtain⟨e,m,l⟩:=b.row hi;obtain⟨e2,l2,b2⟩:=b.at hi hj;refine⟨by unfold L2.rz;rw[length_set];exact b.h,fun ps hp=>?_,fun ps hp p hp'=>?_⟩
 ·rcases mem_or_eq_of_mem_set hp with z | z
  ·exact b.w ps z
  ·rw[z];unfold rzl;rw[length_set];exact l
 ·rcases mem_or_eq_of_mem_set hp with z | z
  ·have:=b.l ps z p hp';exact⟨this.1,this.2.mono (by lia)⟩
  ·rw[z] at hp';unfold rzl at hp';rcases mem_or_eq_of_mem_set hp' with y | y
   ·have:=b.l _ m p y;exact⟨this.1,this.2.mono (by lia)⟩
   ·rw[y];exact⟨tQ l2.pos la.pos,En b2 ba l2.pos la.pos⟩
theorem yR {M:List (List Q2)}{h w n i j:Nat}{a:Q2}(b:MxB M h w n)(hi:i < h)(hj:j < w)(la:Low a)(x y:Nat):Mq.val (gQ (L2.rz M i j a) x y)=Mq.val (gQ M x y)+if i=x/\j=y then Mq.val a else 0:=by
 obtain⟨e,m,l⟩:=b.row hi;obtain⟨e2,l2,b2⟩:=b.at hi hj;have hl:i < M.length:=by rw[b.h];exact hi
 unfold gQ L2.rz
 by_cases c:i=x
 ·subst c;have e3:(M.set i (rzl (M.getD i []) j a)).getD i []=rzl (M.getD i []) j a:=by rw[getD_eq_getElem?_getD,getElem?_set,if_pos rfl,if_pos hl];rfl
  rw[e3];unfold rzl
  by_cases d:j=y
  ·subst d;have e4:((M.getD i []).set j (oR ((M.getD i []).getD j (0,1)) a)).getD j (0,1)=oR ((M.getD i []).getD j (0,1)) a:=by rw[getD_eq_getElem?_getD,getElem?_set,if_pos rfl,if_pos (by rw[l];exact hj)];rfl
   rw[e4,if_pos ⟨rfl,rfl⟩];exact mQ l2.pos la.pos
  ·have e4:((M.getD i []).set j (oR ((M.getD i []).getD j (0,1)) a)).getD y (0,1)=(M.getD i []).getD y (0,1):=by rw[getD_eq_getElem?_getD,getElem?_set,if_neg d,<- getD_eq_getElem?_getD]
   rw[e4,if_neg (fun z=>d z.2),Rat.add_zero]
 ·have e3:(M.set i (rzl (M.getD i []) j a)).getD x []=M.getD x []:=by rw[getD_eq_getElem?_getD,getElem?_set,if_neg c,<- getD_eq_getElem?_getD]
  rw[e3,if_neg (fun z=>c z.1),Rat.add_zero]
structure LnB (R:List Q2) (w n:Nat):Prop where
 w:R.length=w
 l:∀p∈R,Low p/\Bd n p
theorem LnB.mono {R:List Q2}{w n n':Nat}(b:LnB R w n)(le:n<=n'):LnB R w n':=⟨b.w,fun p hp=>⟨(b.l p hp).1,(b.l p hp).2.mono le⟩⟩
theorem LnB.at {R:List Q2}{w n j:Nat}(b:LnB R w n)(hj:j < w):R[j]?=some (R.getD j (0,1))/\Low (R.getD j (0,1))/\Bd n (R.getD j (0,1)):=by
 have hj':j < R.length:=by rw[b.w];exact hj
 have:=zY hj';exact⟨this,b.l _ (mem_of_getElem? this)⟩
theorem LnB.set {R:List Q2}{w n j:Nat}{q:Q2}(b:LnB R w n)(lq:Low q)(bq:Bd n q):LnB (R.set j q) w n:=⟨by rw[length_set];exact b.w,fun p hp=>by
 rcases mem_or_eq_of_mem_set hp with z | z
 ·exact b.l p z
 ·rw[z];exact⟨lq,bq⟩⟩
theorem LnB.rz {R:List Q2}{w n k j:Nat}{a:Q2}(b:LnB R w n)(hj:j < w)(la:Low a)(ba:Bd k a):LnB (rzl R j a) w (n+k+1):=by
 obtain⟨_,l2,b2⟩:=b.at hj;exact(b.mono (by lia)).set (tQ l2.pos la.pos) (En b2 ba l2.pos la.pos)
theorem wS {R:List Q2}{j y:Nat}{q:Q2}(hj:j < R.length):(R.set j q).getD y (0,1)=if j=y then q else R.getD y (0,1):=by
 rw[getD_eq_getElem?_getD,getElem?_set]
 by_cases e:j=y
 ·rw[if_pos e,if_pos e,if_pos (by lia)];rfl
 ·rw[if_neg e,if_neg e,<- getD_eq_getElem?_getD]
theorem Gf {R:List Q2}{w n j:Nat}{a:Q2}(b:LnB R w n)(hj:j < w)(la:Low a)(y:Nat):Mq.val ((rzl R j a).getD y (0,1))=Mq.val (R.getD y (0,1))+if j=y then Mq.val a else 0:=by
 obtain⟨_,l2,b2⟩:=b.at hj;unfold rzl;rw[wS (by rw[b.w];exact hj)]
 by_cases d:j=y
 ·subst d;rw[if_pos rfl,if_pos rfl];exact mQ l2.pos la.pos
 ·rw[if_neg d,if_neg d,Rat.add_zero]
def SX (as:List Addr)(H H':Hp):Prop:=∀b o,H b=some o->b∉as->H' b=some o
theorem aT.sx {as:List Addr}{H H':Hp}(s:aT H H'):SX as H H':=fun b o e _=>s b o e
theorem SX.trans {as:List Addr}{H H1 H2:Hp}(a:SX as H H1)(b:SX as H1 H2):SX as H H2:=fun c o h n=>b c o (a c o h n) n
theorem SX.write {as:List Addr}{H H1:Hp}{l:Addr}{o:HO}(a:SX as H H1)(hl:l∈as):SX as H (upd H1 l o):=fun c u h n=>by rw[aW (fun z=>n (by rw[z];exact hl))];exact a c u h n
theorem SX.mono {as bs:List Addr}{H H':Hp}(a:SX as H H')(h:∀x∈as,x∈bs):SX bs H H':=fun c o e n=>a c o e fun z=>n (h c z)
theorem SX.same {as:List Addr}{H0 H H':Hp}(s:aT H0 H)(a:SX as H H')(h:∀x∈as,H0 x=none):aT H0 H':=fun c o e=>a c o (s c o e) fun z=>by rw[h c z] at e;cases e
def Tm (as:List Addr)(H:Hp):Prop:=∀a∈as,∃xs,H a=some (.lst xs)
theorem SX.seqT {K:Frag}{as:List Addr}{H H':Hp}(hl:Tm as H)(e:SX as H H'){a:Addr}{xs:List V}(h:SqT K H a xs):SqT K H' a xs:=by
 have nx:∀{o:HO},H a=some o->(∀ys,o≠.lst ys)->a∉as:=fun ho n z=>by
  obtain⟨ys,hy⟩:=hl a z;rw[hy] at ho;exact n ys (Option.some.inj ho).symm
 rcases h with (h | ⟨u,h⟩) | h
 ·exact .inl (.inl (e _ _ h (nx h fun ys z=>by cases z)))
 ·exact .inl (.inr ⟨u,e _ _ h (nx h fun ys z=>by cases z)⟩)
 ·exact .inr h
theorem SX.rw {CK:Kd->Addr}{as:List Addr}{H H':Hp}(hl:Tm as H)(e:SX as H H'){x:Addr}{k:Kd}{s g z:V}(h:Rw CK H x k s g z):Rw CK H' x k s g z:=by
 obtain⟨dx,q⟩:=h;refine⟨dx,e _ _ q fun y=>?_⟩;obtain⟨ys,hy⟩:=hl x y;rw[hy] at q;cases q
theorem SX.fqs {K:Frag}{as:List Addr}{H H':Hp}(hl:Tm as H)(e:SX as H H'):∀{xs:List V} {ps:List Q2},Fqs K H xs ps->Fqs K H' xs ps
 |_,_,.nil=>.nil
 |_,_,.cons f q=>.cons (e.seqT hl f) (SX.fqs hl e q)
structure Mx (K:Frag) (H:Hp) (D:Addr) (as:List Addr) (M:List (List Q2)):Prop where
 d:H D=some (.lst (as.map V.ref))
 n:as.Nodup
 nd:D∉as
 la:as.length=M.length
 r:∀(i:Nat) (a:Addr) (ps:List Q2),as[i]?=some a->M[i]?=some ps->∃xs,H a=some (.lst xs)/\Fqs K H xs ps
theorem Mx.lsts {K:Frag}{H:Hp}{D:Addr}{as:List Addr}{M:List (List Q2)}(m:Mx K H D as M):Tm as H:=fun a ha=>by
 obtain⟨i,hi⟩:=getElem?_of_mem ha;have il:=(List.getElem?_eq_some_iff.mp hi).1;have il':i < M.length:=by rw[<- m.la];exact il
 obtain⟨xs,h,_⟩:=m.r i a M[i] hi (getElem?_eq_getElem il');exact⟨xs,h⟩
theorem Mx.same {K:Frag}{H H':Hp}{D:Addr}{as:List Addr}{M:List (List Q2)}(s:aT H H')(m:Mx K H D as M):Mx K H' D as M:=⟨s _ _ m.d,m.n,m.nd,m.la,fun i a ps h1 h2=>by
 obtain⟨xs,h,f⟩:=m.r i a ps h1 h2;exact⟨xs,s _ _ h,f.same s⟩⟩
theorem Mx.other {K:Frag}{H:Hp}{D l:Addr}{as:List Addr}{M:List (List Q2)}{ys:List V}{o:HO}(m:Mx K H D as M)(hl:H l=some (.lst ys))(n1:l≠D)(n2:l∉as):Mx K (upd H l o) D as M:=⟨by rw[aW (Ne.symm n1)];exact m.d,m.n,m.nd,m.la,fun i a ps h1 h2=>by
 obtain⟨xs,h,f⟩:=m.r i a ps h1 h2;exact⟨xs,by rw[aW (fun z=>n2 (by rw[<- z];exact mem_of_getElem? h1))];exact h,f.upd hl⟩⟩
theorem Mx.set {K:Frag}{H H1:Hp}{D a v:Addr}{as:List Addr}{M:List (List Q2)}{i j:Nat}{ps:List Q2}{xs:List V}{q:Q2}(m:Mx K H D as M)(ha:as[i]?=some a)(hp:M[i]?=some ps)(hx:H a=some (.lst xs))(hF:Fqs K H xs ps)(s:aT H H1)(fv:Fq K H1 v q):Mx K (upd H1 a (.lst (xs.set j (.ref v)))) D as (M.set i (ps.set j q))/\SX as H (upd H1 a (.lst (xs.set j (.ref v)))):=by
 have ma:=mem_of_getElem? ha;have hx1:=s _ _ hx;have il:=(List.getElem?_eq_some_iff.mp ha).1;refine⟨⟨?_,m.n,m.nd,by rw[length_set];exact m.la,fun k b qs h1 h2=>?_⟩,s.sx.write ma⟩
 ·rw[aW (fun z=>m.nd (by rw[z];exact ma))];exact s _ _ m.d
 ·rw[getElem?_set] at h2
  by_cases c:i=k
  ·subst c;rw[ha] at h1;have h1:a=b:=Option.some.inj h1;subst h1;rw[if_pos rfl] at h2;split at h2
   ·have h2:ps.set j q=qs:=Option.some.inj h2;rw[<- h2];exact⟨_,aD,(Fqs.set fv j (hF.same s)).upd hx1⟩
   ·cases h2
  ·rw[if_neg c] at h2;obtain⟨ys,hy,fy⟩:=m.r k b qs h1 h2;have nb:b≠a:=fun z=>by
    subst z;have kl:=(List.getElem?_eq_some_iff.mp h1).1;have e1:as[i]'il=b:=(List.getElem?_eq_some_iff.mp ha).2;have e2:as[k]'kl=b:=(List.getElem?_eq_some_iff.mp h1).2;exact c ((getElem_inj m.n).mp (e1.trans e2.symm))
   exact⟨ys,by rw[aW nb];exact s _ _ hy,(fy.same s).upd hx1⟩
def cQ (k:Kd):Nat:=if k=.ho then 1 else 0
def en (M:List (List Q2))(d:RD)(c:Nat)(a:Q2):List (List Q2):=rz (rz M d.2.1.toNat c a) d.2.2.1.toNat c (Mq.minus (0,1) a)
def dl (s g x:Nat):Rat:=(if s=x then 1 else 0) - (if g=x then 1 else 0)
def cM (d:RD)(h x y:Nat):Rat:=match d.1 with
 | .pc=>dl d.2.1.toNat d.2.2.1.toNat x*dl d.2.1.toNat d.2.2.1.toNat y*(1 / Mq.val d.2.2.2)
 | .pu=>0
 | .ho=>dl d.2.1.toNat d.2.2.1.toNat x*(if h=y then 1 else 0)+(if h=x then 1 else 0)*dl d.2.1.toNat d.2.2.1.toNat y
def cR (d:RD)(h x:Nat):Rat:=match d.1 with
 | .pc=>0
 | .pu=>- dl d.2.1.toNat d.2.2.1.toNat x*Mq.val d.2.2.2
 | .ho=>if h=x then Mq.val d.2.2.2 else 0
def eqM:Nat->List RD->Nat->Nat->Rat
 |_,[],_,_=>0
 |h,d :: ds,x,y=>cM d h x y+eqM (h+cQ d.1) ds x y
def eqR:Nat->List RD->Nat->Rat
 |_,[],_=>0
 |h,d :: ds,x=>cR d h x+eqR (h+cQ d.1) ds x
def cJ (ds:List RD):Nat:=(jA .ho ds).length
theorem kC (ds:List RD)(d:RD):cJ (ds++[d])=cJ ds+cQ d.1:=by
 unfold cJ cQ;rw[Ia];split
 ·rw[List.length_append];rfl
 ·rfl
theorem fQ (d:RD)(ds:List RD):cJ (d :: ds)=cQ d.1+cJ ds:=by
 unfold cJ cQ jA
 by_cases h:d.1=.ho
 ·rw[filter_cons_of_pos (by exact decide_eq_true h),if_pos h,length_cons];lia
 ·rw[filter_cons_of_neg (by simp[h]),if_neg h];lia
theorem Bk (d:RD)(x y:Nat):∀(ds:List RD) (h:Nat),eqM h (ds++[d]) x y=eqM h ds x y+cM d (h+cJ ds) x y
 | [],h=>by show cM d h x y+0=0+cM d (h+0) x y;rw[Nat.add_zero];grind
 |e :: ds,h=>by
  show cM e h x y+eqM (h+cQ e.1) (ds++[d]) x y=cM e h x y+eqM (h+cQ e.1) ds x y+_;rw[Bk d x y ds,fQ,Nat.add_assoc];grind
theorem Ah (d:RD)(x:Nat):∀(ds:List RD) (h:Nat),eqR h (ds++[d]) x=eqR h ds x+cR d (h+cJ ds) x
 | [],h=>by show cR d h x+0=0+cR d (h+0) x;rw[Nat.add_zero];grind
 |e :: ds,h=>by
  show cR e h x+eqR (h+cQ e.1) (ds++[d]) x=cR e h x+eqR (h+cQ e.1) ds x+_;rw[Ah d x ds,fQ,Nat.add_assoc];grind
theorem gD:Low (1,1):=⟨by decide,by decide⟩
theorem kE {a:Q2}{k:Nat}(la:Low a)(ba:Bd k a):Low (Mq.minus (0,1) a)/\Bd (k+2) (Mq.minus (0,1) a)/\Mq.val (Mq.minus (0,1) a)=- Mq.val a:=by
 have h01:1<=((0,1):Q2).2:=by decide
 have b01:Bd 1 (0,1):=⟨show (0:Nat) < 2 ^ 1 by decide,show (1:Nat) < 2 ^ 1 by decide⟩
 refine⟨pI h01 la.pos,(Mq.Oe b01 ba h01 la.pos).mono (by lia),?_⟩;rw[pB h01 la.pos,pQ];grind
theorem Aw {M:List (List Q2)}{h w n k c:Nat}{d:RD}{a:Q2}(b:MxB M h w n)(pt:cH (h:Int) d.2.1 d.2.2.1)(hc:c < w)(la:Low a)(ba:Bd k a):MxB (en M d c a) h w (n+2*k+4)/\∀x y,Mq.val (gQ (en M d c a) x y)=Mq.val (gQ M x y)+dl d.2.1.toNat d.2.2.1.toNat x*(if c=y then 1 else 0)*Mq.val a:=by
 obtain⟨i0,i1,j0,j1⟩:=pt;obtain⟨ln,bn,vn⟩:=kE la ba;have b1:=b.rz (i:=d.2.1.toNat) (by lia) hc la ba;have b2:=b1.rz (i:=d.2.2.1.toNat) (by lia) hc ln bn;refine⟨b2.mono (by lia),fun x y=>?_⟩;unfold en;rw[yR b1 (by lia) hc ln,yR b (by lia) hc la,vn];unfold dl
 by_cases c1:d.2.1.toNat=x<;>by_cases c2:d.2.2.1.toNat=x<;>by_cases c3:c=y<;>simp only[c1,c2,c3,true_and,and_true,false_and,and_false,and_self,if_true,if_false]<;>grind
def hM (M:List (List Q2))(d:RD)(c:Nat):List (List Q2):=rz (rz (en M d c (1,1)) c d.2.1.toNat (1,1)) c d.2.2.1.toNat (Mq.minus (0,1) (1,1))
def pM (M:List (List Q2))(d:RD):List (List Q2):=en (en M d d.2.1.toNat (pY (1,1) d.2.2.2)) d d.2.2.1.toNat (Mq.minus (0,1) (pY (1,1) d.2.2.2))
def pR (rs:List Q2)(d:RD):List Q2:=rzl (rzl rs d.2.1.toNat (Mq.minus (0,1) d.2.2.2)) d.2.2.1.toNat d.2.2.2
theorem fY:Bd 1 (1,1):=⟨show (1:Nat) < 2 ^ 1 by decide,show (1:Nat) < 2 ^ 1 by decide⟩
theorem h11:1<=((1,1):Q2).2:=by decide
theorem zO {p:Q2}{k:Nat}(l:Low p)(h0:0 < p.1)(b:Bd k p):Low (pY (1,1) p)/\Bd (k+1) (pY (1,1) p)/\Mq.val (pY (1,1) p)=1 / Mq.val p:=by
 refine⟨sH h11 (by lia),(xF fY b h11 (by lia)).mono (by lia),?_⟩;rw[rD h11 l.pos (by lia),Ge]
theorem qa7 {M:List (List Q2)}{w n k m h:Nat}{d:RD}(b:MxB M w w n)(pt:cH (m:Int) d.2.1 d.2.2.1)(hm:m<=w)(hk:d.1=.pc)(l:Low d.2.2.2)(h0:0 < d.2.2.2.1)(bk:Bd k d.2.2.2):MxB (pM M d) w w (n+4*k+20)/\∀x y,Mq.val (gQ (pM M d) x y)=Mq.val (gQ M x y)+cM d h x y:=by
 obtain⟨i0,i1,j0,j1⟩:=pt;obtain⟨ls,bs,vs⟩:=zO l h0 bk;obtain⟨ln,bn,vn⟩:=kE ls bs;have pt':cH (w:Int) d.2.1 d.2.2.1:=⟨i0,by lia,j0,by lia⟩
 obtain⟨b1,v1⟩:=Aw b pt' (c:=d.2.1.toNat) (by lia) ls bs;obtain⟨b2,v2⟩:=Aw b1 pt' (c:=d.2.2.1.toNat) (by lia) ln bn;refine⟨b2.mono (by lia),fun x y=>?_⟩;unfold pM;rw[v2,v1,vn,vs];unfold cM;rw[hk];show _=_+dl d.2.1.toNat d.2.2.1.toNat x*dl d.2.1.toNat d.2.2.1.toNat y*(1 / Mq.val d.2.2.2)
 generalize 1 / Mq.val d.2.2.2=v;generalize dl d.2.1.toNat d.2.2.1.toNat x=u;unfold dl
 by_cases c1:d.2.1.toNat=y<;>by_cases c2:d.2.2.1.toNat=y<;>simp only[c1,c2,if_true,if_false]<;>grind
theorem qd9 {M:List (List Q2)}{w n m c:Nat}{d:RD}(b:MxB M w w n)(pt:cH (m:Int) d.2.1 d.2.2.1)(hm:m<=w)(hc:c < w)(hk:d.1=.ho):MxB (hM M d c) w w (n+20)/\∀x y,Mq.val (gQ (hM M d c) x y)=Mq.val (gQ M x y)+cM d c x y:=by
 obtain⟨i0,i1,j0,j1⟩:=pt;have pt':cH (w:Int) d.2.1 d.2.2.1:=⟨i0,by lia,j0,by lia⟩
 obtain⟨ln,bn,vn⟩:=kE gD fY;obtain⟨b1,v1⟩:=Aw b pt' hc gD fY;have b2:=b1.rz (i:=c) (j:=d.2.1.toNat) hc (by lia) gD fY;have b3:=b2.rz (i:=c) (j:=d.2.2.1.toNat) hc (by lia) ln bn;refine⟨b3.mono (by lia),fun x y=>?_⟩;unfold hM;rw[yR b2 hc (by lia) ln,yR b1 hc (by lia) gD,v1,vn,Ge];unfold cM;rw[hk];show _=_+(dl d.2.1.toNat d.2.2.1.toNat x*(if c=y then 1 else 0)+(if c=x then 1 else 0)*dl d.2.1.toNat d.2.2.1.toNat y)
 generalize dl d.2.1.toNat d.2.2.1.toNat x=u;unfold dl
 by_cases c1:d.2.1.toNat=y<;>by_cases c2:d.2.2.1.toNat=y<;>by_cases c3:c=x<;>by_cases c4:c=y<;>simp only[c1,c2,c3,c4,true_and,and_true,false_and,and_false,and_self,if_true,if_false]<;>grind
theorem Us {rs:List Q2}{w n k m h:Nat}{d:RD}(b:LnB rs w n)(pt:cH (m:Int) d.2.1 d.2.2.1)(hm:m<=w)(hk:d.1=.pu)(l:Low d.2.2.2)(bk:Bd k d.2.2.2):LnB (pR rs d) w (n+4*k+20)/\∀x,Mq.val ((pR rs d).getD x (0,1))=Mq.val (rs.getD x (0,1))+cR d h x:=by
 obtain⟨i0,i1,j0,j1⟩:=pt;obtain⟨ln,bn,vn⟩:=kE l bk;have b1:=b.rz (j:=d.2.1.toNat) (by lia) ln bn;have b2:=b1.rz (j:=d.2.2.1.toNat) (by lia) l bk;refine⟨b2.mono (by lia),fun x=>?_⟩;unfold pR;rw[Gf b1 (by lia) l,Gf b (by lia) ln,vn];unfold cR;rw[hk];show _=_ + - dl d.2.1.toNat d.2.2.1.toNat x*Mq.val d.2.2.2;unfold dl
 by_cases c1:d.2.1.toNat=x<;>by_cases c2:d.2.2.1.toNat=x<;>simp only[c1,c2,if_true,if_false]<;>grind
theorem vE {m:Nat}:∀(ds:List RD) (h x:Nat),(∀d∈ds,cH (m:Int) d.2.1 d.2.2.1)->m<=h->h+cJ ds<=x->eqR h ds x=0
 | [],_,_,_,_,_=>rfl
 |d :: ds,h,x,pt,hm,hx=>by
  rw[fQ] at hx;have ih:=vE ds (h+cQ d.1) x (fun e he=>pt e (mem_cons_of_mem _ he)) (by lia) (by lia);obtain⟨i0,i1,j0,j1⟩:=pt d (by simp);show cR d h x+eqR (h+cQ d.1) ds x=0;rw[ih];have z:dl d.2.1.toNat d.2.2.1.toNat x=0:=by unfold dl;rw[if_neg (by lia),if_neg (by lia)];grind
  unfold cR
  cases hk:d.1 with
  |pc=>show (0:Rat)+0=0;grind
  |pu=>show - dl d.2.1.toNat d.2.2.1.toNat x*Mq.val d.2.2.2+0=0;rw[z];grind
  |ho=>
   have:cQ d.1=1:=by unfold cQ;rw[if_pos hk]
   show (if h=x then Mq.val d.2.2.2 else 0)+0=0;rw[if_neg (by lia)];grind
theorem qf3 {rs:List Q2}{w n k m c:Nat}{d:RD}(b:LnB rs w n)(hc:c < w)(hk:d.1=.ho)(l:Low d.2.2.2)(bk:Bd k d.2.2.2)(h0:Mq.val (rs.getD c (0,1))=0):LnB (rs.set c d.2.2.2) w (n+k)/\∀x,Mq.val ((rs.set c d.2.2.2).getD x (0,1))=Mq.val (rs.getD x (0,1))+cR d c x:=by
 refine⟨(b.mono (by lia)).set l (bk.mono (by lia)),fun x=>?_⟩;rw[wS (by rw[b.w];exact hc)];unfold cR;rw[hk];show _=_+if c=x then Mq.val d.2.2.2 else 0
 by_cases e:c=x
 ·subst e;rw[if_pos rfl,if_pos rfl,h0];grind
 ·rw[if_neg e,if_neg e];grind
def qI (K:Frag):Sp:=fun vs H Q _=>∃(l z:Addr) (j:Nat) (xs:List V) (ps:List Q2) (a:Q2) (n m:Nat),vs=[.ref l,.int (j:Int),.ref z]/\H l=some (.lst xs)/\Fqs K H xs ps/\j < ps.length/\1<=(ps.getD j (0,1)).2/\Bd n (ps.getD j (0,1))/\Fq K H z a/\1<=a.2/\Bd m a/\n+m+1<=9000/\∀v H1,aT H H1->Fq K H1 v (oR (ps.getD j (0,1)) a)->Q .non (upd H1 l (.lst (xs.set j (.ref v))))
def xH (K:Frag)(CK:Kd->Addr):Sp:=fun vs H Q _=>∃(D x z:Addr) (zz:V) (as:List Addr) (M:List (List Q2)) (d:RD) (w n k c:Nat) (a:Q2),vs=[.ref D,.ref x,.int (c:Int),.ref z]/\Mx K H D as M/\MxB M w w n/\Rw CK H x d.1 (.int d.2.1) (.int d.2.2.1) zz/\cH (w:Int) d.2.1 d.2.2.1/\c < w/\Fq K H z a/\Low a/\Bd k a/\n+2*k+4<=9000/\∀H',SX as H H'->Mx K H' D as (en M d c a)->Q .non H'
def Bh (K:Frag)(CK:Kd->Addr):Sp:=fun vs H Q _=>∃(D x zz:Addr) (as:List Addr) (M:List (List Q2)) (d:RD) (w n k:Nat),vs=[.ref D,.ref x]/\Mx K H D as M/\MxB M w w n/\Rw CK H x d.1 (.int d.2.1) (.int d.2.2.1) (.ref zz)/\Fq K H zz d.2.2.2/\cH (w:Int) d.2.1 d.2.2.1/\Low d.2.2.2/\0 < d.2.2.2.1/\Bd k d.2.2.2/\n+4*k+20<=9000/\∀H',SX as H H'->Mx K H' D as (pM M d)->Q .non H'
def tN (K:Frag)(CK:Kd->Addr):Sp:=fun vs H Q _=>∃(R x zz:Addr) (ys:List V) (rs:List Q2) (d:RD) (w n k:Nat),vs=[.ref R,.ref x]/\H R=some (.lst ys)/\Fqs K H ys rs/\LnB rs w n/\Rw CK H x d.1 (.int d.2.1) (.int d.2.2.1) (.ref zz)/\Fq K H zz d.2.2.2/\cH (w:Int) d.2.1 d.2.2.1/\Low d.2.2.2/\Bd k d.2.2.2/\n+4*k+20<=9000/\∀ys' H',SX [R] H H'->H' R=some (.lst ys')->Fqs K H' ys' (pR rs d)->Q .non H'
def Ap (K:Frag)(CK:Kd->Addr):Sp:=fun vs H Q _=>∃(D R x zz:Addr) (as:List Addr) (M:List (List Q2)) (ys:List V) (rs:List Q2) (d:RD) (w n c:Nat),vs=[.ref D,.ref R,.ref x,.int (c:Int)]/\Mx K H D as M/\MxB M w w n/\H R=some (.lst ys)/\Fqs K H ys rs/\rs.length=w/\R≠D/\R∉as/\Rw CK H x d.1 (.int d.2.1) (.int d.2.2.1) (.ref zz)/\Fq K H zz d.2.2.2/\cH (w:Int) d.2.1 d.2.2.1/\c < w/\n+20<=9000/\∀ys' H',SX (R :: as) H H'->Mx K H' D as (hM M d c)->H' R=some (.lst ys')->Fqs K H' ys' (rs.set c d.2.2.2)->Q .non H'
structure Fms (K:Frag) (H0 H:Hp) (us:List V) (X:List (List Q2)):Prop where
 l:us.length=X.length
 r:∀(i:Nat) (x:V) (ps:List Q2),us[i]?=some x->X[i]?=some ps->∃(a:Addr) (xs:List V),x=.ref a/\H0 a=none/\H a=some (.lst xs)/\Fqs K H xs ps
structure xL (m:Nat) (ds:List RD) (N:Nat) (X:List (List Q2)) (Y:List Q2):Prop where
 x:MxB X (m - 1+cJ ds) (m - 1+cJ ds) N
 y:LnB Y (m - 1+cJ ds) N
 vx:∀i j,Mq.val (gQ X i j)=eqM m ds (i+1) (j+1)
 vy:∀i,Mq.val (Y.getD i (0,1))=eqR m ds (i+1)
def iK (kb:Nat->Nat):Nat->Nat
 |0=>0
 |i+1=>iK kb i+(4*kb i+20)
theorem vV (kb:Nat->Nat){i:Nat}:∀{j:Nat},i<=j->iK kb i<=iK kb j
 |0,h=>by rw[Nat.le_zero.mp h];exact Nat.le_refl _
 |j+1,h=>by
  rcases Nat.eq_or_lt_of_le h with z | z
  ·rw[z];exact Nat.le_refl _
  ·have:=vV kb (i:=i) (j:=j) (by lia);show _<=iK kb j+(4*kb j+20)
   lia
def Ds (CN:Addr)(K:Frag):Sp:=fun vs H Q _=>∃(n l:Addr) (m:Nat) (kb:Nat->Nat) (ds:List RD),vs=[.ref n]/\eO CN K H n l (m:Int) ds/\(∀i d,ds[i]?=some d->Co (m:Int) d/\Bd (kb i) d.2.2.2)/\1<=m/\m<=20/\ds.length<=40/\iK kb ds.length+30<=8900/\
 ∀t p r us ys X Y H',aT H H'->H' t=some (.tup [.ref p,.ref r])->H p=none->H r=none->H' p=some (.lst us)->H' r=some (.lst ys)->Fms K H H' us X->Fqs K H' ys Y->(∀x∈us,x≠.ref p/\x≠.ref r)->xL m ds (iK kb ds.length+1) X Y->Q (.ref t) H'
def Rj (ta:TA):TE:=fun σ H Q=>ta σ H fun vs H1=>∃n:Nat,vs=[.int (n:Int)]/\n<=1000/\∀l,H1 l=none->Q (.ref l) (upd H1 l (.lst ((List.range n).map fun (i:Nat)=>V.int (i:Int))))
theorem uE:∀{n:Nat} {acc:List Value},acc.length=n->(∀(j:Nat) (v:Value),acc[j]?=some v->∃t,v=Value.int (j:Int) t)->bQ ((List.range n).map fun (i:Nat)=>V.int (i:Int)) acc
 |0,[],_,_=>.nil
 |n+1,acc,hl,h=>by
  have e:acc=acc.take n++[acc[n]'(by lia)]:=by
   have h1:acc.take (n+1)=acc:=take_of_length_le (by lia);have h2:acc.take (n+1)=acc.take n++[acc[n]'(by lia)]:=by rw[take_add_one,getElem?_eq_getElem (by lia)];rfl
   rw[h1] at h2;exact h2
  rw[range_succ,map_append,e];refine bQ.append (uE (by rw[length_take];lia) fun j v hj=>?_) (.cons ?_ .nil)
  ·have hjn:j < n:=by
    have:=(List.getElem?_eq_some_iff.mp hj).1;rw[length_take] at this;lia
   rw[getElem?_take,if_pos hjn] at hj;exact h j v hj
  ·obtain⟨t,ht⟩:=h n _ (getElem?_eq_getElem (by lia));rw[ht];exact⟨t,rfl⟩
section
variable {X:Cx} {a:Expr} {p p2 pos pos2:Pos} {ta:TA}
theorem oN (hc:X.calm=true)(hgl:Gl X "list")(hml:X.mg "list"=none)(hg:Gl X "range")(hm:X.mg "range"=none)(ha:PA X [a] ta)(hs:starEach [a] X.env=[(false,eval a X.env)]:=by rfl)(he:starEach [.Call (.Name "range" p2) [a] [] pos2] X.env=(false,eval (.Call (.Name "range" p2) [a] [] pos2) X.env) :: starEach [] X.env:=by rfl)(hpl:(backTo pos (starEach [] X.env)).any (·.1)=false:=by rfl) :
  PE X (.Call (.Name "list" p) [.Call (.Name "range" p2) [a] [] pos2] [] pos) (Rj ta):=by
 intro pins s σ H Q I h;refine wpAny_Call_Name_kw (jD I hgl hml PyProof.Rows.boot_list ?_);refine PyProof.Rows.callWith_type1 ?_ he hpl;rw[he];show wpAny _ _ (spliced ((false,eval (.Call (.Name "range" p2) [a] [] pos2) X.env) :: backTo pos (starEach [] X.env))) _ _ s;refine Calls.spliced_cons ?_;refine wpAny_Call_Name_kw (jD I hg hm boot_range (PyProof.Rows.callWith_type1 (thn (ha pos2 pins s σ H _ I h) fun us s1 ⟨vs,H1,I1,r1,q1⟩=>?_) hs rfl));obtain⟨n,e,hn,q⟩:=q1;subst e
 cases r1 with
 |cons r rr=>
  cases rr
  obtain⟨t,rfl⟩:=r;refine call_range_1 ?_;refine Calls.spliced_nil ?_;have I2:∀(ob:Obj) (tk:Nat),Inv X pins σ H1 { s1 with heap:=s1.heap.push ob,toks:=tk }:=fun ob tk=>I1.kept (t':=tk) (fun b ob e=>Heap.get?_push_of_some _ e);have hn24:(n:Nat)<=2 ^ 24:=by lia
  refine call_list_range (n:=n) (I1.ok.hd hc) (IsRange.new ..) (small_one (by lia) (by lia) (by lia) (by lia)) (by rw[rangeSize_one];split<;>lia) hn24 (fun h' tk acc' c' kp e items=>?_);have rl:bQ ((List.range n).map fun (i:Nat)=>V.int (i:Int)) acc'.toList:=uE (by rw[Array.length_toList];exact items.1) (fun j v hj=>by
   obtain⟨t,ht⟩:=items.2 j v (by rw[<- Array.getElem?_toList];exact hj);exact⟨t,by rw[ht];congr 1;lia⟩)
  have hz:((List.range n).map fun (i:Nat)=>V.int (i:Int)).length<=sizeLine:=by rw[length_map,length_range,sizeLine_eq];lia
  exact⟨.ref _,_,(I2 _ _).laid (t':=tk) kp (Nat.le_refl _) (show dL X.prog X.w _ h' _ (.lst ((List.range n).map fun (i:Nat)=>V.int (i:Int))) from ⟨hz,acc'.toList,c',rl,e⟩),rfl,q _ ((I2 _ _).hok.fresh (Nat.le_refl _))⟩
end
def jn (ms:List Int)(s g:Nat):List Int:=ms.map fun x=>if x=ms.getD g 0 then ms.getD s 0 else x
def eJ (m:Nat):List Int:=(List.range m).map fun (i:Nat)=>(i:Int)
def hV (ms:List Int)(d:RD):List Int:=if d.1=.pu then ms else jn ms d.2.1.toNat d.2.2.1.toNat
def mks (m:Nat)(ds:List RD):List Int:=ds.foldl hV (eJ m)
def mk (m:Nat)(ds:List RD)(p:Nat):Int:=(mks m ds).getD p 0
theorem nY (m:Nat)(ds:List RD)(d:RD):mks m (ds++[d])=hV (mks m ds) d:=by unfold mks;rw[foldl_append];rfl
theorem Jk (ms:List Int)(d:RD):(hV ms d).length=ms.length:=by
 unfold hV;split
 ·rfl
 ·unfold jn;rw[length_map]
theorem vX:∀(ds:List RD) (ms:List Int),(ds.foldl hV ms).length=ms.length
 | [],_=>rfl
 |d :: ds,ms=>by show (ds.foldl hV (hV ms d)).length=_;rw[vX ds,Jk]
theorem mM (m:Nat)(ds:List RD):(mks m ds).length=m:=by unfold mks eJ;rw[vX,length_map,length_range]
theorem Bp {ms:List Int}{f:Int->Int}{p:Nat}(h:p < ms.length):(ms.map f).getD p 0=f (ms.getD p 0):=by
 rw[getD_eq_getElem?_getD,getElem?_map,getD_eq_getElem?_getD,getElem?_eq_getElem h];rfl
theorem Mo {m p:Nat}(h:p < m):mk m [] p=(p:Int):=by
 show (eJ m).getD p 0=_;unfold eJ;rw[getD_eq_getElem?_getD,getElem?_map,getElem?_range h];rfl
theorem qV {m:Nat}{ds:List RD}{d:RD}(hk:d.1=.pu)(p:Nat):mk m (ds++[d]) p=mk m ds p:=by
 unfold mk;rw[nY];unfold hV;rw[if_pos hk]
theorem qG {m:Nat}{ds:List RD}{d:RD}(hk:d.1≠.pu){p:Nat}(hp:p < m):mk m (ds++[d]) p=if mk m ds p=mk m ds d.2.2.1.toNat then mk m ds d.2.1.toNat else mk m ds p:=by
 unfold mk;rw[nY];unfold hV;rw[if_neg hk];unfold jn;rw[Bp (by rw[mM];exact hp)]
inductive Cn (ds:List RD):Nat->Nat->Prop where
 |refl (p:Nat):Cn ds p p
 |row {d:RD} (h:d∈ds) (hk:d.1≠.pu):Cn ds d.2.1.toNat d.2.2.1.toNat
 |symm {p q:Nat} (h:Cn ds p q):Cn ds q p
 |trans {p q r:Nat} (h:Cn ds p q) (g:Cn ds q r):Cn ds p r
theorem Cn.mono {ds es:List RD}(h:∀d∈ds,d∈es){p q:Nat}(c:Cn ds p q):Cn es p q:=by
 induction c with
 |refl p=>exact .refl p
 |row hd hk=>exact .row (h _ hd) hk
 |symm _ ih=>exact .symm ih
 |trans _ _ a b=>exact .trans a b
theorem Bq {m:Nat}:∀(n:Nat) (ds:List RD),ds.length=n->(∀d∈ds,cH (m:Int) d.2.1 d.2.2.1)->∀p q,p < m->q < m->mk m ds p=mk m ds q->Cn ds p q
 |0,ds,hl,_,p,q,hp,hq,e=>by
  have:ds=[]:=length_eq_zero_iff.mp hl;subst this;rw[Mo hp,Mo hq] at e;have:p=q:=by lia
  subst this;exact .refl p
 |n+1,ds,hl,pt,p,q,hp,hq,e=>by
  obtain⟨es,d,rfl⟩:∃es d,ds=es++[d]:=⟨ds.dropLast,ds.getLast (by intro z;rw[z] at hl;cases hl),(dropLast_concat_getLast _).symm⟩
  have le:es.length=n:=by rw[List.length_append] at hl;simpa using hl
  have ih:=Bq n es le (fun x hx=>pt x (mem_append_left _ hx));have up:∀{a b:Nat},Cn es a b->Cn (es++[d]) a b:=fun c=>c.mono fun x hx=>mem_append_left _ hx
  by_cases hk:d.1=.pu
  ·rw[qV hk,qV hk] at e;exact up (ih p q hp hq e)
  ·obtain⟨i0,i1,j0,j1⟩:=pt d (by simp);have hs:d.2.1.toNat < m:=by lia
   have hg:d.2.2.1.toNat < m:=by lia
   have rw':Cn (es++[d]) d.2.1.toNat d.2.2.1.toNat:=.row (by simp) hk;rw[qG hk hp,qG hk hq] at e
   by_cases a:mk m es p=mk m es d.2.2.1.toNat
   ·have cp:=up (ih _ _ hp hg a);rw[if_pos a] at e
    by_cases b:mk m es q=mk m es d.2.2.1.toNat
    ·exact cp.trans (up (ih _ _ hq hg b)).symm
    ·rw[if_neg b] at e;exact cp.trans (rw'.symm.trans (up (ih _ _ hs hq e)))
   ·rw[if_neg a] at e
    by_cases b:mk m es q=mk m es d.2.2.1.toNat
    ·rw[if_pos b] at e;exact(up (ih _ _ hp hs e)).trans (rw'.trans (up (ih _ _ hq hg b)).symm)
    ·rw[if_neg b] at e;exact up (ih _ _ hp hq e)
theorem nE {m:Nat}:∀(n:Nat) (ds:List RD),ds.length=n->(∀d∈ds,cH (m:Int) d.2.1 d.2.2.1)->∀d∈ds,d.1≠.pu->mk m ds d.2.1.toNat=mk m ds d.2.2.1.toNat
 |0,ds,hl,_,d,hd,_=>by
  have:ds=[]:=length_eq_zero_iff.mp hl;rw[this] at hd;cases hd
 |n+1,ds,hl,pt,x,hx,hkx=>by
  obtain⟨es,d,rfl⟩:∃es d,ds=es++[d]:=⟨ds.dropLast,ds.getLast (by intro z;rw[z] at hl;cases hl),(dropLast_concat_getLast _).symm⟩
  have le:es.length=n:=by rw[List.length_append] at hl;simpa using hl
  obtain⟨i0,i1,j0,j1⟩:=pt x hx;have hs:x.2.1.toNat < m:=by lia
  have hg:x.2.2.1.toNat < m:=by lia
  by_cases hk:d.1=.pu
  ·rw[qV hk,qV hk];rcases mem_append.mp hx with z | z
   ·exact nE n es le (fun y hy=>pt y (mem_append_left _ hy)) x z hkx
   ·have:x=d:=by simpa using z
    rw[this] at hkx;exact absurd hk hkx
  ·rw[qG hk hs,qG hk hg];rcases mem_append.mp hx with z | z
   ·have ih:=nE n es le (fun y hy=>pt y (mem_append_left _ hy)) x z hkx;rw[ih]
   ·have:x=d:=by simpa using z
    subst this;rw[if_pos rfl]
    by_cases c:mk m es x.2.1.toNat=mk m es x.2.2.1.toNat
    ·rw[if_pos c]
    ·rw[if_neg c]
theorem Cn.ind {ds:List RD}{R:Nat->Nat->Prop}(r:∀p,R p p)(s:∀p q,R p q->R q p)(t:∀p q x,R p q->R q x->R p x)(h:∀d∈ds,d.1≠.pu->R d.2.1.toNat d.2.2.1.toNat){p q:Nat}(c:Cn ds p q):R p q:=by
 induction c with
 |refl p=>exact r p
 |row hd hk=>exact h _ hd hk
 |symm _ ih=>exact s _ _ ih
 |trans _ _ a b=>exact t _ _ _ a b
theorem zV {m:Nat}{ds:List RD}(pt:∀d∈ds,cH (m:Int) d.2.1 d.2.2.1){p q:Nat}(hp:p < m)(hq:q < m):mk m ds p=mk m ds q↔Cn ds p q:=
 ⟨Bq _ ds rfl pt p q hp hq,fun c=>Cn.ind (R:=fun a b=>mk m ds a=mk m ds b) (fun _=>rfl) (fun _ _ e=>e.symm) (fun _ _ _ a b=>a.trans b) (fun d hd hk=>nE _ ds rfl pt d hd hk) c⟩
def gY (F:Nat->Int)(n:Nat):List Nat:=(List.range n).filter fun p=>(List.range p).all fun q=>decide (F q≠F p)
theorem zQ (F:Nat->Int)(n:Nat):gY F (n+1)=if (List.range n).all (fun q=>decide (F q≠F n)) then gY F n++[n] else gY F n:=by
 unfold gY;rw[range_succ,filter_append]
 by_cases h:((List.range n).all fun q=>decide (F q≠F n))=true
 ·rw[if_pos h,filter_cons_of_pos (p:=fun p=>(List.range p).all fun q=>decide (F q≠F p)) (a:=n) h];rfl
 ·rw[if_neg h,filter_cons_of_neg (p:=fun p=>(List.range p).all fun q=>decide (F q≠F p)) (a:=n) h];simp
structure Ils (H0 H:Hp) (us:List V) (X:List (List Int)):Prop where
 l:us.length=X.length
 r:∀(i:Nat) (x:V) (ps:List Int),us[i]?=some x->X[i]?=some ps->∃a:Addr,x=.ref a/\H0 a=none/\H a=some (.lst (ps.map V.int))
theorem Ils.from0 {H0 H0' H:Hp}{us:List V}{X:List (List Int)}(f:Ils H0 H us X)(h:∀a,H0 a=none->H0' a=none):Ils H0' H us X:=⟨f.l,fun i x ps h1 h2=>let ⟨a,e,n,r⟩:=f.r i x ps h1 h2;⟨a,e,h a n,r⟩⟩
theorem Ew:∀{m:Nat} {S:List Nat},S.Nodup->(∀p∈S,p < m)->S.length<=m
 |0,[],_,_=>Nat.le_refl _
 |0,p :: S,_,h=>absurd (h p (mem_cons_self ..)) (Nat.not_lt_zero _)
 |m+1,S,nd,h=>by
  have e:=Ew (m:=m) (S:=S.erase m) (nd.erase m) (fun p hp=>by
   have h1:=h p (mem_of_mem_erase hp);have h2:p≠m:=fun z=>by rw[z] at hp;exact(Nodup.not_mem_erase nd) hp
   lia)
  have:=length_erase_le (a:=m) (l:=S);have h3:S.length<=(S.erase m).length+1:=by
   rw[length_erase];split<;>lia
  lia
theorem Ja {m:Nat}{ds:List RD}{f:Nat}{S:List Nat}(pt:∀d∈ds,cH (m:Int) d.2.1 d.2.2.1)(hf:f < m)(h1:f∈S)(h2:∀p∈S,p < m/\mk m ds p=mk m ds f)(h3:∀d∈ds,d.1≠.pu->(d.2.1.toNat∈S↔d.2.2.1.toNat∈S)){p:Nat}(hp:p < m):p∈S↔mk m ds p=mk m ds f:=by
 refine⟨fun h=>(h2 p h).2,fun h=>?_⟩;exact(Cn.ind (R:=fun a b=>a∈S↔b∈S) (fun _=>Iff.rfl) (fun _ _ e=>e.symm) (fun _ _ _ a b=>a.trans b) h3 ((zV pt hf hp).mp h.symm)).mp h1
theorem Ils.snoc {H0 H:Hp}{us:List V}{X:List (List Int)}{a:Addr}{ps:List Int}(f:Ils H0 H us X)(n:H0 a=none)(h:H a=some (.lst (ps.map V.int))):Ils H0 H (us++[.ref a]) (X++[ps]):=by
 refine⟨by rw[List.length_append,List.length_append,f.l];rfl,fun i x qs h1 h2=>?_⟩;have l:=f.l
 by_cases c:i < us.length
 ·rw[getElem?_append_left c] at h1;rw[getElem?_append_left (by lia)] at h2;exact f.r i x qs h1 h2
 ·have hi:i=us.length:=by
   have:=(List.getElem?_eq_some_iff.mp h1).1;rw[List.length_append] at this;simp only[length_cons,length_nil] at this;lia
  subst hi;rw[getElem?_append_right (Nat.le_refl _),Nat.sub_self] at h1;rw[getElem?_append_right (by lia),show us.length - X.length=0 by lia] at h2
  cases h1
  cases h2
  exact⟨a,rfl,n,h⟩
abbrev Stp:=Nat × Int
abbrev Br:=Nat × Nat × Nat
def stF (es:List Br)(p:Nat):List (Stp × Nat):=es.filterMap fun e=>if e.2.1=p then some ((e.1,1),e.2.2) else if e.2.2=p then some ((e.1,-1),e.2.1) else none
abbrev WS:=List (Nat × List Stp)
def bX (w:WS):List Nat:=w.map (·.1)
def pL:WS->Nat->Option (List Stp)
 | [],_=>none
 |e :: w,p=>if e.1=p then some e.2 else pL w p
theorem gA {p:Nat}{st:List Stp}:∀{w:WS},pL w p=some st->(p,st)∈w
 | [],h=>by cases h
 |e :: w,h=>by
  unfold pL at h
  by_cases c:e.1=p
  ·rw[if_pos c] at h
   cases h
   obtain⟨a,b⟩:=e;have c:a=p:=c;subst c;exact mem_cons_self ..
  ·rw[if_neg c] at h;exact mem_cons_of_mem _ (gA h)
theorem mO {p:Nat}:∀{w:WS},p∈bX w->∃st,pL w p=some st
 | [],h=>by cases h
 |e :: w,h=>by
  unfold pL
  by_cases c:e.1=p
  ·rw[if_pos c];exact⟨_,rfl⟩
  ·rw[if_neg c];rcases mem_cons.mp h with z | z
   ·exact absurd z.symm c
   ·exact mO z
theorem pO {p:Nat}:∀{w:WS},p∉bX w->pL w p=none
 | [],_=>rfl
 |e :: w,h=>by
  unfold pL;rw[if_neg (fun z=>h (by rw[<- z];exact mem_cons_self ..))];exact pO fun z=>h (mem_cons_of_mem _ z)
theorem Ks {w:WS}{p:Nat}:(pL w p).isSome=true↔p∈bX w:=by
 by_cases c:p∈bX w
 ·obtain⟨st,e⟩:=mO c;rw[e];exact⟨fun _=>c,fun _=>rfl⟩
 ·rw[pO c];exact⟨fun z=>(by cases z),fun z=>absurd z c⟩
def inF (p:Nat)(s:WS × List Nat)(t:Stp × Nat):WS × List Nat:=if t.2∈bX s.1 then s else (s.1++[(t.2,(pL s.1 p).getD []++[t.1])],s.2++[t.2])
def jK (es:List Br)(s:WS × List Nat):WS × List Nat:=if s.2=[] then s else (stF es (s.2.getLastD 0)).foldl (inF (s.2.getLastD 0)) (s.1,s.2.dropLast)
def bY (es:List Br)(b:Nat):Nat->WS × List Nat
 |0=>([(b,[])],[b])
 |n+1=>jK es (bY es b n)
def sX (es:List Br)(b e:Nat):Option (List Stp):=pL (bY es b 60).1 e
def mH (es:List Br)(s:Stp)(p q:Nat):Prop:=∃u v,(s.1,u,v)∈es/\((s.2=1/\p=u/\q=v)\/(s.2=-1/\p=v/\q=u))
inductive Pt (es:List Br) (b:Nat):List Stp->Nat->List Nat->Prop where
 |nil:Pt es b [] b [b]
 |snoc {st:List Stp} {p q:Nat} {pts:List Nat} {s:Stp} (h:Pt es b st p pts) (g:mH es s p q) (n:q∉pts):Pt es b (st++[s]) q (pts++[q])
theorem jP {es:List Br}{p:Nat}{t:Stp × Nat}(h:t∈stF es p):mH es t.1 p t.2:=by
 unfold stF at h;obtain⟨e,he,ht⟩:=mem_filterMap.mp h
 by_cases c1:e.2.1=p
 ·rw[if_pos c1] at ht
  cases ht
  exact⟨e.2.1,e.2.2,he,.inl ⟨rfl,c1.symm,rfl⟩⟩
 ·rw[if_neg c1] at ht
  by_cases c2:e.2.2=p
  ·rw[if_pos c2] at ht
   cases ht
   exact⟨e.2.1,e.2.2,he,.inr ⟨rfl,c2.symm,rfl⟩⟩
  ·rw[if_neg c2] at ht;cases ht
theorem Qi {es:List Br}{p q:Nat}{s:Stp}(h:mH es s p q):q=p\/∃t∈stF es p,t.2=q:=by
 obtain⟨u,v,he,h⟩:=h
 by_cases c:q=p
 ·exact .inl c
 refine .inr ?_;rcases h with ⟨_,rfl,rfl⟩ | ⟨_,rfl,rfl⟩
 ·refine⟨((s.1,1),q),mem_filterMap.mpr ⟨_,he,?_⟩,rfl⟩;rw[if_pos rfl]
 ·refine⟨((s.1,-1),q),mem_filterMap.mpr ⟨_,he,?_⟩,rfl⟩;rw[if_neg c,if_pos rfl]
structure WI (es:List Br) (b:Nat) (s:WS × List Nat):Prop where
 nd:(bX s.1).Nodup
 kb:b∈bX s.1
 pt:∀x st,(x,st)∈s.1->∃pts,Pt es b st x pts/\∀y∈pts,y∈bX s.1
 q:∀x∈s.2,x∈bX s.1
 cl:∀x∈bX s.1,x∉s.2->∀t y,mH es t x y->y∈bX s.1
theorem Ld (es:List Br)(b:Nat):WI es b ([(b,[])],[b]):=by
 refine⟨by simp[bX],by simp[bX],fun x st h=>?_,fun x h=>?_,fun x h n=>?_⟩
 ·have:(x,st)=(b,[]):=by simpa using h
  cases this
  exact⟨[b],.nil,fun y hy=>by simpa[bX] using hy⟩
 ·simpa[bX] using h
 ·have:x=b:=by simpa[bX] using h
  exact absurd (by simp[this]) n
theorem yJ (w:WS)(x:Nat)(st:List Stp):bX (w++[(x,st)])=bX w++[x]:=by unfold bX;rw[map_append];rfl
structure WJ (es:List Br) (b p:Nat) (T:List (Stp × Nat)) (s:WS × List Nat):Prop where
 nd:(bX s.1).Nodup
 kb:b∈bX s.1
 kp:p∈bX s.1
 pt:∀x st,(x,st)∈s.1->∃pts,Pt es b st x pts/\∀y∈pts,y∈bX s.1
 q:∀x∈s.2,x∈bX s.1
 cl:∀x∈bX s.1,x∉s.2->x≠p->∀t y,mH es t x y->y∈bX s.1
 t:∀t∈T,t.2∈bX s.1
theorem Ft {es:List Br}{b p:Nat}{T:List (Stp × Nat)}{s:WS × List Nat}{t:Stp × Nat}(h:WJ es b p T s)(g:mH es t.1 p t.2):WJ es b p (T++[t]) (inF p s t):=by
 unfold inF
 by_cases c:t.2∈bX s.1
 ·rw[if_pos c];refine { h with t:=fun u hu=>?_ };rcases mem_append.mp hu with z | z
  ·exact h.t u z
  ·have:u=t:=by simpa using z
   rw[this];exact c
 ·rw[if_neg c];obtain⟨sp,ep⟩:=mO h.kp;rw[ep];have up:∀{x:Nat},x∈bX s.1->x∈bX (s.1++[(t.2,sp++[t.1])]):=fun hx=>by rw[yJ];exact mem_append_left _ hx
  have me:t.2∈bX (s.1++[(t.2,sp++[t.1])]):=by rw[yJ];simp
  refine⟨?_,up h.kb,up h.kp,fun x st hx=>?_,fun x hx=>?_,fun x hx nx np=>?_,fun u hu=>?_⟩
  ·show (bX (s.1++[(t.2,sp++[t.1])])).Nodup;rw[yJ,nodup_append];refine⟨h.nd,by simp,fun x hx y hy z=>?_⟩;have:y=t.2:=by simpa using hy
   exact c (by rw[<- this,<- z];exact hx)
  ·rcases mem_append.mp hx with z | z
   ·obtain⟨pts,h1,h2⟩:=h.pt x st z;exact⟨pts,h1,fun y hy=>up (h2 y hy)⟩
   ·have:(x,st)=(t.2,sp++[t.1]):=by simpa using z
    cases this
    obtain⟨pts,h1,h2⟩:=h.pt p sp (gA ep);refine⟨pts++[t.2],.snoc h1 g (fun z=>c (h2 _ z)),fun y hy=>?_⟩;rcases mem_append.mp hy with z | z
    ·exact up (h2 y z)
    ·have:y=t.2:=by simpa using z
     rw[this];exact me
  ·rcases mem_append.mp hx with z | z
   ·exact up (h.q x z)
   ·have:x=t.2:=by simpa using z
    rw[this];exact me
  ·have hx':x∈bX s.1:=by
    have hx2:x∈bX (s.1++[(t.2,sp++[t.1])]):=hx;rw[yJ] at hx2;rcases mem_append.mp hx2 with z | z
    ·exact z
    ·exact absurd (mem_append_right _ z) nx
   intro t' y hg;exact up (h.cl x hx' (fun z=>nx (mem_append_left _ z)) np t' y hg)
  ·rcases mem_append.mp hu with z | z
   ·exact up (h.t u z)
   ·have:u=t:=by simpa using z
    rw[this];exact me
theorem xW {es:List Br}{b p:Nat}:∀(U T:List (Stp × Nat)) {s:WS × List Nat},WJ es b p T s->(∀t∈U,mH es t.1 p t.2)->WJ es b p (T++U) (U.foldl (inF p) s)
 | [],T,s,h,_=>by rw[append_nil];exact h
 |u :: U,T,s,h,g=>by
  have:=xW U (T++[u]) (Ft h (g u (by simp))) fun t ht=>g t (mem_cons_of_mem _ ht);rw[List.append_assoc] at this;exact this
theorem Gk {q:List Nat}(h:q≠[]):q.getLastD 0∈q/\q=q.dropLast++[q.getLastD 0]:=by
 have e:q.getLastD 0=q.getLast h:=by rw[getLastD_eq_getLast?,getLast?_eq_some_getLast h];rfl
 rw[e];exact⟨getLast_mem h,(dropLast_concat_getLast h).symm⟩
theorem sS {es:List Br}{b:Nat}{s:WS × List Nat}(h:WI es b s)(hq:s.2≠[]):WJ es b (s.2.getLastD 0) [] (s.1,s.2.dropLast):=by
 obtain⟨m,e⟩:=Gk hq;refine⟨h.nd,h.kb,h.q _ m,h.pt,fun x hx=>h.q x (dropLast_subset _ hx),fun x hx nx np=>h.cl x hx fun z=>?_,fun t ht=>by cases ht⟩;rw[e] at z;rcases mem_append.mp z with z | z
 ·exact nx z
 ·exact np (by simpa using z)
theorem Vm {es:List Br}{b p:Nat}{s:WS × List Nat}(h:WJ es b p (stF es p) s):WI es b s:=by
 refine⟨h.nd,h.kb,h.pt,h.q,fun x hx nx t y hg=>?_⟩
 by_cases c:x=p
 ·subst c;rcases Qi hg with z | ⟨u,hu,e⟩
  ·rw[z];exact hx
  ·rw[<- e];exact h.t u hu
 ·exact h.cl x hx nx c t y hg
theorem Tn {es:List Br}{b:Nat}{s:WS × List Nat}(h:WI es b s):WI es b (jK es s):=by
 unfold jK
 by_cases c:s.2=[]
 ·rw[if_pos c];exact h
 ·rw[if_neg c];have:=xW (stF es (s.2.getLastD 0)) [] (sS h c) fun t ht=>jP ht;rw[nil_append] at this;exact Vm this
theorem jH (es:List Br)(b:Nat):∀n,WI es b (bY es b n)
 |0=>Ld es b
 |n+1=>Tn (jH es b n)
def muF (s:WS × List Nat):Nat:=2*(20 - s.1.length)+s.2.length
structure Ptm (m:Nat) (es:List Br):Prop where
 p:∀e∈es,e.2.1 < m/\e.2.2 < m
theorem qc4 {m:Nat}{es:List Br}{b:Nat}(h:Ptm m es)(hb:b < m){st:List Stp}{x:Nat}{pts:List Nat}(p:Pt es b st x pts):x < m:=by
 cases p with
 |nil=>exact hb
 |snoc _ g _=>
  obtain⟨u,v,he,g⟩:=g;have:=h.p _ he;rcases g with ⟨_,_,rfl⟩ | ⟨_,_,rfl⟩
  ·exact this.2
  ·exact this.1
theorem yF {m:Nat}{es:List Br}{b:Nat}(h:Ptm m es)(hb:b < m){w:WS}(pt:∀x st,(x,st)∈w->∃pts,Pt es b st x pts/\∀y∈pts,y∈bX w):∀x∈bX w,x < m:=fun x hx=>by
 obtain⟨st,e⟩:=mO hx;obtain⟨pts,p,_⟩:=pt x st (gA e);exact qc4 h hb p
theorem Pb {m:Nat}{es:List Br}{b:Nat}(h:Ptm m es)(hb:b < m){w:WS}(nd:(bX w).Nodup)(pt:∀x st,(x,st)∈w->∃pts,Pt es b st x pts/\∀y∈pts,y∈bX w):w.length<=m:=by
 have:=Ew nd (yF h hb pt);unfold bX at this
 rwa [length_map] at this
theorem Zp {es:List Br}{b p m:Nat}{T:List (Stp × Nat)}{s:WS × List Nat}{t:Stp × Nat}(hm:Ptm m es)(hb:b < m)(h20:m<=20)(h:WJ es b p T s)(g:mH es t.1 p t.2):muF (inF p s t)<=muF s:=by
 have h':=Ft h g;have le:=Pb hm hb h'.nd h'.pt;unfold inF at le ⊢
 by_cases c:t.2∈bX s.1
 ·rw[if_pos c];exact Nat.le_refl _
 ·rw[if_neg c] at le ⊢;unfold muF;simp only[List.length_append,length_cons,length_nil] at le ⊢;lia
theorem yZ {es:List Br}{b p m:Nat}(hm:Ptm m es)(hb:b < m)(h20:m<=20):∀(U T:List (Stp × Nat)) {s:WS × List Nat},WJ es b p T s->(∀t∈U,mH es t.1 p t.2)->muF (U.foldl (inF p) s)<=muF s
 | [],_,_,_,_=>Nat.le_refl _
 |u :: U,T,s,h,g=>Nat.le_trans (yZ hm hb h20 U (T++[u]) (Ft h (g u (by simp))) fun t ht=>g t (mem_cons_of_mem _ ht)) (Zp hm hb h20 h (g u (by simp)))
theorem Be {s:WS × List Nat}(h:s.2≠[]):muF (s.1,s.2.dropLast)+1=muF s:=by
 have:0 < s.2.length:=length_pos_iff.mpr h;show 2*(20 - s.1.length)+s.2.dropLast.length+1=2*(20 - s.1.length)+s.2.length;rw[length_dropLast];lia
theorem Fz {es:List Br}{b m:Nat}{s:WS × List Nat}(hm:Ptm m es)(hb:b < m)(h20:m<=20)(h:WI es b s)(hq:s.2≠[]):muF (jK es s)+1<=muF s:=by
 unfold jK;rw[if_neg hq];have:=yZ hm hb h20 (stF es (s.2.getLastD 0)) [] (sS h hq) fun t ht=>jP ht;have e:=Be hq;lia
theorem vF {es:List Br}{b:Nat}{i:Nat}(h:(bY es b i).2=[]):∀n,bY es b (i+n)=bY es b i
 |0=>rfl
 |n+1=>by
  show jK es (bY es b (i+n))=_;rw[vF h n];unfold jK;rw[if_pos h]
theorem Sq {es:List Br}{b i:Nat}(h:(bY es b i).2=[])(hi:i<=60):(bY es b 60).1=(bY es b i).1:=by
 have:=vF h (60 - i);rw[show i+(60 - i)=60 by lia] at this;rw[this]
theorem pC {es:List Br}{b m:Nat}(hm:Ptm m es)(hb:b < m)(h20:m<=20):∀n,(bY es b n).2=[]\/n+muF (bY es b n)<=39
 |0=>.inr (by show 0+(2*(20 - 1)+1)<=39;lia)
 |n+1=>by
  by_cases c:(bY es b n).2=[]
  ·refine .inl ?_;show (jK es (bY es b n)).2=[]
   unfold jK;rw[if_pos c];exact c
  ·rcases pC hm hb h20 n with z | z
   ·exact absurd z c
   ·have:=Fz hm hb h20 (jH es b n) c;refine .inr ?_;show n+1+muF (jK es (bY es b n))<=39;lia
theorem Lj {es:List Br}{b m:Nat}(hm:Ptm m es)(hb:b < m)(h20:m<=20):(bY es b 60).2=[]:=by
 rcases pC hm hb h20 60 with z | z
 ·exact z
 ·lia
def pV (es:List Br):List RD:=es.map fun e=>(.pc,(e.2.1:Int),(e.2.2:Int),(0,1))
theorem tD {m:Nat}{es:List Br}(h:Ptm m es):∀d∈pV es,cH (m:Int) d.2.1 d.2.2.1:=fun d hd=>by
 obtain⟨e,he,rfl⟩:=mem_map.mp hd;have:=h.p e he;exact⟨by show (0:Int)<=(e.2.1:Int);lia,by show ((e.2.1:Nat):Int) < m;lia,by show (0:Int)<=(e.2.2:Int);lia,by show ((e.2.2:Nat):Int) < m;lia⟩
theorem Sn {m:Nat}{es:List Br}(h:Ptm m es){s:Stp}{p q:Nat}(g:mH es s p q):mk m (pV es) q=mk m (pV es) p:=by
 obtain⟨u,v,he,g⟩:=g;have e:=nE _ (pV es) rfl (tD h) (.pc,(u:Int),(v:Int),(0,1)) (mem_map.mpr ⟨_,he,rfl⟩) (by intro z;cases z);rw[Int.toNat_natCast,Int.toNat_natCast] at e;rcases g with ⟨_,rfl,rfl⟩ | ⟨_,rfl,rfl⟩
 ·exact e.symm
 ·exact e
theorem qf6 {m:Nat}{es:List Br}{b:Nat}(h:Ptm m es){st:List Stp}{x:Nat}{pts:List Nat}(p:Pt es b st x pts):mk m (pV es) x=mk m (pV es) b:=by
 induction p with
 |nil=>rfl
 |snoc _ g _ ih=>rw[Sn h g,ih]
theorem Sa {m:Nat}{es:List Br}{b e:Nat}(h:Ptm m es)(h20:m<=20)(hb:b < m)(he:e < m):(sX es b e).isSome=true↔mk m (pV es) e=mk m (pV es) b:=by
 have wi:=jH es b 60;have q0:=Lj h hb h20;unfold sX;rw[Ks];refine Ja (tD h) hb wi.kb (fun p hp=>⟨yF h hb wi.pt p hp,?_⟩) (fun d hd _=>?_) he
 ·obtain⟨st,e'⟩:=mO hp;obtain⟨pts,pp,_⟩:=wi.pt p st (gA e');exact qf6 h pp
 ·obtain⟨a,ha,rfl⟩:=mem_map.mp hd;show ((a.2.1:Int).toNat∈_↔(a.2.2:Int).toNat∈_);rw[Int.toNat_natCast,Int.toNat_natCast];exact⟨fun z=>wi.cl _ z (by rw[q0];simp) (a.1,1) _ ⟨a.2.1,a.2.2,ha,.inl ⟨rfl,rfl,rfl⟩⟩,fun z=>wi.cl _ z (by rw[q0];simp) (a.1,-1) _ ⟨a.2.1,a.2.2,ha,.inr ⟨rfl,rfl,rfl⟩⟩⟩
structure uB (es:List Br) (b e:Nat) (st:List Stp) (pts:List Nat):Prop where
 l:pts.length=st.length+1
 hb:pts[0]?=some b
 he:pts[st.length]?=some e
 g:∀i s,st[i]?=some s->∃p q,pts[i]?=some p/\pts[i+1]?=some q/\mH es s p q
 n:(st.map (·.1)).Nodup
theorem Sg {es:List Br}{b x:Nat}{st:List Stp}{pts:List Nat}(p:Pt es b st x pts):∀s∈st,∃y z,y∈pts/\z∈pts/\mH es s y z:=by
 induction p with
 |nil=>intro s h;cases h
 | @snoc st p q pts s h g n ih=>
  intro t ht;rcases mem_append.mp ht with z | z
  ·obtain⟨y,z',h1,h2,h3⟩:=ih t z;exact⟨y,z',mem_append_left _ h1,mem_append_left _ h2,h3⟩
  ·have:t=s:=by simpa using z
   subst this;refine⟨p,q,mem_append_left _ ?_,by simp,g⟩
   cases h with
   |nil=>simp
   |snoc _ _ _=>simp
theorem Ib {es:List Br}{b x:Nat}{st:List Stp}{pts:List Nat}(ne:(es.map (·.1)).Nodup)(p:Pt es b st x pts):uB es b x st pts:=by
 induction p with
 |nil=>exact⟨rfl,rfl,rfl,fun i s h=>by simp at h,by simp⟩
 | @snoc st p q pts s h g n ih=>
  have l:=ih.l;refine⟨by rw[List.length_append,List.length_append,l];rfl,?_,?_,fun i t ht=>?_,?_⟩
  ·rw[getElem?_append_left (by lia)];exact ih.hb
  ·rw[List.length_append,getElem?_append_right (by simp;lia)];simp only[length_cons,length_nil];rw[show st.length+(0+1) - pts.length=0 by lia];rfl
  ·by_cases c:i < st.length
   ·rw[getElem?_append_left c] at ht;obtain⟨y,z,h1,h2,h3⟩:=ih.g i t ht;exact⟨y,z,by rw[getElem?_append_left (by lia)];exact h1,by rw[getElem?_append_left (by lia)];exact h2,h3⟩
   ·have hi:i=st.length:=by
     have:=(List.getElem?_eq_some_iff.mp ht).1;simp only[List.length_append,length_cons,length_nil] at this;lia
    subst hi;rw[getElem?_append_right (Nat.le_refl _),Nat.sub_self] at ht;have:s=t:=by simpa using ht
    subst this;refine⟨p,q,by rw[getElem?_append_left (by lia)];exact ih.he,?_,g⟩;rw[getElem?_append_right (by lia),show st.length+1 - pts.length=0 by lia];rfl
  ·rw[map_append,nodup_append];refine⟨ih.n,by simp,fun a ha c hc z=>?_⟩;have hc:c=s.1:=by simpa using hc
   obtain⟨t,ht,et⟩:=mem_map.mp ha;obtain⟨y,w,h1,h2,u',v',he',g'⟩:=Sg h t ht;obtain⟨u,v,he,g⟩:=g;have same:(t.1,u',v')=(s.1,u,v):=by
    have key:∀{l:List Br},(l.map (·.1)).Nodup->∀{a c:Br},a∈l->c∈l->a.1=c.1->a=c:=fun {l}=>by
     induction l with
     |nil=>intro _ a c h;cases h
     |cons x l ih=>
      intro nd a c ha hc e;rw[map_cons,nodup_cons] at nd;rcases mem_cons.mp ha with rfl | z1<;>rcases mem_cons.mp hc with rfl | z2
      ·rfl
      ·exact absurd (mem_map.mpr ⟨c,z2,e.symm⟩) nd.1
      ·exact absurd (mem_map.mpr ⟨a,z1,e⟩) nd.1
      ·exact ih nd.2 z1 z2 e
    exact key ne he' he (by show t.1=s.1;rw[et,z,hc])
   have e1:u'=u:=by injection same with _ e;injection e
   have e2:v'=v:=by injection same with _ e;injection e
   subst e1;subst e2;rcases g with ⟨_,rfl,rfl⟩ | ⟨_,rfl,rfl⟩<;>rcases g' with ⟨_,rfl,rfl⟩ | ⟨_,rfl,rfl⟩
   ·exact n h2
   ·exact n h1
   ·exact n h1
   ·exact n h2
theorem Ik {es:List Br}{b e:Nat}{st:List Stp}(ne:(es.map (·.1)).Nodup)(h:sX es b e=some st):∃pts,uB es b e st pts:=by
 obtain⟨pts,p,_⟩:=(jH es b 60).pt e st (gA h);exact⟨pts,Ib ne p⟩
theorem wF {m:Nat}{es:List Br}{b e:Nat}{st:List Stp}(hm:Ptm m es)(hb:b < m)(h:sX es b e=some st):st.length < m:=by
 obtain⟨pts,p,k⟩:=(jH es b 60).pt e st (gA h);have l:pts.length=st.length+1:=by
  clear h
  induction p with
  |nil=>rfl
  |snoc h g n ih=>rw[List.length_append,List.length_append,ih fun y hy=>k y (mem_append_left _ hy)];rfl
 have nd:pts.Nodup:=by
  clear h k l
  induction p with
  |nil=>simp
  |snoc h g n ih=>
   rw[nodup_append];refine⟨ih,by simp,fun x hx y hy z=>n ?_⟩;rw[mem_singleton] at hy;rw[<- hy,<- z];exact hx
 have:=Ew nd fun y hy=>yF hm hb (jH es b 60).pt y (k y hy);lia
abbrev Sk:=Kd × Nat × Nat
def skl (ds:List RD):List Sk:=ds.map fun d=>(d.1,d.2.1.toNat,d.2.2.1.toNat)
abbrev RS:=List Br × List (Nat × List Stp)
def iD (W:Kd->Bool)(s:RS)(k:Nat)(d:Sk):RS:=if W d.1 then (match sX s.1 d.2.2 d.2.1 with
 |none=>(s.1++[(k,d.2.1,d.2.2)],s.2)
 |some st=>(s.1,s.2++[(k,(k,1) :: st)])) else s
def eQ (W:Kd->Bool)(sk:List Sk):Nat->RS
 |0=>([],[])
 |n+1=>match sk[n]? with
  |none=>eQ W sk n
  |some d=>iD W (eQ W sk n) n d
theorem iC {W:Kd->Bool}{sk:List Sk}{n:Nat}{d:Sk}(h:sk[n]?=some d):eQ W sk (n+1)=iD W (eQ W sk n) n d:=by
 show (match sk[n]? with | none=>eQ W sk n | some d=>iD W (eQ W sk n) n d)=_;rw[h]
structure RI (W:Kd->Bool) (sk:List Sk) (m n:Nat) (s:RS):Prop where
 pt:Ptm m s.1
 nd:(s.1.map (·.1)).Nodup
 lt:∀e∈s.1,e.1 < n
 at_:∀e∈s.1,∃k,sk[e.1]?=some (k,e.2.1,e.2.2)
 rl:s.2.length<=n
 r:∀c∈s.2,c.1 < n/\∃k u v st pts,sk[c.1]?=some (k,u,v)/\c.2=(c.1,1) :: st/\(∀t∈st,t.1 < c.1/\t.1∈s.1.map (·.1))/\uB s.1 v u st pts/\st.length < m
theorem uB.mono {es es':List Br}{b e:Nat}{st:List Stp}{pts:List Nat}(h:uB es b e st pts)(hs:∀x∈es,x∈es'):uB es' b e st pts:=
 { h with g:=fun i s hi=>let ⟨p,q,h1,h2,u,v,h3,h4⟩:=h.g i s hi;⟨p,q,h1,h2,u,v,hs _ h3,h4⟩ }
theorem Ly {es:List Br}{b e:Nat}{st:List Stp}{pts:List Nat}(h:uB es b e st pts):∀t∈st,t.1∈es.map (·.1):=fun t ht=>by
 obtain⟨i,hi⟩:=getElem?_of_mem ht;obtain⟨p,q,_,_,u,v,h3,_⟩:=h.g i t hi;exact mem_map.mpr ⟨_,h3,rfl⟩
theorem rK {W:Kd->Bool}{sk:List Sk}{m:Nat}(hm:∀d∈sk,d.2.1 < m/\d.2.2 < m):∀n,n<=sk.length->RI W sk m n (eQ W sk n)
 |0,_=>⟨⟨fun e h=>(by cases h)⟩,(by show ([]:List Nat).Nodup;simp),fun e h=>(by cases h),fun e h=>(by cases h),Nat.le_refl _,fun c h=>(by cases h)⟩
 |n+1,hn=>by
  have ih:=rK (W:=W) hm n (by lia);have hd:sk[n]?=some sk[n]:=getElem?_eq_getElem (by lia);rw[iC hd];have pm:=hm _ (mem_of_getElem? hd);generalize sk[n]=d at hd pm;generalize eQ W sk n=s at ih;unfold iD
  by_cases hw:W d.1=true
  ·rw[if_pos hw]
   cases hy:sX s.1 d.2.2 d.2.1 with
   |none=>
    show RI W sk m (n+1) (s.1++[(n,d.2.1,d.2.2)],s.2);refine⟨⟨fun e he=>?_⟩,?_,fun e he=>?_,fun e he=>?_,by have:=ih.rl;show s.2.length<=n+1;lia,fun c hc=>?_⟩
    ·rcases mem_append.mp he with z | z
     ·exact ih.pt.p e z
     ·have:e=(n,d.2.1,d.2.2):=by simpa using z
      rw[this];exact pm
    ·show ((s.1++[(n,d.2.1,d.2.2)]).map (·.1)).Nodup;rw[map_append,nodup_append];refine⟨ih.nd,by simp,fun x hx y hy z=>?_⟩;have:y=n:=by simpa using hy
     obtain⟨e,he,ee⟩:=mem_map.mp hx;have:=ih.lt e he;lia
    ·rcases mem_append.mp he with z | z
     ·have:=ih.lt e z;lia
     ·have:e=(n,d.2.1,d.2.2):=by simpa using z
      rw[this];exact Nat.lt_succ_self n
    ·rcases mem_append.mp he with z | z
     ·exact ih.at_ e z
     ·have:e=(n,d.2.1,d.2.2):=by simpa using z
      rw[this];exact⟨d.1,hd⟩
    ·obtain⟨h1,k,u,v,st,pts,h2,h3,h4,h5,h6⟩:=ih.r c hc;refine⟨by lia,k,u,v,st,pts,h2,h3,fun t ht=>⟨(h4 t ht).1,?_⟩,h5.mono fun x hx=>mem_append_left _ hx,h6⟩;show t.1∈(s.1++[(n,d.2.1,d.2.2)]).map (·.1);rw[map_append];exact mem_append_left _ (h4 t ht).2
   |some st=>
    show RI W sk m (n+1) (s.1,s.2++[(n,(n,1) :: st)]);refine⟨ih.pt,ih.nd,fun e he=>Nat.lt_succ_of_lt (ih.lt e he),ih.at_,by have:=ih.rl;show (s.2++[(n,(n,1) :: st)]).length<=n+1;rw[List.length_append];simp only[length_cons,length_nil];lia,fun c hc=>?_⟩;rcases mem_append.mp hc with z | z
    ·obtain⟨h1,r⟩:=ih.r c z;exact⟨by lia,r⟩
    ·have:c=(n,(n,1) :: st):=by simpa using z
     subst this;obtain⟨pts,ch⟩:=Ik ih.nd hy;refine⟨Nat.lt_succ_self n,d.1,d.2.1,d.2.2,st,pts,hd,rfl,fun t ht=>?_,ch,wF ih.pt pm.2 hy⟩;have ti:=Ly ch t ht;obtain⟨e,he,ee⟩:=mem_map.mp ti;have:=ih.lt e he;exact⟨by show t.1 < n;lia,ti⟩
  ·rw[if_neg hw];exact⟨ih.pt,ih.nd,fun e he=>Nat.lt_succ_of_lt (ih.lt e he),ih.at_,by have:=ih.rl;lia,fun c hc=>let ⟨h1,r⟩:=ih.r c hc;⟨by lia,r⟩⟩
theorem SqT.updD {K:Frag}{H:Hp}{a l:Addr}{xs:List V}{kvs:List (Key × V)}{o:HO}(h:SqT K H a xs)(hl:H l=some (.dK kvs)):SqT K (L2.upd H l o) a xs:=by
 rcases h with (h | ⟨u,h⟩) | h
 ·exact .inl (.inl (by rw[aW (kI h hl (fun z=>by cases z))];exact h))
 ·exact .inl (.inr ⟨u,by rw[aW (kI h hl (fun z=>by cases z))];exact h⟩)
 ·exact .inr h
inductive Sts (K:Frag) (H:Hp):List V->List Stp->Prop where
 |nil:Sts K H [] []
 |cons {t:Addr} {n:Nat} {w:Int} {xs:List V} {st:List Stp} (h:SqT K H t [.int (n:Int),.int w]) (q:Sts K H xs st):Sts K H (.ref t :: xs) ((n,w) :: st)
section
variable {K:Frag} {H H':Hp}
theorem Sts.same (e:aT H H'):∀{xs:List V} {st:List Stp},Sts K H xs st->Sts K H' xs st
 |_,_,.nil=>.nil
 |_,_,.cons h q=>.cons (e.seqT h) (Sts.same e q)
theorem Sts.length:∀{xs:List V} {st:List Stp},Sts K H xs st->xs.length=st.length
 |_,_,.nil=>rfl
 |_,_,.cons _ q=>by simp[Sts.length q]
theorem Sts.app:∀{xs ys:List V} {st su:List Stp},Sts K H xs st->Sts K H ys su->Sts K H (xs++ys) (st++su)
 |_,_,_,_,.nil,r=>r
 |_,_,_,_,.cons h q,r=>.cons h (Sts.app q r)
theorem Sts.upd {l:Addr}{ys:List V}{o:HO}(hl:H l=some (.lst ys)):∀{xs:List V} {st:List Stp},Sts K H xs st->Sts K (L2.upd H l o) xs st
 |_,_,.nil=>.nil
 |_,_,.cons h q=>.cons (SqT.upd h hl) (Sts.upd hl q)
theorem Sts.updD {l:Addr}{kvs:List (Key × V)}{o:HO}(hl:H l=some (.dK kvs)):∀{xs:List V} {st:List Stp},Sts K H xs st->Sts K (L2.upd H l o) xs st
 |_,_,.nil=>.nil
 |_,_,.cons h q=>.cons (SqT.updD h hl) (Sts.updD hl q)
end
inductive Sds (K:Frag) (H:Hp):List V->List (Stp × Nat)->Prop where
 |nil:Sds K H [] []
 |cons {t s:Addr} {n x:Nat} {w:Int} {xs:List V} {st:List (Stp × Nat)} (h:SqT K H t [.ref s,.int (x:Int)]) (g:SqT K H s [.int (n:Int),.int w]) (q:Sds K H xs st):Sds K H (.ref t :: xs) (((n,w),x) :: st)
section
variable {K:Frag} {H H':Hp}
theorem Sds.same (e:aT H H'):∀{xs:List V} {st:List (Stp × Nat)},Sds K H xs st->Sds K H' xs st
 |_,_,.nil=>.nil
 |_,_,.cons h g q=>.cons (e.seqT h) (e.seqT g) (Sds.same e q)
theorem Sds.length:∀{xs:List V} {st:List (Stp × Nat)},Sds K H xs st->xs.length=st.length
 |_,_,.nil=>rfl
 |_,_,.cons _ _ q=>by simp[Sds.length q]
theorem Sds.app:∀{xs ys:List V} {st su:List (Stp × Nat)},Sds K H xs st->Sds K H ys su->Sds K H (xs++ys) (st++su)
 |_,_,_,_,.nil,r=>r
 |_,_,_,_,.cons h g q,r=>.cons h g (Sds.app q r)
theorem Sds.get:∀{xs:List V} {st:List (Stp × Nat)} {i:Nat} {x:V},Sds K H xs st->xs[i]?=some x->∃t u s,x=.ref t/\st[i]?=some s/\SqT K H t [.ref u,.int (s.2:Int)]/\SqT K H u [.int (s.1.1:Int),.int s.1.2]
 |_,_,_,_,.nil,h=>by simp at h
 |_,_,0,_,.cons h g _,e=>by simp at e;subst e;exact⟨_,_,_,rfl,rfl,h,g⟩
 |_,_,i+1,_,.cons _ _ q,e=>by simpa using Sds.get q (by simpa using e)
theorem Sds.upd {l:Addr}{ys:List V}{o:HO}(hl:H l=some (.lst ys)):∀{xs:List V} {st:List (Stp × Nat)},Sds K H xs st->Sds K (L2.upd H l o) xs st
 |_,_,.nil=>.nil
 |_,_,.cons h g q=>.cons (SqT.upd h hl) (SqT.upd g hl) (Sds.upd hl q)
theorem Sds.updD {l:Addr}{kvs:List (Key × V)}{o:HO}(hl:H l=some (.dK kvs)):∀{xs:List V} {st:List (Stp × Nat)},Sds K H xs st->Sds K (L2.upd H l o) xs st
 |_,_,.nil=>.nil
 |_,_,.cons h g q=>.cons (SqT.updD h hl) (SqT.updD g hl) (Sds.updD hl q)
end
inductive Wys (K:Frag) (H0:Hp) (W:Addr) (H:Hp):List (Key × V)->WS->Prop where
 |nil:Wys K H0 W H [] []
 |cons {a:Addr} {x:Nat} {xs:List V} {st:List Stp} {kvs:List (Key × V)} {w:WS} (n:H0 a=none) (nw:a≠W) (h:H a=some (.lst xs)) (f:Sts K H xs st) (q:Wys K H0 W H kvs w):Wys K H0 W H ((Sum.inl (x:Int),.ref a) :: kvs) ((x,st) :: w)
section
variable {K:Frag} {H0 H H':Hp} {W:Addr}
theorem Wys.same (e:aT H H'):∀{kvs:List (Key × V)} {w:WS},Wys K H0 W H kvs w->Wys K H0 W H' kvs w
 |_,_,.nil=>.nil
 |_,_,.cons n nw h f q=>.cons n nw (e _ _ h) (f.same e) (Wys.same e q)
theorem Wys.updW {ys:List V}{o:HO}(hl:H W=some (.lst ys)):∀{kvs:List (Key × V)} {w:WS},Wys K H0 W H kvs w->Wys K H0 W (L2.upd H W o) kvs w
 |_,_,.nil=>.nil
 |_,_,.cons n nw h f q=>.cons n nw (by rw[aW nw];exact h) (f.upd hl) (Wys.updW hl q)
theorem Wys.updD {D:Addr}{kv:List (Key × V)}{o:HO}(hl:H D=some (.dK kv)):∀{kvs:List (Key × V)} {w:WS},Wys K H0 W H kvs w->Wys K H0 W (L2.upd H D o) kvs w
 |_,_,.nil=>.nil
 |_,_,.cons n nw h f q=>.cons n nw (by rw[aW (kI h hl (fun z=>by cases z))];exact h) (f.updD hl) (Wys.updD hl q)
theorem Wys.length:∀{kvs:List (Key × V)} {w:WS},Wys K H0 W H kvs w->kvs.length=w.length
 |_,_,.nil=>rfl
 |_,_,.cons _ _ _ _ q=>by simp[Wys.length q]
theorem Wys.snoc {a:Addr}{x:Nat}{xs:List V}{st:List Stp}(n:H0 a=none)(nw:a≠W)(h:H a=some (.lst xs))(f:Sts K H xs st):∀{kvs:List (Key × V)} {w:WS},Wys K H0 W H kvs w->Wys K H0 W H (kvs++[(Sum.inl (x:Int),.ref a)]) (w++[(x,st)])
 |_,_,.nil=>.cons n nw h f .nil
 |_,_,.cons n' nw' h' f' q=>.cons n' nw' h' f' (Wys.snoc n nw h f q)
theorem Wys.none_ {p:Nat}:∀{kvs:List (Key × V)} {w:WS},Wys K H0 W H kvs w->p∉bX w->nV kvs (Sum.inl (p:Int))=none/\(kvs.any fun kv=>decide (kv.1=Sum.inl (p:Int)))=false
 |_,_,.nil,_=>⟨rfl,rfl⟩
 |_,_,.cons (x:=x) (kvs:=kvs) (w:=w) n nw h f q,hp=>by
  have hx:x≠p:=fun z=>hp (by rw[<- z];exact mem_cons_self ..);obtain⟨h1,h2⟩:=Wys.none_ q fun z=>hp (mem_cons_of_mem _ z);refine⟨by rw[kK (fun z=>hx (Int.ofNat.inj (Sum.inl.inj z)))];exact h1,?_⟩;rw[any_cons,h2];have e:decide ((Sum.inl (x:Int):Key)=Sum.inl (p:Int))=false:=decide_eq_false fun z=>hx (Int.ofNat.inj (Sum.inl.inj z));show (decide ((Sum.inl (x:Int):Key)=Sum.inl (p:Int)) || false)=false;rw[e];rfl
theorem Wys.some_ {p:Nat}:∀{kvs:List (Key × V)} {w:WS},Wys K H0 W H kvs w->p∈bX w->∃a xs st,nV kvs (Sum.inl (p:Int))=some (.ref a)/\pL w p=some st/\H0 a=none/\a≠W/\H a=some (.lst xs)/\Sts K H xs st
 |_,_,.nil,h=>by cases h
 |_,_,.cons (a:=a) (x:=x) (xs:=xs) (st:=st) (kvs:=kvs) (w:=w) n nw h f q,hp=>by
  by_cases c:x=p
  ·subst c;exact⟨a,xs,st,by rw[mF rfl],by unfold pL;rw[if_pos rfl],n,nw,h,f⟩
  ·have hp':p∈bX w:=by
    rcases mem_cons.mp hp with z | z
    ·exact absurd z.symm c
    ·exact z
   obtain⟨a',xs',st',h1,h2,r⟩:=Wys.some_ q hp';exact⟨a',xs',st',by rw[kK (fun z=>c (Int.ofNat.inj (Sum.inl.inj z)))];exact h1,by unfold pL;rw[if_neg c];exact h2,r⟩
theorem Wys.isSome {p:Nat}{kvs:List (Key × V)}{w:WS}(h:Wys K H0 W H kvs w):(nV kvs (Sum.inl (p:Int))).isSome=decide (p∈bX w):=by
 by_cases c:p∈bX w
 ·obtain⟨a,xs,st,e,_⟩:=h.some_ c;rw[e,decide_eq_true c];rfl
 ·rw[(h.none_ c).1,decide_eq_false c];rfl
end
structure Rgs (K:Frag) (H0 H:Hp) (us:List V) (X:List (List Stp)):Prop where
 l:us.length=X.length
 r:∀(i:Nat) (x:V) (st:List Stp),us[i]?=some x->X[i]?=some st->∃(a:Addr) (xs:List V),x=.ref a/\H0 a=none/\H a=some (.lst xs)/\Sts K H xs st
theorem Rgs.nil {K:Frag}{H0 H:Hp}:Rgs K H0 H [] []:=⟨rfl,fun i x st h=>by simp at h⟩
theorem Rgs.same {K:Frag}{H0 H H':Hp}{us:List V}{X:List (List Stp)}(e:aT H H')(f:Rgs K H0 H us X):Rgs K H0 H' us X:=⟨f.l,fun i x st h1 h2=>let ⟨a,xs,e1,n,h,s⟩:=f.r i x st h1 h2;⟨a,xs,e1,n,e _ _ h,s.same e⟩⟩
theorem Rgs.snoc {K:Frag}{H0 H:Hp}{us:List V}{X:List (List Stp)}{a:Addr}{xs:List V}{st:List Stp}(f:Rgs K H0 H us X)(n:H0 a=none)(h:H a=some (.lst xs))(s:Sts K H xs st):Rgs K H0 H (us++[.ref a]) (X++[st]):=by
 refine⟨by rw[List.length_append,List.length_append,f.l];rfl,fun i x qs h1 h2=>?_⟩;have l:=f.l
 by_cases c:i < us.length
 ·rw[getElem?_append_left c] at h1;rw[getElem?_append_left (by lia)] at h2;exact f.r i x qs h1 h2
 ·have hi:i=us.length:=by
   have:=(List.getElem?_eq_some_iff.mp h1).1;rw[List.length_append] at this;simp only[length_cons,length_nil] at this;lia
  subst hi;rw[getElem?_append_right (Nat.le_refl _),Nat.sub_self] at h1;rw[getElem?_append_right (by lia),show us.length - X.length=0 by lia] at h2
  cases h1
  cases h2
  exact⟨a,xs,rfl,n,h,s⟩
theorem Rgs.updO {K:Frag}{H0 H:Hp}{us:List V}{X:List (List Stp)}{l:Addr}{ys:List V}{o:HO}(f:Rgs K H0 H us X)(hl:H l=some (.lst ys))(n:∀x∈us,x≠.ref l):Rgs K H0 (upd H l o) us X:=⟨f.l,fun i x st h1 h2=>let ⟨a,xs,e1,n1,h,s⟩:=f.r i x st h1 h2;⟨a,xs,e1,n1,by rw[aW (fun z=>n x (mem_of_getElem? h1) (by rw[e1,z]))];exact h,s.upd hl⟩⟩
def Yg (ds:List RD)(es:List Br):Prop:=∀e∈es,∃d,ds[e.1]?=some d/\d.2.1=(e.2.1:Int)/\d.2.2.1=(e.2.2:Int)
def Gw (K:Frag)(CK:Kd->Addr):Sp:=fun vs H Q _=>∃(a b:Addr) (xs:List V) (ds:List RD) (es:List Br) (p:Nat),vs=[.ref a,.ref b,.int (p:Int)]/\SqL K H a xs/\fX CK K H xs ds/\SqL K H b (es.map fun e=>V.int (e.1:Int))/\Yg ds es/\es.length<=100/\∀l ys H',aT H H'->H l=none->H' l=some (.lst ys)->Sds K H' ys (stF es p)->Q (.ref l) H'
def Vg (K:Frag)(CK:Kd->Addr):Sp:=fun vs H Q _=>∃(a b:Addr) (xs:List V) (ds:List RD) (es:List Br) (m f t:Nat),vs=[.ref a,.ref b,.int (f:Int),.int (t:Int)]/\SqL K H a xs/\fX CK K H xs ds/\SqL K H b (es.map fun e=>V.int (e.1:Int))/\Yg ds es/\es.length<=100/\Ptm m es/\m<=20/\f < m/\
 (sX es f t=none->∀H',aT H H'->Q .non H')/\∀st,sX es f t=some st->∀l ys H',aT H H'->H l=none->H' l=some (.lst ys)->Sts K H' ys st->Q (.ref l) H'
inductive Wds (K:Frag) (H:Hp):V->(Kd->Bool)->Prop where
 |non:Wds K H .non (fun k=>decide (k≠.pu))
 |seq {a:Addr} {ws:List V} (h:SqL K H a ws) (f:ws.all lH=true):Wds K H (.ref a) (fun k=>inV (.str k.wd) ws)
def Fj (CN:Addr)(K:Frag):Sp:=fun vs H Q _=>∃(n l:Addr) (v:V) (m:Nat) (ds:List RD) (W:Kd->Bool),vs=[.ref n,v]/\eO CN K H n l (m:Int) ds/\(∀d∈ds,cH (m:Int) d.2.1 d.2.2.1)/\m<=20/\ds.length<=40/\Wds K H v W/\∀r us H',aT H H'->H r=none->H' r=some (.lst us)->Rgs K H H' us ((eQ W (skl ds) ds.length).2.map (·.2))->(∀x∈us,x≠.ref r)->Q (.ref r) H'
end L2
namespace Mq
def KJ (m:Nat)(A1:Mat)(R:List (List Int)):Prop:=∀Φ,Lin Φ->(∀i,i < m->Φ (A1 i)=0)->∀k,k < m->Φ (at2 R k)=0
theorem KJ.swap {m:Nat}{A1:Mat}{R:List (List Int)}(h:KJ m A1 R)(hl:R.length=m){p r:Nat}(hp:p < m)(hr:r < m):KJ m A1 (eX R p r):=fun Φ lin hz k hk=>by
 have e:at2 (eX R p r) k=at2 R (sw p r k):=by
  funext x
  rw[pD (by lia) (by lia)]
 rw[e];exact h Φ lin hz _ (yS hp hr hk)
theorem KJ.clear {m w:Nat}{A0 A1:Mat}{R:List (List Int)}{r col:Nat}{d sg:Int}(h:KJ m A1 R)(s:SI m w A0 R r col d sg)(hr:r < m)(hc:col < w)(he:ent R r col≠0):KJ m A1 (cB R r col d):=fun Φ lin hz k hk=>by
 have cl:=fun (x:Nat)=>qJ s hr hc he hk x;have z:=h Φ lin hz
 by_cases e:k=r
 ·have e2:at2 (cB R r col d) k=at2 R k:=by funext x;rw[cl x,if_pos e]
  rw[e2];exact z k hk
 ·have e2:at2 (cB R r col d) k=fun x=>(fun x=>(at2 R r col / (d:Rat))*at2 R k x) x+(-(at2 R k col / (d:Rat)))*at2 R r x:=by
   funext x
   show _=(at2 R r col / (d:Rat))*at2 R k x+_;rw[cl x,if_neg e];grind
  rw[e2,lin,lin.mul,z k hk,z r hr];grind
theorem KJ.whole {m w:Nat}{A0 A1:Mat}{R:List (List Int)}{d sg:Int}(h:KJ m A1 R)(s:SI m w A0 R m m d sg){v:Nat->Rat}(hv:∀i,i < m->(rs m fun k=>A1 i k*v k)=A1 i m){k:Nat}(hk:k < m):at2 R k m / (d:Rat)=v k:=by
 obtain⟨A,c,B,e⟩:=s.bar;have dn:=B.dne;have:=h (fun f=>(rs m fun k=>f k*v k) - f m) (fun x y l=>by
  have:(rs m fun k=>(x k+l*y k)*v k)=(rs m fun k=>x k*v k+l*(y k*v k)):=aP fun k _=>by grind
  show (rs m fun k=>(x k+l*y k)*v k) - (x m+l*y m)=((rs m fun k=>x k*v k) - x m)+l*((rs m fun k=>y k*v k) - y m)
  rw[this,dX,eV];grind) (fun i hi=>by
  show (rs m fun k=>A1 i k*v k) - A1 i m=0;rw[hv i hi];grind) k hk
 have e1:(rs m fun j=>at2 R k j*v j)=rs m fun j=>if j=k then (d:Rat)*v k else 0:=aP fun j hj=>by
  have i2:=B.i2 k j hk hj;rw[B.full rfl j hj] at i2;rw[i2]
  by_cases z:j=k
  ·rw[if_pos z,if_pos z,z]
  ·rw[if_neg z,if_neg z];grind
 have e2:(rs m fun j=>at2 R k j*v j) - at2 R k m=0:=this;rw[e1,jR m k _ hk] at e2;grind
end Mq
namespace Shp
open PySem L2
theorem Ls {m w:Nat}{A0 A1:Mat}:Stp m w A0 (fun R=>Mq.KI m A1 R/\Mq.KJ m A1 R):=
 ⟨fun R r col d sg p s h1 h2 h=>⟨h.1.swap s.len h2 (by lia),h.2.swap s.len h2 (by lia)⟩,fun R r col d sg s h1 h2 h3 h=>⟨h.1.clear s h1 h2 h3,h.2.clear s h1 h2 h3⟩⟩
theorem Zc {X:List (List Q2)}{qs:List Q2}(hX:dD X)(hq:Mq.Pos qs)(hl:qs.length=X.length)(hw:∀row∈X,row.length=X.length){R:List (List Int)}{w:Nat}{d sg:Int}(h:Mq.KJ X.length (Mq.at2 (gL X qs)) R)(s:SI X.length w (Mq.at2 (gL X qs)) R X.length X.length d sg){v:Nat->Rat}(hv:∀i,i < X.length->(Mq.rs X.length fun j=>pF X i j*v j)=Mq.val (qs.getD i Mq.z0)){k:Nat}(hk:k < X.length):Mq.at2 R k X.length / (d:Rat)=v k:=by
 refine h.whole s (fun i hi=>?_) hk;rw[sZ hX hq hl hw hi (by lia),if_neg (by lia),<- hv i hi,<- eV];refine aP fun k hk=>?_;rw[sZ hX hq hl hw hi (by lia),if_pos hk];grind
structure Vz (X:List (List Q2)) (qs ps:List Q2):Prop extends Slv X qs ps where
 uni:∀v:Nat->Rat,(∀i,i < X.length->(Mq.rs X.length fun j=>pF X i j*v j)=Mq.val (qs.getD i Mq.z0))->∀j,j < X.length->Mq.val (ps.getD j Mq.z0)=v j
end Shp
namespace Mq
theorem Wb.rs5 {n K:Nat}{f:Nat->Rat}(hK:K<=32)(h:∀k,k < K->Wb n (f k)):Wb (n+5) (Mq.rs K f):=by
 obtain⟨z,e,b⟩:=Uu K h;refine⟨z,e,?_⟩;have p:2 ^ (n+5)=32*2 ^ n:=by rw[Nat.pow_add];lia
 have q:K*2 ^ n<=32*2 ^ n:=Nat.mul_le_mul_right _ hK;have r:0 < 2 ^ n:=Nat.two_pow_pos n;show z.natAbs < 2 ^ (n+5)
 by_cases k0:K=0
 ·subst k0;lia
 ·lia
theorem yB {n:Nat}:∀(r:Nat) (M:Mat),r<=32->(∀i j,i < r->Wb n (M i j))->Wb ((n+5)*r+1) (det r M)
 |0,_,_,_=>Wb.one
 |r+1,M,hr,h=>by
  rw[dG];have:=Wb.rs5 (n:=n+((n+5)*r+1)) (K:=r+1) (f:=fun j=>sgn (r+j)*M r j*det r fun i k=>M i (skip j k)) hr fun j _=>((h r j (by lia)).sgn _).mul (yB r _ (by lia) fun i k hi=>h i _ (by lia));exact this.mono (by rw[Nat.mul_succ];lia)
section
variable {m:Nat} {A E:Mat} {r col:Nat} {d:Rat} {c:Nat->Nat} {n:Nat}
theorem Bar.wd5 (h:Bar m A E r col d c)(hA:∀i x,i < m->Wb n (A i x))(hm:m<=31):Wb ((n+5)*r+1) d:=by
 have rm:=h.rm;rw[<- h.i5];exact yB r _ (by lia) fun i j hi=>hA i _ (by lia)
theorem Bar.wtop5 (h:Bar m A E r col d c)(hA:∀i x,i < m->Wb n (A i x))(hm:m<=31){k:Nat}(hk:k < r)(x:Nat):Wb ((n+5)*r+7) (E k x):=by
 have rm:=h.rm;have hd:=h.dne
 by_cases hx:∃j,j < r/\x=c j
 ·obtain⟨j,hj,rfl⟩:=hx;rw[h.i2 k j hk hj];split
  ·exact(h.wd5 hA hm).mono (by lia)
  ·exact Wb.zero _
 ·let c2:Nat->Nat:=fun j=>if j=r then x else c j
  let u:Nat->Rat:=fun j=>if j=c k then 1 else 0
  have hΦ:=Gx r A c2;have z:=h.i6 _ hΦ (fun s hs=>Fx r A c2 hs) k hk;have eu:u=fun y=>(fun y=>u y+(-(1 / d))*E k y) y+(1 / d)*E k y:=by
   funext y
   show u y=u y+(-(1 / d))*E k y+(1 / d)*E k y;grind
  have fb:=yD r A c2 (fun y=>u y+(-(1 / d))*E k y) fun j hj=>by
   have ec:c2 j=c j:=by show (if j=r then x else c j)=_;rw[if_neg (by lia)]
   rw[ec];show u (c j)+(-(1 / d))*E k (c j)=0;rw[h.i2 k j hk hj];show (if c j=c k then (1:Rat) else 0)+_=0
   by_cases e:j=k
   ·rw[if_pos e,if_pos (by rw[e])];grind
   ·rw[if_neg e,if_neg (fun q=>e (h.cinj j k hj hk q))];grind
  have dd:(det r fun i j=>A i (c2 j))=d:=by
   rw[<- h.i5];exact bZ fun i j _ hj=>by show A i (if j=r then x else c j)=_;rw[if_neg (by lia)]
  have ux:u x=0:=by show (if x=c k then (1:Rat) else 0)=0;rw[if_neg (fun q=>hx ⟨k,hk,q⟩)]
  have cx:c2 r=x:=by show (if r=r then x else _)=x;rw[if_pos rfl]
  rw[dd,cx] at fb;have val:F r A c2 u=- E k x:=by
   rw[eu,hΦ,z,fb];show (u x+(-(1 / d))*E k x)*d+_=_;rw[ux];grind
  have wh:Wb ((n+5)*r+7) (F r A c2 u):=by
   rw[Jz];have:=Wb.rs5 (n:=1+((n+5)*r+1)) (K:=r+1) (f:=fun j=>Mq.sgn (r+j)*u (c2 j)*det r fun i k=>A i (c2 (Mq.skip j k))) (by lia) fun j _=>by
    refine Wb.mul (Wb.sgn ?_ _) (yB r _ (by lia) fun i k hi=>hA i _ (by lia));show Wb 1 (if c2 j=c k then (1:Rat) else 0);split
    ·exact Wb.one
    ·exact Wb.zero _
   exact this.mono (by lia)
  rw[val] at wh;have:=wh.neg
  rwa [show - - E k x=E k x by grind] at this
theorem Bar.wall5 (h:Bar m A E r col d c)(hA:∀i x,i < m->Wb n (A i x))(hm:m<=31){i:Nat}(hi:i < m)(x:Nat):Wb ((n+5)*(m+1)+8) (E i x):=by
 have rm:=h.rm;have mono:=Nat.mul_le_mul_left (n+5) rm;have e1:(n+5)*(m+1)=(n+5)*m+(n+5):=Nat.mul_succ ..
 by_cases h1:i < r
 ·exact(h.wtop5 hA hm h1 x).mono (by lia)
 ·have q:=h.i4 i x hi;rw[if_neg h1] at q;have e:E i x=d*A i x - rs r fun k=>A i (c k)*E k x:=by grind
  rw[e];have b1:Wb (n+((n+5)*r+7)+5) (d*A i x):=((h.wd5 hA hm).mul (hA i x hi)).mono (by lia);have b2:Wb (n+((n+5)*r+7)+5) (rs r fun k=>A i (c k)*E k x):=Wb.rs5 (by lia) fun k hk=>(hA i _ hi).mul (h.wtop5 hA hm hk x);exact(b1.sub b2).mono (by lia)
end
theorem SB.bd5 {n m w:Nat}{A0:Mat}{R:List (List Int)}{r col:Nat}{d sg:Int}(h:SB n m R r col d)(s:SI m w A0 R r col d sg)(hm:m<=31):BdR ((n+5)*(m+1)+8) R/\B ((n+5)*(m+1)+8) d:=by
 obtain⟨A,c,B,q⟩:=h;refine⟨fun i x=>?_,?_⟩
 ·by_cases hi:i < m
  ·obtain⟨z,e,b⟩:=B.wall5 q hm hi x;have:ent R i x=z:=Rat.intCast_inj.mp e;rw[this];exact b
  ·unfold ent;rw[getD_eq_getElem?_getD (l:=R),getElem?_eq_none (by rw[s.len];lia)];exact Nat.two_pow_pos _
 ·obtain⟨z,e,b⟩:=B.wd5 q hm;have:d=z:=Rat.intCast_inj.mp e;have mono:=Nat.mul_le_mul_left (n+5) B.rm;rw[this];exact b.mono (by rw[Nat.mul_succ];lia)
theorem Av {a b L:Int}(ha:1<=a)(hb:1<=b)(h1:a ∣ L)(h2:b ∣ L):kZ a b ∣ L:=by
 have g1:gc a b ∣ a:=Int.gcd_dvd_left ..;have g0:gc a b≠0:=by have:=rW (a:=a) (b:=b) (by lia);lia
 obtain⟨x,hx⟩:=g1;have e:kZ a b=x*b:=by
  unfold kZ;rw[eK g0 hx]
 have k:(Int.lcm a b:Int) ∣ L:=Int.coe_lcm_dvd h1 h2;have m:(Int.gcd a b:Int)*(Int.lcm a b:Int)=a*b:=by
  have:=Int.gcd_mul_lcm a b;have h:((Int.gcd a b*Int.lcm a b:Nat):Int)=((a*b).natAbs:Nat):=by rw[this,Int.natAbs_mul]
  rw[Int.natCast_mul] at h;rw[h,Int.natAbs_of_nonneg (Int.mul_nonneg (by lia) (by lia))]
 have e2:(Int.lcm a b:Int)=x*b:=by
  have hg:(Int.gcd a b:Int)=gc a b:=rfl;rw[hg] at m;have:gc a b*(Int.lcm a b:Int)=gc a b*(x*b):=by
   rw[m,<- Int.mul_assoc,<- hx]
  exact Int.eq_of_mul_eq_mul_left g0 this
 rw[e,<- e2];exact k
theorem uY {L:Int}:∀{ps:List Q2},Pos ps->(∀p∈ps,p.2 ∣ L)->∀i,i<=ps.length->cU (ps.take i) ∣ L/\1<=cU (ps.take i)
 |ps,hp,h,0,_=>⟨Int.one_dvd _,by rw[take_zero];decide⟩
 |ps,hp,h,i+1,hi=>by
  obtain⟨a,b⟩:=uY hp h i (by lia);have hm:ps[i]?=some ps[i]:=getElem?_eq_getElem (by lia);have mem:=mem_of_getElem? hm;rw[kS hm];refine⟨Av b (hp _ mem) a (h _ mem),?_⟩;have:=oH (ps:=ps.take (i+1)) (fun p hp'=>hp p (mem_of_mem_take hp'))
  rwa [kS hm] at this
end Mq
namespace Shp
open PySem L2
abbrev bw (n m:Nat):Nat:=(n+5)*(m+1)+8
theorem Rh (n:Nat){i j:Nat}(h:i<=j):bw n i<=bw n j:=Nat.add_le_add_right (Nat.mul_le_mul_left (n+5) (show i+1<=j+1 by lia)) 8
def wZ (K:Frag):Sp:=fun vs H Q _=>∃(l D:Addr) (zs:List V) (R:List (List Int)) (m w n:Nat) (Pr:List (List Int)->Prop),vs=[.ref l,.int (m:Int)]/\SqL K H l zs/\Imx D H zs R/\R.length=m/\(∀i,i < m->(R.getD i []).length=w)/\m<=w/\w<=100/\BdR n R/\1<=n/\bw n m<=9000/\m<=31/\Pr R/\Stp m w (Mq.at2 R) Pr/\
 ∀d l' zs' R' rank pivot sign H',aT H H'->H d=none->H l'=none->H' d=some (Nz l' rank pivot sign)->H' l'=some (.lst zs')->Imx l' H' zs' R'->SI m w (Mq.at2 R) R' rank m pivot sign->BdR (bw n m) R'->Mq.B (bw n m) pivot->Pr R'->Q (.ref d) H'
end Shp
namespace L2
open PySem PySem.Spec PyProof.Rows
section
variable (u:Nat->Rat)
def fw (d:RD)(h:Nat):Rat:=match d.1 with
 | .pc=>(u d.2.1.toNat - u d.2.2.1.toNat)*(1 / Mq.val d.2.2.2)
 | .pu=>0
 | .ho=>u h
def nt:Nat->List RD->Nat->Rat
 |_,[],_=>0
 |h,d :: ds,p=>fw u d h*dl d.2.1.toNat d.2.2.1.toNat p+nt (h+cQ d.1) ds p
def hw:Nat->List RD->Nat->Rat
 |_,[],_=>0
 |h,d :: ds,y=>(if d.1=.ho/\h=y then u d.2.1.toNat - u d.2.2.1.toNat else 0)+hw (h+cQ d.1) ds y
def eg:Nat->List RD->Rat
 |_,[]=>0
 |h,d :: ds=>fw u d h*(u d.2.1.toNat - u d.2.2.1.toNat)+eg (h+cQ d.1) ds
end
section
variable {u:Nat->Rat} {m N:Nat}
theorem Et (F:Nat->Rat){n s g:Nat}(hs:s < n)(hg:g < n):Mq.rs n (fun p=>F p*dl s g p)=F s - F g:=by
 have e:∀p,F p*dl s g p=(if s=p then F p else 0) + - (if g=p then F p else 0):=fun p=>by
  unfold dl
  by_cases a:s=p<;>by_cases b:g=p<;>simp only[a,b,if_true,if_false]<;>grind
 rw[aP fun p _=>e p,dX,lW,xM,xM,if_pos hs,if_pos hg];grind
theorem Vn {n s g:Nat}(u0:u 0=0)(hs:s<=n)(hg:g<=n):Mq.rs n (fun i=>u (i+1)*dl s g (i+1))=u s - u g:=by
 have:=Et u (n:=n+1) (s:=s) (g:=g) (by lia) (by lia);rw[oI,u0] at this;grind
theorem qd6 (u0:u 0=0){d:RD}{h y:Nat}(pt:cH (m:Int) d.2.1 d.2.2.1)(hm:m<=N+1)(h1:1<=h)(hh:d.1=.ho->h<=N):Mq.rs N (fun i=>u (i+1)*cM d h (i+1) y)=fw u d h*dl d.2.1.toNat d.2.2.1.toNat y+(if d.1=.ho/\h=y then u d.2.1.toNat - u d.2.2.1.toNat else 0):=by
 obtain⟨a,b,c,e⟩:=pt;have base:=Vn (u:=u) (n:=N) (s:=d.2.1.toNat) (g:=d.2.2.1.toNat) u0 (by lia) (by lia);unfold cM fw
 cases hk:d.1 with
 |pc=>
  dsimp only;rw[if_neg (fun z=>by cases z.1)];have:∀i,u (i+1)*(dl d.2.1.toNat d.2.2.1.toNat (i+1)*dl d.2.1.toNat d.2.2.1.toNat y*(1 / Mq.val d.2.2.2))=(dl d.2.1.toNat d.2.2.1.toNat y*(1 / Mq.val d.2.2.2))*(u (i+1)*dl d.2.1.toNat d.2.2.1.toNat (i+1)):=fun i=>by grind
  rw[aP fun i _=>this i,eV,base];grind
 |pu=>
  dsimp only;rw[if_neg (fun z=>by cases z.1)];have:∀i,u (i+1)*(0:Rat)=0:=fun i=>by grind
  rw[aP fun i _=>this i,dM];grind
 |ho=>
  dsimp only;have hN:=hh hk;have one:Mq.rs N (fun i=>u (i+1)*(if h=i+1 then 1 else 0))=u h:=by
   have:∀i,u (i+1)*(if h=i+1 then (1:Rat) else 0)=if h - 1=i then u (i+1) else 0:=fun i=>by
    by_cases z:h=i+1
    ·rw[if_pos z,if_pos (by lia)];grind
    ·rw[if_neg z,if_neg (by lia)];grind
   rw[aP fun i _=>this i,xM,if_pos (by lia),show h - 1+1=h by lia]
  have:∀i,u (i+1)*(dl d.2.1.toNat d.2.2.1.toNat (i+1)*(if h=y then 1 else 0)+(if h=i+1 then 1 else 0)*dl d.2.1.toNat d.2.2.1.toNat y)=(if h=y then 1 else 0)*(u (i+1)*dl d.2.1.toNat d.2.2.1.toNat (i+1))+dl d.2.1.toNat d.2.2.1.toNat y*(u (i+1)*(if h=i+1 then 1 else 0)):=fun i=>by grind
  rw[aP fun i _=>this i,dX,eV,eV,base,one]
  by_cases z:h=y
  ·rw[if_pos z,if_pos ⟨rfl,z⟩];grind
  ·rw[if_neg z,if_neg (fun q=>z q.2)];grind
theorem Lr (u0:u 0=0)(hm:m<=N+1)(y:Nat):∀(ds:List RD) (h:Nat),(∀d∈ds,cH (m:Int) d.2.1 d.2.2.1)->1<=h->h+cJ ds<=N+1->Mq.rs N (fun i=>u (i+1)*eqM h ds (i+1) y)=nt u h ds y+hw u h ds y
 | [],h,_,_,_=>by
  have:∀i,u (i+1)*eqM h [] (i+1) y=0:=fun i=>by show u (i+1)*(0:Rat)=0;grind
  rw[aP fun i _=>this i,dM];show (0:Rat)=0+0;grind
 |d :: ds,h,pt,h1,hN=>by
  rw[fQ] at hN;have ih:=Lr u0 hm y ds (h+cQ d.1) (fun e he=>pt e (mem_cons_of_mem _ he)) (by lia) (by lia);have c:=qd6 (u:=u) (N:=N) (h:=h) (y:=y) u0 (pt d (by simp)) hm h1 (fun z=>by rw[z] at hN;have:cQ .ho=1:=rfl;lia);have:∀i,u (i+1)*eqM h (d :: ds) (i+1) y=u (i+1)*cM d h (i+1) y+u (i+1)*eqM (h+cQ d.1) ds (i+1) y:=fun i=>by
   show u (i+1)*(cM d h (i+1) y+eqM (h+cQ d.1) ds (i+1) y)=_;grind
  rw[aP fun i _=>this i,dX,ih,c];show _=(fw u d h*dl d.2.1.toNat d.2.2.1.toNat y+nt u (h+cQ d.1) ds y)+((if d.1=.ho/\h=y then u d.2.1.toNat - u d.2.2.1.toNat else 0)+hw u (h+cQ d.1) ds y)
  grind
theorem Kq {y:Nat}:∀(ds:List RD) (h:Nat),y < h->hw u h ds y=0
 | [],_,_=>rfl
 |d :: ds,h,hy=>by
  show (if d.1=.ho/\h=y then u d.2.1.toNat - u d.2.2.1.toNat else 0)+hw u (h+cQ d.1) ds y=0;rw[if_neg (fun z=>by lia),Kq ds (h+cQ d.1) (by lia)];grind
theorem Ol {y:Nat}:∀(ds:List RD) (h:Nat),(∀d∈ds,cH (m:Int) d.2.1 d.2.2.1)->m<=y->nt u h ds y=0
 | [],_,_,_=>rfl
 |d :: ds,h,pt,hy=>by
  obtain⟨a,b,c,e⟩:=pt d (by simp);show fw u d h*dl d.2.1.toNat d.2.2.1.toNat y+nt u (h+cQ d.1) ds y=0;rw[Ol ds (h+cQ d.1) (fun e he=>pt e (mem_cons_of_mem _ he)) hy];unfold dl;rw[if_neg (by lia),if_neg (by lia)];grind
theorem Cy:∀(ds:List RD) (h:Nat),(∀y,h<=y->y < h+cJ ds->hw u h ds y=0)->∀d∈ds,d.1=.ho->u d.2.1.toNat=u d.2.2.1.toNat
 | [],_,_,_,hd,_=>by cases hd
 |e :: ds,h,all,d,hd,hk=>by
  by_cases he:e.1=.ho
  ·have c1:cQ e.1=1:=by rw[he];rfl
   have first:=all h (Nat.le_refl _) (by rw[fQ];lia)
   have f1:(if e.1=.ho/\h=h then u e.2.1.toNat - u e.2.2.1.toNat else 0)+hw u (h+cQ e.1) ds h=0:=first
   rw[if_pos ⟨he,rfl⟩,Kq ds (h+cQ e.1) (by lia)] at f1;rcases mem_cons.mp hd with rfl | hd
   ·grind
   ·refine Cy ds (h+cQ e.1) (fun y hy hl=>?_) d hd hk;have:=all y (by lia) (by rw[fQ];lia);have f2:(if e.1=.ho/\h=y then u e.2.1.toNat - u e.2.2.1.toNat else 0)+hw u (h+cQ e.1) ds y=0:=this;rw[if_neg (fun z=>by lia)] at f2;grind
  ·have c0:cQ e.1=0:=if_neg he;rcases mem_cons.mp hd with rfl | hd
   ·exact absurd hk he
   ·refine Cy ds (h+cQ e.1) (fun y hy hl=>?_) d hd hk;have:=all y (by lia) (by rw[fQ];lia);have f2:(if e.1=.ho/\h=y then u e.2.1.toNat - u e.2.2.1.toNat else 0)+hw u (h+cQ e.1) ds y=0:=this;rw[if_neg (fun z=>he z.1)] at f2;grind
theorem Ux:∀(ds:List RD) (h:Nat),(∀d∈ds,cH (m:Int) d.2.1 d.2.2.1)->Mq.rs m (fun p=>u p*nt u h ds p)=eg u h ds
 | [],h,_=>by
  have:∀p,u p*nt u h [] p=0:=fun p=>by show u p*(0:Rat)=0;grind
  rw[aP fun p _=>this p,dM];rfl
 |d :: ds,h,pt=>by
  have ih:=Ux ds (h+cQ d.1) (fun e he=>pt e (mem_cons_of_mem _ he));obtain⟨a,b,c,e⟩:=pt d (by simp);have base:=Et u (n:=m) (s:=d.2.1.toNat) (g:=d.2.2.1.toNat) (by lia) (by lia);have:∀p,u p*nt u h (d :: ds) p=fw u d h*(u p*dl d.2.1.toNat d.2.2.1.toNat p)+u p*nt u (h+cQ d.1) ds p:=fun p=>by
   show u p*(fw u d h*dl d.2.1.toNat d.2.2.1.toNat p+nt u (h+cQ d.1) ds p)=_;grind
  rw[aP fun p _=>this p,dX,eV,base,ih];rfl
theorem qc0 (x:Rat):0<=x*x:=by
 rcases Rat.le_total (a:=0) (b:=x) with h | h
 ·exact Rat.mul_nonneg h h
 ·have:0<=(-x)*(-x):=Rat.mul_nonneg (by grind) (by grind);grind
theorem Oz {a:Rat}(h:0 < a):0 < 1 / a:=by
 rw[Rat.div_def,Rat.one_mul];exact Rat.inv_pos.mpr h
theorem Vc:∀(ds:List RD) (h:Nat),(∀d∈ds,d.1=.pc->0 < Mq.val d.2.2.2)->(∀d∈ds,d.1=.ho->u d.2.1.toNat=u d.2.2.1.toNat)->0<=eg u h ds/\(eg u h ds=0->∀d∈ds,d.1=.pc->u d.2.1.toNat=u d.2.2.1.toNat)
 | [],_,_,_=>⟨Rat.le_refl,fun _ d hd=>by cases hd⟩
 |e :: ds,h,pos,ho=>by
  obtain⟨i1,i2⟩:=Vc ds (h+cQ e.1) (fun d hd=>pos d (mem_cons_of_mem _ hd)) (fun d hd=>ho d (mem_cons_of_mem _ hd));have eq:eg u h (e :: ds)=fw u e h*(u e.2.1.toNat - u e.2.2.1.toNat)+eg u (h+cQ e.1) ds:=rfl;rw[eq];generalize eg u (h+cQ e.1) ds=r at i1 i2;have t:0<=fw u e h*(u e.2.1.toNat - u e.2.2.1.toNat)/\(e.1=.pc->fw u e h*(u e.2.1.toNat - u e.2.2.1.toNat)=0->u e.2.1.toNat=u e.2.2.1.toNat):=by
   unfold fw
   cases hk:e.1 with
   |pu=>exact⟨by grind,fun z=>by cases z⟩
   |ho=>exact⟨by rw[ho e (by simp) hk];grind,fun z=>by cases z⟩
   |pc=>
    dsimp only;have p:=Oz (pos e (by simp) hk);generalize 1 / Mq.val e.2.2.2=q at p;generalize u e.2.1.toNat=a;generalize u e.2.2.1.toNat=b;have e2:(a - b)*q*(a - b)=q*((a - b)*(a - b)):=by grind
    rw[e2];refine⟨Rat.mul_nonneg (Rat.le_of_lt p) (qc0 _),fun _ z=>?_⟩;have q0:q≠0:=fun z=>by rw[z] at p;exact absurd p (by decide)
    have:(a - b)*(a - b)=0:=by grind
    have:a - b=0:=by grind
    grind
  obtain⟨t1,t2⟩:=t;generalize fw u e h*(u e.2.1.toNat - u e.2.2.1.toNat)=x at t1 t2;refine⟨by grind,fun z d hd hk=>?_⟩;have x0:x=0:=by grind
  have r0:r=0:=by grind
  rcases mem_cons.mp hd with rfl | hd
  ·exact t2 hk x0
  ·exact i2 r0 d hd hk
theorem yU (d:RD)(p:Nat):∀(ds:List RD) (h:Nat),nt u h (ds++[d]) p=nt u h ds p+fw u d (h+cJ ds)*dl d.2.1.toNat d.2.2.1.toNat p
 | [],h=>by show fw u d h*_+0=0+fw u d (h+0)*_;rw[Nat.add_zero];grind
 |e :: ds,h=>by
  show fw u e h*_+nt u (h+cQ e.1) (ds++[d]) p=fw u e h*_+nt u (h+cQ e.1) ds p+_;rw[yU d p ds,fQ,Nat.add_assoc];grind
theorem Bw (F:Nat->Rat):∀(ds:List RD) (h:Nat),(∀d∈ds,cH (m:Int) d.2.1 d.2.2.1)->(∀d∈ds,d.1=.pc->u d.2.1.toNat=u d.2.2.1.toNat)->(∀d∈ds,d.1=.ho->F d.2.1.toNat=F d.2.2.1.toNat)->Mq.rs m (fun p=>F p*nt u h ds p)=0
 | [],h,_,_,_=>by
  have:∀p,F p*nt u h [] p=0:=fun p=>by show F p*(0:Rat)=0;grind
  rw[aP fun p _=>this p,dM]
 |d :: ds,h,pt,hu,hF=>by
  have ih:=Bw F ds (h+cQ d.1) (fun e he=>pt e (mem_cons_of_mem _ he)) (fun e he=>hu e (mem_cons_of_mem _ he)) (fun e he=>hF e (mem_cons_of_mem _ he));obtain⟨a,b,c,e⟩:=pt d (by simp);have base:=Et F (n:=m) (s:=d.2.1.toNat) (g:=d.2.2.1.toNat) (by lia) (by lia);have:∀p,F p*nt u h (d :: ds) p=fw u d h*(F p*dl d.2.1.toNat d.2.2.1.toNat p)+F p*nt u (h+cQ d.1) ds p:=fun p=>by
   show F p*(fw u d h*dl d.2.1.toNat d.2.2.1.toNat p+nt u (h+cQ d.1) ds p)=_;grind
  rw[aP fun p _=>this p,dX,eV,base,ih]
  cases hk:d.1 with
  |pu=>
   have:fw u d h=0:=by unfold fw;rw[hk]
   rw[this];grind
  |pc=>
   have:fw u d h=0:=by unfold fw;rw[hk];dsimp only;rw[hu d (by simp) hk];grind
   rw[this];grind
  |ho=>rw[hF d (by simp) hk];grind
def Frs (ds:List RD):Prop:=∀(A B:List RD) (d:RD),ds=A++d :: B->d.1=.ho->¬Cn (jA .ho A) d.2.1.toNat d.2.2.1.toNat
theorem Fd:∀(n:Nat) (ds:List RD) (h:Nat),ds.length=n->(∀d∈ds,cH (m:Int) d.2.1 d.2.2.1)->Frs ds->(∀d∈ds,d.1=.pc->u d.2.1.toNat=u d.2.2.1.toNat)->(∀p,p < m->nt u h ds p=0)->∀y,h<=y->y < h+cJ ds->u y=0
 |0,ds,h,hl,_,_,_,_,y,h1,h2=>by
  have:ds=[]:=length_eq_zero_iff.mp hl;subst this;have:cJ ([]:List RD)=0:=rfl;lia
 |n+1,ds,h,hl,pt,fr,hu,ze,y,h1,h2=>by
  obtain⟨es,d,rfl⟩:∃es d,ds=es++[d]:=⟨ds.dropLast,ds.getLast (by intro z;rw[z] at hl;cases hl),(dropLast_concat_getLast _).symm⟩
  have le:es.length=n:=by rw[List.length_append] at hl;simpa using hl
  have pe:∀x∈es,cH (m:Int) x.2.1 x.2.2.1:=fun x hx=>pt x (mem_append_left _ hx);have ue:∀x∈es,x.1=.pc->u x.2.1.toNat=u x.2.2.1.toNat:=fun x hx=>hu x (mem_append_left _ hx);have fe:Frs es:=fun A B x e hx=>fr A (B++[d]) x (by rw[e];simp) hx;obtain⟨i0,i1,j0,j1⟩:=pt d (by simp);have f0:fw u d (h+cJ es)=0:=by
   cases hk:d.1 with
   |pu=>unfold fw;rw[hk]
   |pc=>unfold fw;rw[hk];dsimp only;rw[hu d (by simp) hk];grind
   |ho=>
    open Classical in
    have nc:=fr es [] d rfl hk
    let F:Nat->Rat:=fun p=>if Cn (jA .ho es) d.2.1.toNat p then 1 else 0
    have s1:=Bw (u:=u) (m:=m) F es h pe ue (fun x hx hk'=>by
     show (if Cn (jA .ho es) d.2.1.toNat x.2.1.toNat then (1:Rat) else 0)=if Cn (jA .ho es) d.2.1.toNat x.2.2.1.toNat then 1 else 0
     have r:Cn (jA .ho es) x.2.1.toNat x.2.2.1.toNat:=.row (mem_filter.mpr ⟨hx,decide_eq_true hk'⟩) (by rw[hk'];exact fun z=>by cases z)
     by_cases c:Cn (jA .ho es) d.2.1.toNat x.2.1.toNat
     ·rw[if_pos c,if_pos (c.trans r)]
     ·rw[if_neg c,if_neg (fun z=>c (z.trans r.symm))])
    have s2:Mq.rs m (fun p=>F p*nt u h (es++[d]) p)=0:=by
     have:∀p,p < m->F p*nt u h (es++[d]) p=0:=fun p hp=>by rw[ze p hp];grind
     rw[aP this,dM]
    have e3:∀p,F p*nt u h (es++[d]) p=F p*nt u h es p+fw u d (h+cJ es)*(F p*dl d.2.1.toNat d.2.2.1.toNat p):=fun p=>by rw[yU];grind
    rw[aP fun p _=>e3 p,dX,s1,eV,Et F (by lia) (by lia)] at s2;have Fs:F d.2.1.toNat=1:=if_pos (.refl _);have Fg:F d.2.2.1.toNat=0:=if_neg nc;rw[Fs,Fg] at s2;grind
  have ze':∀p,p < m->nt u h es p=0:=fun p hp=>by
   have:=ze p hp;rw[yU,f0] at this;grind
  rw[kC] at h2
  by_cases c:y < h+cJ es
  ·exact Fd n es h le pe fe ue ze' y h1 c
  ·have hk:d.1=.ho:=Classical.byContradiction fun z=>by
    have:cQ d.1=0:=if_neg z;lia
   have c1:cQ d.1=1:=by rw[hk];rfl
   have:y=h+cJ es:=by lia
   rw[this];unfold fw at f0;rw[hk] at f0;exact f0
theorem Sd {ds:List RD}(hm1:1<=m)(pt:∀d∈ds,cH (m:Int) d.2.1 d.2.2.1)(pos:∀d∈ds,d.1=.pc->0 < Mq.val d.2.2.2)(cn:∀p,p < m->Cn ds 0 p)(fr:Frs ds)(u0:u 0=0)(ze:∀y,1<=y->y<=m - 1+cJ ds->Mq.rs (m - 1+cJ ds) (fun i=>u (i+1)*eqM m ds (i+1) y)=0):∀y,y<=m - 1+cJ ds->u y=0:=by
 have ze2:∀y,1<=y->y<=m - 1+cJ ds->nt u m ds y+hw u m ds y=0:=fun y a b=>by
  have:=ze y a b;rw[Lr (m:=m) u0 (by lia) y ds m pt hm1 (by lia)] at this;exact this
 have hf:=Cy (u:=u) ds m (fun y a b=>by
  have:=ze2 y (by lia) (by lia);rw[Ol ds m pt a] at this;grind)
 have np:∀p,1<=p->p < m->nt u m ds p=0:=fun p a b=>by
  have:=ze2 p a (by lia);rw[Kq ds m b] at this;grind
 have e0:eg u m ds=0:=by
  rw[<- Ux (u:=u) (m:=m) ds m pt];have:∀p,p < m->u p*nt u m ds p=0:=fun p hp=>by
   by_cases c:p=0
   ·rw[c,u0];grind
   ·rw[np p (by lia) hp];grind
  rw[aP this,dM]
 have pf:=(Vc (u:=u) ds m pos hf).2 e0;have cz:∀p,p < m->u p=0:=fun p hp=>by
  have:=Cn.ind (R:=fun a b=>u a=u b) (fun _=>rfl) (fun _ _ e=>e.symm) (fun _ _ _ a b=>a.trans b) (fun d hd hk=>by
   cases h:d.1 with
   |pc=>exact pf d hd h
   |pu=>exact absurd h hk
   |ho=>exact hf d hd h) (cn p hp)
  rw[<- this,u0]
 have all:∀p,p < m->nt u m ds p=0:=fun p hp=>by
  by_cases c:p=0
  ·have s:=Bw (u:=u) (m:=m) (fun _=>1) ds m pt pf (fun _ _ _=>rfl);obtain⟨k,rfl⟩:∃k,m=k+1:=⟨m - 1,by lia⟩
   rw[oI] at s;have:∀i,i < k->(1:Rat)*nt u (k+1) ds (i+1)=0:=fun i hi=>by rw[np (i+1) (by lia) (by lia)];grind
   rw[aP this,dM] at s;rw[c];grind
  ·exact np p (by lia) hp
 have hz:=Fd (u:=u) (m:=m) _ ds m rfl pt fr pf all;intro y hy
 by_cases c:y < m
 ·exact cz y c
 ·exact hz y (by lia) (by lia)
end
open Shp
section
variable {m N:Nat} {ds:List RD}
structure Nof (m:Nat) (ds:List RD):Prop where
 m1:1<=m
 pt:∀d∈ds,cH (m:Int) d.2.1 d.2.2.1
 pos:∀d∈ds,d.1=.pc->0 < Mq.val d.2.2.2
 cn:∀p,p < m->Cn ds 0 p
 fr:Frs ds
theorem Wk {X:List (List Q2)}{Y:List Q2}(e:xL m ds N X Y):X.length=m - 1+cJ ds:=e.x.h
theorem Mb {X:List (List Q2)}{Y:List Q2}(e:xL m ds N X Y)(i j:Nat):pF X i j=eqM m ds (i+1) (j+1):=e.vx i j
end
end L2
namespace Shp
open PySem L2
theorem Fu {m w:Nat}{R0:List (List Int)}(hl:R0.length=m)(hw:∀i,i < m->(R0.getD i []).length=w)(hmw:m<=w){Pr:List (List Int)->Prop}(h0:Pr R0)(st:Stp m w (Mq.at2 R0) Pr):∀col,col<=m->∃R r d sg,SI m w (Mq.at2 R0) R r col d sg/\Pr R
 |0,_=>⟨R0,0,1,1,.start hl hw,h0⟩
 |col+1,hc=>by
  obtain⟨R,r,d,sg,S,p⟩:=Fu hl hw hmw h0 st col (by lia)
  by_cases hz:∀i,r<=i->i < m->Mq.ent R i col=0
  ·exact⟨R,r,d,sg,S.skip hz,p⟩
  ·obtain⟨i,hi⟩:=Classical.not_forall.mp hz;obtain⟨h1,hi⟩:=Classical.not_imp.mp hi;obtain⟨h2,ne⟩:=Classical.not_imp.mp hi
   by_cases e:i=r
   ·subst e;exact⟨_,_,_,_,S.clear h2 (by lia) ne,st.cl R i col d sg S h2 (by lia) ne p⟩
   ·have hlt:r < i:=by lia
    have S2:=S.swap hlt h2;have p2:=st.sw R r col d sg i S hlt h2 p;have ne2:Mq.ent (eX R i r) r col≠0:=by
     have:=yG (R:=R) (p:=i) (r:=r) (by rw[S.len];lia) (by rw[S.len];lia) r;unfold Mq.ent at ne ⊢;rw[this,show Mq.sw i r r=i by unfold Mq.sw;simp];exact ne
    exact⟨_,_,_,_,S2.clear (by lia) (by lia) ne2,st.cl _ r col d (-sg) S2 (by lia) (by lia) ne2 p2⟩
theorem Ub {X:List (List Q2)}(xP:dD X)(hw:∀row∈X,row.length=X.length)(m1:1<=X.length)(hz:wgt X=0):∃v:Nat->Rat,(∃j,j < X.length/\v j≠0)/\∀x,x < X.length->(Mq.rs X.length fun j=>v j*pF X j x)=0:=by
 obtain⟨R,r,d,sg,S,L⟩:=Fu (m:=X.length) (w:=X.length+X.length) (R0:=iN X) (Mi X) (fun i hi=>by rw[rZ hi,Bi,hw _ (mem_of_getElem? (uK hi))]) (by lia) (Ua xP hw) Yj X.length (Nat.le_refl _);have wr:=No xP (Tg fun i j hi hj=>wR xP hw hi hj) S;have hr:r < X.length:=by
  rcases wr with z | z
  ·exact z.1
  ·exact absurd hz z.2
 obtain⟨⟨k0,hk0,nk0⟩,hsum⟩:=L.lame S hr;refine⟨fun k=>Mq.at2 R (X.length - 1) (X.length+k),⟨k0,hk0,fun z=>?_⟩,hsum⟩;exact nk0 (Rat.intCast_inj.mp (by unfold Mq.at2 at z;simpa using z))
end Shp
namespace L2
open Shp
theorem Nof.wgt_ne {m N:Nat}{ds:List RD}(o:Nof m ds){X:List (List Q2)}{Y:List Q2}(e:xL m ds N X Y)(xP:dD X)(hw:∀row∈X,row.length=X.length)(m1:1<=X.length):wgt X≠0:=fun hz=>by
 obtain⟨v,⟨j,hj,vj⟩,hs⟩:=Ub xP hw m1 hz;have n:=Wk e;have z:=Sd (u:=fun x=>if x=0 then 0 else v (x - 1)) o.m1 o.pt o.pos o.cn o.fr (if_pos rfl) (fun y y1 yn=>by
  have s:=hs (y - 1) (by lia);rw[n] at s;rw[<- s];refine aP fun i _=>?_;rw[if_neg (by lia),Nat.add_sub_cancel,Mb e,show y - 1+1=y by lia])
 have:=z (j+1) (by lia);rw[if_neg (by lia),Nat.add_sub_cancel] at this;exact vj this
end L2
namespace Mq
theorem As {p:Q2}(l:Low p){a L:Int}(hL:1<=L)(h:val p=(a:Rat) / (L:Rat)):p.2 ∣ L/\p.1.natAbs<=a.natAbs:=by
 have h2:((p.2:Int):Rat)≠0:=by have:=l.pos;exact_mod_cast (show p.2≠0 by lia)
 have hl:((L:Int):Rat)≠0:=by exact_mod_cast (show L≠0 by lia)
 have e:p.1*L=a*p.2:=by
  unfold val at h;have:((p.1:Int):Rat)*(L:Rat)=(a:Rat)*((p.2:Int):Rat):=by grind
  exact_mod_cast this
 have d:p.2 ∣ L:=by
  have c:Int.gcd p.2 p.1=1:=by
   have:=l.one;unfold gc at this;rw[Int.gcd_comm];exact_mod_cast this
  have c':Nat.Coprime p.2.natAbs p.1.natAbs:=c;have dv:p.2.natAbs ∣ p.1.natAbs*L.natAbs:=by
   rw[<- Int.natAbs_mul,e,Int.natAbs_mul];exact Nat.dvd_mul_left ..
  exact Int.natAbs_dvd_natAbs.mp (c'.dvd_of_dvd_mul_left dv)
 obtain⟨t,ht⟩:=d;have t1:t≠0:=fun z=>by rw[z,Int.mul_zero] at ht;lia
 have e2:p.1*t=a:=by
  have:p.2*(p.1*t)=p.2*a:=by
   rw[Int.mul_comm p.2 a,<- e,ht,<- Int.mul_assoc,<- Int.mul_assoc,Int.mul_comm p.2 p.1]
  exact Int.eq_of_mul_eq_mul_left (by have:=l.pos;lia) this
 refine⟨⟨t,ht⟩,?_⟩;rw[<- e2,Int.natAbs_mul];exact Nat.le_mul_of_pos_right _ (by lia)
def Fr (L:Int)(M:Nat)(x:Rat):Prop:=∃a:Int,x=(a:Rat) / (L:Rat)/\a.natAbs<=M*L.natAbs
section
variable {L K:Int} {M N:Nat} {x y:Rat}
theorem jL (h:1<=L):((L:Int):Rat)≠0:=by exact_mod_cast (show L≠0 by lia)
theorem Fr.mono (h:Fr L M x)(l:M<=N):Fr L N x:=by
 obtain⟨a,e,b⟩:=h;exact⟨a,e,Nat.le_trans b (Nat.mul_le_mul_right _ l)⟩
theorem Fr.zero:Fr L 0 0:=⟨0,by rw[show ((0:Int):Rat)=0 by rfl,Rat.div_def];grind,by simp⟩
theorem Fr.one (h:1<=L):Fr L 1 1:=⟨L,by have:=jL h;grind,by lia⟩
theorem Fr.add (h:Fr L M x)(g:Fr L N y):Fr L (M+N) (x+y):=by
 obtain⟨a,ea,ba⟩:=h;obtain⟨b,eb,bb⟩:=g;refine⟨a+b,?_,?_⟩
 ·rw[ea,eb,Rat.intCast_add,Rat.div_def,Rat.div_def,Rat.div_def];grind
 ·rw[Nat.add_mul];have:=Int.natAbs_add_le a b;lia
theorem Fr.neg (h:Fr L M x):Fr L M (-x):=by
 obtain⟨a,ea,ba⟩:=h;refine⟨-a,?_,by rw[Int.natAbs_neg];exact ba⟩;rw[ea,Rat.intCast_neg,Rat.div_def,Rat.div_def];grind
theorem Fr.mul (hL:1<=L)(hK:1<=K)(h:Fr L M x)(g:Fr K N y):Fr (L*K) (M*N) (x*y):=by
 obtain⟨a,ea,ba⟩:=h;obtain⟨b,eb,bb⟩:=g;refine⟨a*b,?_,?_⟩
 ·have:=jL hL;have:=jL hK;rw[ea,eb,Rat.intCast_mul,Rat.intCast_mul];grind
 ·rw[Int.natAbs_mul,Int.natAbs_mul];have:=Nat.mul_le_mul ba bb;rw[show M*N*(L.natAbs*K.natAbs)=M*L.natAbs*(N*K.natAbs) by rw[Nat.mul_assoc,Nat.mul_assoc,Nat.mul_left_comm N]];exact this
theorem Fr.lift (hL:1<=L)(hK:1<=K)(h:Fr L M x):Fr (L*K) M x:=by
 have:=Fr.mul hL hK h (Fr.one hK)
 rwa [Nat.mul_one,Rat.mul_one] at this
theorem Fr.of (hL:1<=L){t b:Int}(hb:1<=b)(d:b ∣ L)(ht:t.natAbs<=M):Fr L M ((t:Rat) / (b:Rat)):=by
 obtain⟨k,rfl⟩:=d;have k1:1<=k:=by
  rcases Int.lt_or_le k 1 with z | z
  ·have:=Int.mul_nonpos_of_nonneg_of_nonpos (show 0<=b by lia) (show k<=0 by lia);lia
  ·exact z
 refine⟨t*k,?_,?_⟩
 ·have:=jL hb;have:=jL k1;rw[Rat.intCast_mul,Rat.intCast_mul];grind
 ·rw[Int.natAbs_mul,Int.natAbs_mul];refine Nat.mul_le_mul ht (Nat.le_mul_of_pos_left _ (by lia))
theorem Fr.get (h:Fr L M x){m n b:Nat}(hM:M < 2 ^ m)(hL:B n L)(hb:m+n<=b):∃a:Int,B b a/\x=(a:Rat) / (L:Rat):=by
 obtain⟨a,ea,ba⟩:=h;refine⟨a,?_,ea⟩;refine B.mono (n:=m+n) ?_ hb;show a.natAbs < 2 ^ (m+n);rw[Nat.pow_add];have hL:L.natAbs < 2 ^ n:=hL;exact Nat.lt_of_le_of_lt ba (Nat.mul_lt_mul'' hM hL)
end
def prB:List Int->Int
 | []=>1
 |a :: r=>a*prB r
theorem Fw:∀{l:List Int},(∀a∈l,1<=a)->1<=prB l
 | [],_=>Int.le_refl _
 |a :: r,h=>by
  have h1:=h a (by simp);have h2:=Fw (l:=r) fun b hb=>h b (mem_cons_of_mem _ hb);have:=Int.mul_pos (show 0 < a by lia) (show 0 < prB r by lia);show 1<=a*prB r;lia
theorem Fn:∀{l:List Int} {a:Int},a∈l->a ∣ prB l
 |b :: r,a,h=>by
  rcases mem_cons.mp h with z | z
  ·rw[z];exact Int.dvd_mul_right ..
  ·exact Int.dvd_trans (Fn z) (Int.dvd_mul_left ..)
theorem Ur {u:Nat}:∀{l:List Int},(∀a∈l,B u a)->B (u*l.length+1) (prB l)
 | [],_=>show (1:Nat) < 2 ^ (u*0+1) by rw[Nat.mul_zero];decide
 |a :: r,h=>by
  have h1:=h a (by simp);have h2:=Ur (l:=r) fun b hb=>h b (mem_cons_of_mem _ hb);exact(h1.mul h2).mono (by rw[length_cons,Nat.mul_succ];lia)
end Mq
open Mq (As jL)
namespace L2
theorem Pp (s g x:Nat):dl s g x=1\/dl s g x=0\/dl s g x=-1:=by
 unfold dl
 by_cases a:s=x<;>by_cases b:g=x<;>simp only[a,b,if_true,if_false]
 ·exact .inr (.inl (by grind))
 ·exact .inl (by grind)
 ·exact .inr (.inr (by grind))
 ·exact .inr (.inl (by grind))
theorem Gn {L:Int}{M:Nat}{y:Rat}(h:Mq.Fr L M y)(s g x:Nat):Mq.Fr L M (dl s g x*y):=by
 rcases Pp s g x with e | e | e
 ·rw[e,Rat.one_mul];exact h
 ·rw[e,Rat.zero_mul];exact Mq.Fr.zero.mono (Nat.zero_le _)
 ·rw[e,show (-1:Rat)*y=-y by grind];exact h.neg
open PySem PySem.Spec PyProof.Rows Shp
abbrev Ent:=Option Nat × RD × Q2
section
variable {m u j:Nat} {hs:List Q2} {par:Nat->Nat} {E:List Ent}
theorem xY {α:Type}{E:List α}{i:Nat}{e x:α}(h:x∈E.take i++e :: E.drop i):x=e\/x∈E:=by
 rcases mem_append.mp h with z | z
 ·exact .inr (mem_of_mem_take z)
 ·rcases mem_cons.mp z with z | z
  ·exact .inl z
  ·exact .inr (mem_of_mem_drop z)
end
theorem Em {W:Kd->Bool}{sk:List Sk}:∀n,∀e∈(eQ W sk n).1,∃k,W k=true/\sk[e.1]?=some (k,e.2.1,e.2.2)/\e.1 < n
 |0,e,h=>by cases h
 |n+1,e,h=>by
  have ih:=Em (W:=W) (sk:=sk) n
  cases hd:sk[n]? with
  |none=>
   have:eQ W sk (n+1)=eQ W sk n:=by
    show (match sk[n]? with | none=>eQ W sk n | some d=>iD W (eQ W sk n) n d)=_;rw[hd]
   rw[this] at h;obtain⟨k,a,b,c⟩:=ih e h;exact⟨k,a,b,by lia⟩
  |some d=>
   rw[iC hd] at h;unfold iD at h;split at h
   ·rename_i w
    split at h
    ·rcases mem_append.mp h with z | z
     ·obtain⟨k,a,b,c⟩:=ih e z;exact⟨k,a,b,by lia⟩
     ·have:e=(n,d.2.1,d.2.2):=by simpa using z
      subst this;exact⟨d.1,w,hd,by show n < n+1;lia⟩
    ·obtain⟨k,a,b,c⟩:=ih e h;exact⟨k,a,b,by lia⟩
   ·obtain⟨k,a,b,c⟩:=ih e h;exact⟨k,a,b,by lia⟩
theorem vP {m:Nat}{ds:List RD}{W:Kd->Bool}(hW:∀k,W k=true↔k=.ho)(pt:∀d∈ds,cH (m:Int) d.2.1 d.2.2.1)(h20:m<=20)(fr:Frs ds):∀n,n<=ds.length->(eQ W (skl ds) n).2=[]
 |0,_=>rfl
 |n+1,hn=>by
  have ih:=vP hW pt h20 fr n (by lia);have hd:ds[n]?=some ds[n]:=getElem?_eq_getElem (by lia);generalize ds[n]=d at hd;have sl:(skl ds).length=ds.length:=by unfold skl;rw[length_map]
  have hs:(skl ds)[n]?=some (d.1,d.2.1.toNat,d.2.2.1.toNat):=by unfold skl;rw[getElem?_map,hd];rfl
  rw[iC hs];unfold iD;split
  ·rename_i w
   have hk:d.1=.ho:=(hW _).mp w;obtain⟨a,b,c,f⟩:=pt d (mem_of_getElem? hd);have ri:=rK (W:=W) (sk:=skl ds) (m:=m) (fun x hx=>by
    obtain⟨y,hy,rfl⟩:=mem_map.mp hx;obtain⟨a,b,c,f⟩:=pt y hy;exact⟨by show y.2.1.toNat < m;lia,by show y.2.2.1.toNat < m;lia⟩) n (by lia)
   have wi:=Sa (b:=d.2.2.1.toNat) (e:=d.2.1.toNat) ri.pt h20 (by lia) (by lia)
   cases e:sX (eQ W (skl ds) n).1 d.2.2.1.toNat d.2.1.toNat with
   |none=>dsimp only;first | (rw[e];exact ih) | exact ih
   |some st=>
    exfalso
    rw[e] at wi;have eq:=wi.mp rfl;have cn:=(zV (tD ri.pt) (by lia) (by lia)).mp eq;have ed:ds=ds.take n++d :: ds.drop (n+1):=by
     have hn':n < ds.length:=by lia
     have:ds[n]=d:=by rw[getElem?_eq_getElem hn'] at hd;exact Option.some.inj hd
     rw[<- this,getElem_cons_drop,take_append_drop]
    refine fr _ _ d ed hk ?_;refine Cn.ind (R:=fun p q=>Cn (jA .ho (ds.take n)) p q) (fun p=>.refl p) (fun _ _=>.symm) (fun _ _ _=>.trans) (fun x hx _=>?_) cn;obtain⟨y,hy,rfl⟩:=mem_map.mp hx;obtain⟨k,wk,sk,yn⟩:=Em n y hy;unfold skl at sk;rw[getElem?_map] at sk;obtain⟨z,hz,ez⟩:=Option.map_eq_some_iff.mp sk;have e1:z.1=k:=congrArg (·.1) ez;have e2:z.2.1.toNat=y.2.1:=congrArg (·.2.1) ez;have e3:z.2.2.1.toNat=y.2.2:=congrArg (·.2.2) ez;have hz':z∈jA .ho (ds.take n):=mem_filter.mpr ⟨mem_of_getElem? (show (ds.take n)[y.1]?=some z by rw[getElem?_take_of_lt yn];exact hz),decide_eq_true (by rw[e1];exact(hW _).mp wk)⟩;have:Cn (jA .ho (ds.take n)) z.2.1.toNat z.2.2.1.toNat:=.row hz' (by rw[e1,(hW _).mp wk];exact fun z=>by cases z);rw[e2,e3] at this;show Cn _ ((y.2.1:Nat):Int).toNat ((y.2.2:Nat):Int).toNat;rw[Int.toNat_natCast,Int.toNat_natCast];exact this
  ·exact ih
end L2
namespace Mq
theorem Sc {p:Q2}{a L l k:Int}(h:1<=p.2)(e:l=k*p.2)(l1:1<=l)(d:l ∣ L)(hL:1<=L)(v:val p=(a:Rat) / (L:Rat)):(uS l p).natAbs<=a.natAbs:=by
 obtain⟨s,rfl⟩:=d;have s1:s≠0:=fun z=>by rw[z,Int.mul_zero] at hL;lia
 have hv:=Pi (L:=l) (k:=k) h e;have h2:=jL l1;have h3:((s:Int):Rat)≠0:=by exact_mod_cast s1
 have e2:uS l p*s=a:=by
  have:((uS l p:Int):Rat)*(s:Rat)=(a:Rat):=by
   rw[hv,v,Rat.intCast_mul];grind
  exact_mod_cast this
 rw[<- e2,Int.natAbs_mul];exact Nat.le_mul_of_pos_right _ (by lia)
end Mq
namespace Shp
open PySem L2
theorem Rz {X:List (List Q2)}{qs:List Q2}{L:Int}{b:Nat}(hX:dD X)(hq:Mq.Pos qs)(hl:qs.length=X.length)(hb:∀row∈X,∀p∈row,p.2 ∣ L/\∃a:Int,Mq.B b a/\Mq.val p=(a:Rat) / (L:Rat))(hqb:∀p∈qs,p.2 ∣ L/\∃a:Int,Mq.B b a/\Mq.val p=(a:Rat) / (L:Rat))(hL:1<=L):BdR b (gL X qs):=fun i x=>by
 unfold Mq.ent
 by_cases hi:i < X.length
 ·rw[sU hl hi];have pos:=qO hX hq hl hi;have al:∀p∈X.getD i []++[qs.getD i Mq.z0],p.2 ∣ L/\∃a:Int,Mq.B b a/\Mq.val p=(a:Rat) / (L:Rat):=fun p hp=>by
   rcases mem_append.mp hp with z | z
   ·exact hb _ (mem_of_getElem? (uK hi)) p z
   ·have e:p=qs.getD i Mq.z0:=by simpa using z
    rw[e];exact hqb _ (mem_of_getElem? (Zx (show i < qs.length by lia)))
  generalize X.getD i []++[qs.getD i Mq.z0]=row at pos al;obtain⟨dv,l1⟩:=Mq.uY pos (fun p hp=>(al p hp).1) row.length (Nat.le_refl _);rw[take_length] at dv l1;unfold iw;rw[getD_eq_getElem?_getD,getElem?_map]
  cases e:row[x]? with
  |none=>exact Nat.two_pow_pos _
  |some p=>
   have mem:=mem_of_getElem? e;obtain⟨_,a,ab,ea⟩:=al p mem;obtain⟨k,ek⟩:=tS pos p mem;exact ab.le (Mq.Sc (pos p mem) ek l1 dv hL ea)
 ·rw[getD_eq_getElem?_getD (l:=gL X qs),getElem?_eq_none (by rw[Ao hl];lia)];exact Nat.two_pow_pos _
structure Ovr (n:Nat) (ps:List Q2):Prop where
 e:∃D:Int,1<=D/\Mq.B n D/\∀p∈ps,∃t:Int,Mq.B n t/\Mq.val p=(t:Rat) / (D:Rat)
theorem Qp {n:Nat}{d:Int}(d0:d≠0)(bd:Mq.B n d){ps:List Q2}(h:∀p∈ps,∃t:Int,Mq.B n t/\p=red t d):Ovr n ps:=by
 refine⟨(d.natAbs:Int),by lia,by show ((d.natAbs:Int)).natAbs < _;rw[Int.natAbs_natCast];exact bd,fun p hp=>?_⟩;obtain⟨t,bt,rfl⟩:=h p hp;rw[iJ d0];rcases Int.lt_or_le d 0 with z | z
 ·refine⟨-t,bt.neg,?_⟩;rw[show ((d.natAbs:Nat):Int)=-d by lia,Rat.intCast_neg,Rat.intCast_neg];have:((d:Int):Rat)≠0:=by exact_mod_cast d0
  grind
 ·exact⟨t,bt,by rw[show ((d.natAbs:Nat):Int)=d by lia]⟩
def vI (K:Frag):Sp:=fun vs H Q _=>∃(g b D:Addr) (H0:Hp) (us bs:List V) (X:List (List Q2)) (qs:List Q2) (k n:Nat),vs=[.ref g,.ref b]/\SqL K H g us/\Fmd K H0 D H us X/\SqL K H b bs/\Fqs K H bs qs/\qs.length=X.length/\kB qs/\(∀p∈qs,Bd k p)/\dD X/\(∀row∈X,(∀p∈row,Bd k p)/\row.length=X.length)/\X.length<=26/\10+k+k*(X.length+1)<=8000/\BdR n (gL X qs)/\1<=n/\bw n X.length<=8900/\wgt X≠0/\
 ∀l zs ps H',aT H H'->H l=none->H' l=some (.lst zs)->Fqs K H' zs ps->Vz X qs ps->Ovr (bw n X.length) ps->Q (.ref l) H'
end Shp
namespace L2
open PySem PySem.Spec PyProof.Rows Shp
abbrev wd (m:Nat)(ds:List RD):Nat:=m - 1+cJ ds
structure Sv (m:Nat) (ds:List RD) (r:Nat->Rat) (v:Nat->Rat):Prop where
 z:v 0=0
 e:∀i,i < wd m ds->(Mq.rs (wd m ds) fun j=>eqM m ds (i+1) (j+1)*v (j+1))=r (i+1)
def un (k x:Nat):Rat:=if x=k then 1 else 0
abbrev Ph (m:Nat)(ds:List RD)(a b:Nat)(v:Nat->Rat):Prop:=Sv m ds (fun x=>un a x - un b x) v
section
variable {m:Nat} {ds:List RD} {r v:Nat->Rat}
theorem Up {n k:Nat}(hk:k < n)(F:Nat->Rat):Mq.rs n (fun p=>F p*un k p)=F k:=by
 have:∀p,p < n->F p*un k p=if k=p then F p else 0:=fun p _=>by
  unfold un
  by_cases c:p=k
  ·rw[if_pos c,if_pos c.symm];grind
  ·rw[if_neg c,if_neg (fun z=>c z.symm)];grind
 rw[aP this,xM,if_pos hk]
end
def lvS (m:Nat)(sol:List Q2):List Q2:=(0,1) :: sol.take (m - 1)
theorem rP {p:Q2}(l:Low p){a L:Int}{b:Nat}(hL:1<=L)(LB:Mq.B b L)(ab:Mq.B b a)(h:Mq.val p=(a:Rat) / (L:Rat)):Bd b p/\p.2 ∣ L:=by
 obtain⟨d,t⟩:=As l hL h;refine⟨⟨ab.le t,LB.le ?_⟩,d⟩;have:=Int.le_of_dvd (by lia) d;have:=l.pos;lia
structure EqB (m b:Nat) (L:Int) (ds:List RD):Prop where
 o:Nof m ds
 w26:wd m ds<=26
 b1:1<=b
 hb:10+b+b*(wd m ds+1)<=8000
 hbw:bw b (wd m ds)<=4000
 L1:1<=L
 LB:Mq.B b L
 eM:∀i j,∃a:Int,Mq.B b a/\eqM m ds (i+1) (j+1)=(a:Rat) / (L:Rat)
def Q01 (p:Q2):Prop:=Low p/\p.2=1/\p.1.natAbs<=1
theorem Q01.bd {p:Q2}{b:Nat}(h:Q01 p)(b1:1<=b):Bd b p:=by
 obtain⟨_,e,l⟩:=h;have:(2:Nat) ^ 1<=2 ^ b:=Nat.pow_le_pow_right (by decide) b1;exact⟨by show p.1.natAbs < 2 ^ b;lia,by show p.2.natAbs < 2 ^ b;rw[e];show 1 < 2 ^ b;lia⟩
theorem Q01.ov {p:Q2}{b:Nat}{L:Int}(h:Q01 p)(L1:1<=L)(LB:Mq.B b L):p.2 ∣ L/\∃a:Int,Mq.B b a/\Mq.val p=(a:Rat) / (L:Rat):=by
 obtain⟨_,e,l⟩:=h;refine⟨by rw[e];exact Int.one_dvd _,p.1*L,LB.le ?_,?_⟩
 ·rw[Int.natAbs_mul]
  calc p.1.natAbs*L.natAbs<=1*L.natAbs:=Nat.mul_le_mul_right _ l
   _=L.natAbs:=Nat.one_mul _
 ·have:=jL L1;unfold Mq.val;rw[e,Rat.intCast_mul,show ((1:Int):Rat)=1 by rfl];grind
def uP (sol:List Q2)(x:Nat):Rat:=if x=0 then 0 else Mq.val (sol.getD (x - 1) Mq.z0)
section
variable {m b N:Nat} {L:Int} {ds:List RD} {X:List (List Q2)} {Y qs ps:List Q2}
theorem EqB.cell (h:EqB m b L ds)(e:xL m ds N X Y):∀row∈X,(∀p∈row,Bd b p/\p.2 ∣ L/\∃a:Int,Mq.B b a/\Mq.val p=(a:Rat) / (L:Rat))/\row.length=X.length:=fun row hr=>by
 refine⟨fun p hp=>?_,by rw[e.x.w row hr,e.x.h]⟩;obtain⟨i,hi⟩:=getElem?_of_mem hr;obtain⟨j,hj⟩:=getElem?_of_mem hp;have ep:p=gQ X i j:=by
  unfold gQ;rw[getD_eq_getElem?_getD (l:=X),hi];show p=row.getD j (0,1);rw[getD_eq_getElem?_getD,hj];rfl
 obtain⟨a,ab,ea⟩:=h.eM i j;have ev:Mq.val p=(a:Rat) / (L:Rat):=by rw[ep,e.vx,ea]
 obtain⟨x,y⟩:=rP (e.x.l row hr p hp).1 h.L1 h.LB ab ev;exact⟨x,y,a,ab,ev⟩
theorem EqB.pos (e:xL m ds N X Y):dD X:=fun row hr p hp=>(e.x.l row hr p hp).1.pos
theorem EqB.wgt (h:EqB m b L ds)(e:xL m ds N X Y):wgt X≠0:=by
 by_cases c:1<=X.length
 ·exact h.o.wgt_ne e (EqB.pos e) (fun row hr=>(h.cell e row hr).2) c
 ·have:X=[]:=eq_nil_of_length_eq_zero (by lia);subst this;show (1:Rat)≠0;decide
theorem EqB.sol (e:xL m ds N X Y)(s:Vz X qs ps){r:Nat->Rat}(vq:∀i,i < wd m ds->Mq.val (qs.getD i Mq.z0)=r (i+1)):Sv m ds r (uP ps):=by
 have lX:X.length=wd m ds:=e.x.h;refine⟨if_pos rfl,fun i hi=>?_⟩;rw[<- vq i hi,<- s.sum i (by lia),lX];refine aP fun j _=>?_;unfold uP;rw[if_neg (by lia),Nat.add_sub_cancel,Mb e]
end
theorem Ro {m:Nat}{ps:List Q2}(hl:m - 1<=ps.length){p:Nat}(hp:p < m):Mq.val ((lvS m ps).getD p (0,1))=uP ps p:=by
 unfold lvS uP
 by_cases c:p=0
 ·subst c;rw[if_pos rfl];exact pQ
 ·rw[if_neg c];obtain⟨q,rfl⟩:∃q,p=q+1:=⟨p - 1,by lia⟩
  rw[Nat.add_sub_cancel,getD_eq_getElem?_getD,getElem?_cons_succ,getElem?_take_of_lt (by lia),<- getD_eq_getElem?_getD]
theorem Qx {m:Nat}{ps:List Q2}(m1:1<=m)(hl:m - 1<=ps.length):(lvS m ps).length=m:=by
 unfold lvS;rw[length_cons,length_take];lia
theorem Ts {m:Nat}{ps:List Q2}(h:kB ps):kB (lvS m ps):=fun p hp=>by
 rcases mem_cons.mp hp with z | z
 ·rw[z];exact⟨by decide,by decide⟩
 ·exact h p (mem_of_mem_take z)
theorem Zk {m n:Nat}{ps:List Q2}(h:Ovr n ps):Ovr n (lvS m ps):=by
 obtain⟨D,D1,bD,al⟩:=h.e;refine⟨D,D1,bD,fun p hp=>?_⟩;rcases mem_cons.mp hp with z | z
 ·refine⟨0,Nat.two_pow_pos _,?_⟩;rw[z,pQ,Rat.div_def];show (0:Rat)=((0:Int):Rat)*_;rw[show ((0:Int):Rat)=0 by rfl];grind
 ·exact al p (mem_of_mem_take z)
theorem Ovr.minus {n:Nat}{ps:List Q2}(h:Ovr n ps)(low:kB ps){p q:Q2}(hp:p∈ps)(hq:q∈ps):Bd (n+1) (Mq.minus p q)/\Bd n p/\Bd n q:=by
 obtain⟨D,D1,bD,al⟩:=h.e;obtain⟨t,bt,et⟩:=al p hp;obtain⟨s,bs,es⟩:=al q hq;have lp:=low p hp;have lq:=low q hq;refine⟨?_,(rP lp D1 bD bt et).1,(rP lq D1 bD bs es).1⟩;refine(rP (pI lp.pos lq.pos) D1 (bD.mono (by lia)) (bt.sub bs) ?_).1;rw[pB lp.pos lq.pos,et,es,Rat.intCast_sub,Rat.div_def,Rat.div_def,Rat.div_def];grind
def Va (CN:Addr)(K:Frag):Sp:=fun vs H Q _=>∃(n l g r D:Addr) (H0:Hp) (m b N:Nat) (L:Int) (ds:List RD) (us ys:List V) (X:List (List Q2)) (Y qs:List Q2),vs=[.ref n,.ref g,.ref r]/\eO CN K H n l (m:Int) ds/\SqL K H g us/\Fmd K H0 D H us X/\xL m ds N X Y/\EqB m b L ds/\SqL K H r ys/\Fqs K H ys qs/\qs.length=X.length/\(∀p∈qs,Q01 p)/\
 ∀t zs ps H',aT H H'->H' t=some (.lst zs)->Fqs K H' zs (lvS m ps)->Vz X qs ps->Ovr (bw b (wd m ds)) ps->Q (.ref t) H'
structure Jt (CN:Addr) (K:Frag) (H:Hp) (n l:Addr) (m b:Nat) (kb:Nat->Nat) (L:Int) (ds:List RD):Prop where
 nt:eO CN K H n l (m:Int) ds
 ok:∀i d,ds[i]?=some d->Co (m:Int) d/\Bd (kb i) d.2.2.2
 m20:m<=20
 h40:ds.length<=40
 cu:iK kb ds.length+30<=8900
 eb:EqB m b L ds
theorem Jt.same {CN:Addr}{K:Frag}{H H':Hp}{n l:Addr}{m b:Nat}{kb:Nat->Nat}{L:Int}{ds:List RD}(s:aT H H')(h:Jt CN K H n l m b kb L ds):Jt CN K H' n l m b kb L ds:=⟨h.nt.same s,h.ok,h.m20,h.h40,h.cu,h.eb⟩
def Uw (CN:Addr)(K:Frag):Sp:=fun vs H Q _=>∃(n l:Addr) (m b:Nat) (kb:Nat->Nat) (L:Int) (ds:List RD) (s g:Nat),vs=[.ref n,.int (s:Int),.int (g:Int)]/\Jt CN K H n l m b kb L ds/\s < m/\g < m/\
 ∀t zs hp v H',aT H H'->H' t=some (.lst zs)->Fqs K H' zs hp->hp.length=m->kB hp->Ovr (bw b (wd m ds)) hp->Ph m ds g s v->(∀p,p < m->Mq.val (hp.getD p (0,1))=v p)->Q (.ref t) H'
def Nl (CN:Addr)(K:Frag):Sp:=fun vs H Q _=>∃(n l:Addr) (m b:Nat) (kb:Nat->Nat) (L:Int) (ds:List RD) (x y:Nat),vs=[.ref n,.int (x:Int),.int (y:Int)]/\Jt CN K H n l m b kb L ds/\x < m/\y < m/\
 ∀r p v H',aT H H'->Fq K H' r p->Low p->Bd (bw b (wd m ds)+1) p->Ph m ds x y v->Mq.val p=v x - v y->Q (.ref r) H'
end L2
set_option exponentiation.threshold 700
namespace Mq
theorem Ij {T:Int}:∀{ps:List Q2},Pos ps->(∀p∈ps,p.2 ∣ T)->cU ps ∣ T:=fun {ps} hp hd=>by
 have:∀(l:List Q2) (L:Int),1<=L->L ∣ T->Pos l->(∀p∈l,p.2 ∣ T)->l.foldl (fun L p=>kZ L p.2) L ∣ T:=fun l=>by
  induction l with
  |nil=>intro L _ h _ _;exact h
  |cons p l ih=>intro L h h' q d;exact ih _ (jB h (q p (by simp))).1 (Av h (q p (by simp)) h' (d p (by simp))) (fun x hx=>q x (mem_cons_of_mem _ hx)) fun x hx=>d x (mem_cons_of_mem _ hx)
 exact this ps 1 (by lia) (Int.one_dvd _) hp hd
theorem Wd {p:Q2}{T z:Int}(l:Low p)(hT:0 < T)(h:val p*(T:Rat)=(z:Rat)):p.2 ∣ T/\p.1*T=z*p.2:=by
 have n2:=cO (show p.2≠0 by have:=l.pos;lia);have e:p.1*T=z*p.2:=by
  have h':(p.1:Rat)*(T:Rat)=(z:Rat)*(p.2:Rat):=by
   unfold val at h;rw[<- h];grind
  rw[<- Rat.intCast_mul,<- Rat.intCast_mul] at h';exact Rat.intCast_inj.mp h'
 refine⟨?_,e⟩;have c:Int.gcd p.2 p.1=1:=by
  have:=l.one;unfold gc at this;rw[Int.gcd_comm];lia
 have d:p.2 ∣ p.1*T:=⟨z,by rw[e,Int.mul_comm]⟩
 rw[<- Int.natAbs_dvd_natAbs] at d ⊢;rw[Int.natAbs_mul] at d;exact Nat.Coprime.dvd_of_dvd_mul_left (show Nat.Coprime p.2.natAbs p.1.natAbs from c) d
end Mq
namespace L2
open PySem PySem.Spec PyProof.Rows Shp
def cP (d:RD)(x y:Nat):Rat:=if d.1=.pc then dl d.2.1.toNat d.2.2.1.toNat x*dl d.2.1.toNat d.2.2.1.toNat y*(1 / Mq.val d.2.2.2) else 0
def lap:List RD->Nat->Nat->Rat
 | [],_,_=>0
 |d :: ds,x,y=>cP d x y+lap ds x y
theorem qY (x y:Nat):∀(as bs:List RD),lap (as++bs) x y=lap as x y+lap bs x y
 | [],bs=>by show lap bs x y=0+lap bs x y;grind
 |a :: as,bs=>by show cP a x y+lap (as++bs) x y=cP a x y+lap as x y+lap bs x y;rw[qY x y as bs];grind
theorem yQ (x y:Nat):∀{ds:List RD} (h:Nat),(∀d∈ds,d.1≠.ho)->eqM h ds x y=lap ds x y
 | [],_,_=>rfl
 |d :: ds,h,nh=>by
  show cM d h x y+eqM (h+cQ d.1) ds x y=cP d x y+lap ds x y;rw[yQ x y _ fun e he=>nh e (mem_cons_of_mem _ he)];have:=nh d (by simp);unfold cM cP
  cases hk:d.1 with
  |pc=>rw[if_pos rfl]
  |pu=>rw[if_neg (show ¬Kd.pu=Kd.pc by decide)]
  |ho=>exact absurd hk this
def fZ (m:Nat)(ds:List RD):Rat:=Mq.det (m - 1) fun i j=>lap ds (i+1) (j+1)
def PcB (d:RD):Prop:=Low d.2.2.2/\(d.1=.pc->0 < d.2.2.2.1/\d.2.2.2.1 < 2 ^ 31/\d.2.2.2.2<=15)
def gS:List RD->Int
 | []=>1
 |d :: ds=>(if d.1=.pc then d.2.2.2.1 else 1)*gS ds
theorem Og {d:RD}(h:PcB d):0 < (if d.1=.pc then d.2.2.2.1 else 1)/\(if d.1=.pc then d.2.2.2.1 else 1) < 2 ^ 31:=by
 by_cases hk:d.1=.pc
 ·rw[if_pos hk];exact⟨(h.2 hk).1,(h.2 hk).2.1⟩
 ·rw[if_neg hk];exact⟨by decide,by decide⟩
theorem qM:∀{ds:List RD},(∀d∈ds,PcB d)->0 < gS ds/\Mq.B (1+31*ds.length) (gS ds)
 | [],_=>⟨by decide,show (1:Nat) < 2 ^ (1+31*0) by decide⟩
 |d :: ds,h=>by
  obtain⟨a,b⟩:=qM fun e he=>h e (mem_cons_of_mem _ he);obtain⟨c,e⟩:=Og (h d (by simp));refine⟨Int.mul_pos c a,?_⟩;have:Mq.B 31 (if d.1=.pc then d.2.2.2.1 else 1):=by unfold Mq.B;lia
  exact(this.mul b).mono (by rw[length_cons];lia)
theorem Fh (s g x:Nat):dl s g x=0\/dl s g x=1\/dl s g x=-1:=by
 unfold dl
 by_cases h:s=x<;>by_cases k:g=x<;>simp only[h,k,if_true,if_false]<;>grind
theorem dl2 (s g x y:Nat):∃c:Int,dl s g x*dl s g y=(c:Rat)/\c.natAbs<=1:=by
 rcases Fh s g x with h | h | h<;>rcases Fh s g y with k | k | k<;>rw[h,k]
 ·exact⟨0,by grind,by decide⟩
 ·exact⟨0,by grind,by decide⟩
 ·exact⟨0,by grind,by decide⟩
 ·exact⟨0,by grind,by decide⟩
 ·exact⟨1,by grind,by decide⟩
 ·exact⟨-1,by grind,by decide⟩
 ·exact⟨0,by grind,by decide⟩
 ·exact⟨-1,by grind,by decide⟩
 ·exact⟨1,by grind,by decide⟩
theorem Zl {d:RD}(h:PcB d)(x y:Nat):∃z:Int,cP d x y*(((if d.1=.pc then d.2.2.2.1 else 1:Int)):Rat)=(z:Rat)/\z.natAbs<=15:=by
 unfold cP
 by_cases hk:d.1=.pc
 ·rw[if_pos hk,if_pos hk];obtain⟨c,e,hc⟩:=dl2 d.2.1.toNat d.2.2.1.toNat x y;obtain⟨l,h2⟩:=h;obtain⟨p0,_,p6⟩:=h2 hk;refine⟨c*d.2.2.2.2,?_,?_⟩
  ·rw[e,Rat.intCast_mul];have n1:=cO (show d.2.2.2.1≠0 by lia);have n2:=cO (show d.2.2.2.2≠0 by have:=l.pos;lia);unfold Mq.val;grind
  ·rw[Int.natAbs_mul];have:=l.pos
   calc c.natAbs*d.2.2.2.2.natAbs<=1*d.2.2.2.2.natAbs:=Nat.mul_le_mul_right _ hc
    _<=15:=by lia
 ·rw[if_neg hk,if_neg hk];exact⟨0,by grind,by decide⟩
theorem Gq (x y:Nat):∀{ds:List RD},(∀d∈ds,PcB d)->∃z:Int,lap ds x y*(gS ds:Rat)=(z:Rat)/\z.natAbs<=15*ds.length*(gS ds).natAbs
 | [],_=>⟨0,by show (0:Rat)*_=_;grind,by simp⟩
 |d :: ds,h=>by
  obtain⟨z,e,hz⟩:=Gq x y fun e he=>h e (mem_cons_of_mem _ he);obtain⟨w,f,hw⟩:=Zl (h d (by simp)) x y;obtain⟨t0,t1⟩:=Og (h d (by simp));have T0:=(qM fun e he=>h e (mem_cons_of_mem _ he)).1;show ∃z':Int,(cP d x y+lap ds x y)*(((if d.1=.pc then d.2.2.2.1 else 1)*gS ds:Int):Rat)=(z':Rat)/\z'.natAbs<=15*(ds.length+1)*((if d.1=.pc then d.2.2.2.1 else 1)*gS ds).natAbs;generalize (if d.1=.pc then d.2.2.2.1 else 1:Int)=t at *
  generalize gS ds=T at *
  refine⟨w*T+t*z,?_,?_⟩
  ·rw[Rat.intCast_mul,Rat.intCast_add,Rat.intCast_mul,Rat.intCast_mul,<- e,<- f];grind
  ·rw[Int.natAbs_mul];have a1:(w*T+t*z).natAbs<=w.natAbs*T.natAbs+t.natAbs*z.natAbs:=by
    have:=Int.natAbs_add_le (w*T) (t*z)
    rwa [Int.natAbs_mul,Int.natAbs_mul] at this
   have a2:w.natAbs*T.natAbs<=15*T.natAbs:=Nat.mul_le_mul_right _ hw;have a3:t.natAbs*z.natAbs<=t.natAbs*(15*ds.length*T.natAbs):=Nat.mul_le_mul_left _ hz;have a4:T.natAbs<=t.natAbs*T.natAbs:=Nat.le_mul_of_pos_left _ (by lia);have a5:15*(ds.length+1)*(t.natAbs*T.natAbs)=15*(t.natAbs*T.natAbs)+t.natAbs*(15*ds.length*T.natAbs):=by grind
   lia
theorem Zb {ds:List RD}{p:Q2}{x y:Nat}(h:∀d∈ds,PcB d)(h20:ds.length<=20)(l:Low p)(e:Mq.val p=lap ds x y):p.2 ∣ gS ds/\Bd 640 p/\p.1.natAbs<=300*p.2.natAbs:=by
 obtain⟨T0,TB⟩:=qM h;obtain⟨z,ez,hz⟩:=Gq x y h;rw[<- e] at ez;obtain⟨d,f⟩:=Mq.Wd l T0 ez;have le:p.2<=gS ds:=Int.le_of_dvd T0 d;have p1:=l.pos;have TB':Mq.B 630 (gS ds):=TB.mono (by lia);have b2:Mq.B 630 p.2:=TB'.le (by lia);have b1:p.1.natAbs<=300*p.2.natAbs:=by
  have hh:p.1.natAbs*(gS ds).natAbs<=(300*p.2.natAbs)*(gS ds).natAbs:=by
   have e1:p.1.natAbs*(gS ds).natAbs=z.natAbs*p.2.natAbs:=by rw[<- Int.natAbs_mul,f,Int.natAbs_mul]
   have e2:z.natAbs*p.2.natAbs<=15*ds.length*(gS ds).natAbs*p.2.natAbs:=Nat.mul_le_mul_right _ hz;have e3:15*ds.length*((gS ds).natAbs*p.2.natAbs)<=300*((gS ds).natAbs*p.2.natAbs):=Nat.mul_le_mul_right _ (by lia);have e4:(300*p.2.natAbs)*(gS ds).natAbs=300*((gS ds).natAbs*p.2.natAbs):=by grind
   have e5:15*ds.length*(gS ds).natAbs*p.2.natAbs=15*ds.length*((gS ds).natAbs*p.2.natAbs):=by grind
   lia
  exact Nat.le_of_mul_le_mul_right hh (by lia)
 refine⟨d,⟨?_,b2.mono (by lia)⟩,b1⟩;unfold Mq.B at b2 ⊢;have:(2:Nat) ^ 640=1024*2 ^ 630:=by rw[show 640=10+630 by rfl,Nat.pow_add]
 lia
structure Wx (X:List (List Q2)):Prop where
 p:dD X
 b:∀row∈X,(∀p∈row,Bd 640 p)/\row.length=X.length
 n:X.length<=4
 l:∀row∈X,Mq.B 640 (cU row)
 w:BdR 640 (X.map iw)
def vQ (K:Frag):Sp:=fun vs H Q _=>∃(g D:Addr) (us:List V) (X:List (List Q2)),vs=[.ref g]/\SqL K H g us/\Fmx K D H us X/\Wx X/\
 ∀a p H',aT H H'->Fq K H' a p->Low p->Bd 3400 p->Mq.val p=wgt X->Q (.ref a) H'
theorem qc3 {ds:List RD}{m:Nat}{X:List (List Q2)}{N:Nat}(h:∀d∈ds,PcB d)(h20:ds.length<=20)(hm:m<=5)(b:MxB X (m - 1) (m - 1) N)(v:∀i j,Mq.val (gQ X i j)=lap ds (i+1) (j+1)):Wx X/\wgt X=fZ m ds:=by
 have lX:=b.h;obtain⟨T0,TB⟩:=qM h;have TB':Mq.B 630 (gS ds):=TB.mono (by lia);have ent:∀row∈X,∀p∈row,p.2 ∣ gS ds/\Bd 640 p/\p.1.natAbs<=300*p.2.natAbs:=fun row hr p hp=>by
  obtain⟨i,hi⟩:=getElem?_of_mem hr;obtain⟨j,hj⟩:=getElem?_of_mem hp;have e:gQ X i j=p:=by
   unfold gQ;rw[getD_eq_getElem?_getD,getD_eq_getElem?_getD,hi];show (row[j]?).getD (0,1)=p;rw[hj];rfl
  exact Zb h h20 (b.l row hr p hp).1 (by rw[<- e];exact v i j)
 have pos:dD X:=fun row hr p hp=>(b.l row hr p hp).1.pos;have lc:∀row∈X,cU row<=gS ds:=fun row hr=>Int.le_of_dvd T0 (Mq.Ij (pos row hr) fun p hp=>(ent row hr p hp).1);have lg:∀row∈X,1<=cU row:=fun row hr=>oH (pos row hr);refine⟨⟨pos,fun row hr=>⟨fun p hp=>(ent row hr p hp).2.1,by rw[b.w row hr,lX]⟩,by lia,fun row hr=>?_,fun i x=>?_⟩,?_⟩
 ·have h1:=lc row hr;have h2:=lg row hr;exact(TB'.le (by lia)).mono (by lia)
 ·unfold Mq.ent
  by_cases hi:i < X.length
  ·rw[Cb hi];have e:X[i]?=some (X.getD i []):=by rw[getD_eq_getElem?_getD,getElem?_eq_getElem hi];rfl
   have mem:=mem_of_getElem? e;generalize X.getD i []=row at mem;unfold iw;rw[getD_eq_getElem?_getD,getElem?_map]
   cases hx:row[x]? with
   |none=>exact Nat.two_pow_pos _
   |some p=>
    show Mq.B 640 (uS (cU row) p);have mp:=mem_of_getElem? hx;obtain⟨k,hk⟩:=tS (pos row mem) p mp;have p1:=pos row mem p mp;have ek:Int.fdiv (cU row) p.2=k:=eK (by lia) (by rw[hk,Int.mul_comm]);have h1:=lc row mem;have h2:=lg row mem;have h3:=(ent row mem p mp).2.2;unfold uS;rw[ek];have h4:(p.1*k).natAbs<=300*(cU row).natAbs:=by
     rw[Int.natAbs_mul,hk,Int.natAbs_mul]
     calc p.1.natAbs*k.natAbs<=300*p.2.natAbs*k.natAbs:=Nat.mul_le_mul_right _ h3
      _=300*(k.natAbs*p.2.natAbs):=by grind
    unfold Mq.B at TB' ⊢;have:(2:Nat) ^ 640=1024*2 ^ 630:=by rw[show 640=10+630 by rfl,Nat.pow_add]
    lia
  ·rw[getD_eq_getElem?_getD (l:=X.map iw),getElem?_eq_none (by simp;lia)];exact Nat.two_pow_pos _
 ·unfold wgt fZ;rw[lX];exact bZ fun i j _ _=>by rw[<- v i j];rfl
def up (hi x:Nat):Nat:=if x < hi then x else x+1
def cut (lo hi:Nat)(L:Nat->Nat->Rat)(x y:Nat):Rat:=L (up hi x) (up hi y)+(if x=lo then L hi (up hi y) else 0)+(if y=lo then L (up hi x) hi else 0)+if x=lo/\y=lo then L hi hi else 0
theorem dc2 (L:Nat->Nat->Rat)(s:Rat):Mq.det 1 (fun i j=>L (i+1) (j+1)+s*(dl 0 1 (i+1)*dl 0 1 (j+1)))=Mq.det 1 (fun i j=>L (i+1) (j+1))+s*Mq.det 0 fun i j=>cut 0 1 L (i+1) (j+1):=by
 rw[Cp,Cp];simp[dl,Mq.det];grind
theorem dc3 {lo hi:Nat}(h:lo < hi)(hm:hi < 3)(L:Nat->Nat->Rat)(s:Rat):Mq.det 2 (fun i j=>L (i+1) (j+1)+s*(dl lo hi (i+1)*dl lo hi (j+1)))=Mq.det 2 (fun i j=>L (i+1) (j+1))+s*Mq.det 1 fun i j=>cut lo hi L (i+1) (j+1):=by
 rw[Ec,Ec,Cp];have:(lo=0/\hi=1)\/(lo=0/\hi=2)\/(lo=1/\hi=2):=by lia
 rcases this with ⟨rfl,rfl⟩ | ⟨rfl,rfl⟩ | ⟨rfl,rfl⟩<;>simp[dl,cut,up]<;>grind
theorem dc4 {lo hi:Nat}(h:lo < hi)(hm:hi < 4)(L:Nat->Nat->Rat)(s:Rat):Mq.det 3 (fun i j=>L (i+1) (j+1)+s*(dl lo hi (i+1)*dl lo hi (j+1)))=Mq.det 3 (fun i j=>L (i+1) (j+1))+s*Mq.det 2 fun i j=>cut lo hi L (i+1) (j+1):=by
 rw[Cs,Cs,Ec];have:(lo=0/\hi=1)\/(lo=0/\hi=2)\/(lo=1/\hi=2)\/(lo=0/\hi=3)\/(lo=1/\hi=3)\/(lo=2/\hi=3):=by lia
 rcases this with ⟨rfl,rfl⟩ | ⟨rfl,rfl⟩ | ⟨rfl,rfl⟩ | ⟨rfl,rfl⟩ | ⟨rfl,rfl⟩ | ⟨rfl,rfl⟩<;>simp[dl,cut,up]<;>grind
theorem dc5 {lo hi:Nat}(h:lo < hi)(hm:hi < 5)(L:Nat->Nat->Rat)(s:Rat):Mq.det 4 (fun i j=>L (i+1) (j+1)+s*(dl lo hi (i+1)*dl lo hi (j+1)))=Mq.det 4 (fun i j=>L (i+1) (j+1))+s*Mq.det 3 fun i j=>cut lo hi L (i+1) (j+1):=by
 rw[Xj,Xj,Cs];unfold Mq.d3;have:(lo=0/\hi=1)\/(lo=0/\hi=2)\/(lo=1/\hi=2)\/(lo=0/\hi=3)\/(lo=1/\hi=3)\/(lo=2/\hi=3)\/(lo=0/\hi=4)\/(lo=1/\hi=4)\/(lo=2/\hi=4)\/(lo=3/\hi=4):=by lia
 rcases this with ⟨rfl,rfl⟩ | ⟨rfl,rfl⟩ | ⟨rfl,rfl⟩ | ⟨rfl,rfl⟩ | ⟨rfl,rfl⟩ | ⟨rfl,rfl⟩ | ⟨rfl,rfl⟩ | ⟨rfl,rfl⟩ | ⟨rfl,rfl⟩ | ⟨rfl,rfl⟩<;>simp[dl,cut,up]<;>grind
theorem dc {m lo hi:Nat}(h5:m<=5)(h:lo < hi)(hm:hi < m)(L:Nat->Nat->Rat)(s:Rat):Mq.det (m - 1) (fun i j=>L (i+1) (j+1)+s*(dl lo hi (i+1)*dl lo hi (j+1)))=Mq.det (m - 1) (fun i j=>L (i+1) (j+1))+s*Mq.det (m - 1 - 1) fun i j=>cut lo hi L (i+1) (j+1):=by
 have:m=2\/m=3\/m=4\/m=5:=by lia
 rcases this with rfl | rfl | rfl | rfl
 ·have h1:hi=1:=by lia
  have h0:lo=0:=by lia
  subst h1;subst h0;exact dc2 L s
 ·exact dc3 h hm L s
 ·exact dc4 h hm L s
 ·exact dc5 h hm L s
def cal (lo hi x:Int):Int:=if x=hi then lo else if hi < x then x - 1 else x
def one (lo hi:Int)(d:RD):RD:=(d.1,cal lo hi d.2.1,cal lo hi d.2.2.1,d.2.2.2)
theorem yX {lo hi x m:Int}(l0:0<=lo)(h:lo < hi)(hm:hi < m)(x0:0<=x)(x1:x < m):0<=cal lo hi x/\cal lo hi x < m - 1:=by
 unfold cal;split
 ·lia
 ·split<;>lia
theorem Fb {lo hi s:Int}{x:Nat}(l0:0<=lo)(h:lo < hi)(s0:0<=s):((if (cal lo hi s).toNat=x then 1 else 0:Rat))=(if s.toNat=up hi.toNat x then 1 else 0)+if x=lo.toNat then (if s.toNat=hi.toNat then 1 else 0) else 0:=by
 unfold cal up
 by_cases c1:s=hi
 ·rw[if_pos c1]
  by_cases c2:x=lo.toNat
  ·rw[if_pos c2.symm,if_pos c2,if_neg (by split<;>lia),if_pos (by lia)];grind
  ·rw[if_neg (Ne.symm c2),if_neg c2,if_neg (by split<;>lia)];grind
 ·rw[if_neg c1];have z:(if x=lo.toNat then (if s.toNat=hi.toNat then 1 else 0) else 0:Rat)=0:=by
   rw[if_neg (show ¬s.toNat=hi.toNat by lia)];split<;>rfl
  rw[z]
  by_cases c2:hi < s
  ·rw[if_pos c2]
   by_cases c3:(s - 1).toNat=x
   ·rw[if_pos c3,if_pos (by split<;>lia)];grind
   ·rw[if_neg c3,if_neg (by split<;>lia)];grind
  ·rw[if_neg c2]
   by_cases c3:s.toNat=x
   ·rw[if_pos c3,if_pos (by split<;>lia)];grind
   ·rw[if_neg c3,if_neg (by split<;>lia)];grind
theorem Lk {lo hi s g:Int}(l0:0<=lo)(h:lo < hi)(s0:0<=s)(g0:0<=g)(x:Nat):dl (cal lo hi s).toNat (cal lo hi g).toNat x=dl s.toNat g.toNat (up hi.toNat x)+if x=lo.toNat then dl s.toNat g.toNat hi.toNat else 0:=by
 unfold dl;rw[Fb l0 h s0,Fb l0 h g0]
 by_cases c:x=lo.toNat
 ·rw[if_pos c,if_pos c,if_pos c];grind
 ·rw[if_neg c,if_neg c,if_neg c];grind
theorem Ys {lo hi:Int}{d:RD}(l0:0<=lo)(h:lo < hi)(s0:0<=d.2.1)(g0:0<=d.2.2.1)(x y:Nat):cP (one lo hi d) x y=cut lo.toNat hi.toNat (cP d) x y:=by
 unfold cut cP one
 by_cases hk:d.1=.pc
 ·simp only[hk,if_true];rw[Lk l0 h s0 g0,Lk l0 h s0 g0]
  by_cases c1:x=lo.toNat<;>by_cases c2:y=lo.toNat<;>simp only[c1,c2,if_true,if_false,and_self,and_true,true_and,and_false,false_and]<;>grind
 ·simp only[hk,if_false];simp;grind
theorem Fo {lo hi:Int}(l0:0<=lo)(h:lo < hi)(x y:Nat):∀{ds:List RD},(∀d∈ds,0<=d.2.1/\0<=d.2.2.1)->lap (ds.map (one lo hi)) x y=cut lo.toNat hi.toNat (lap ds) x y
 | [],_=>by unfold cut lap;simp[lap];grind
 |d :: ds,hd=>by
  show cP (one lo hi d) x y+lap (ds.map (one lo hi)) x y=_;rw[Fo l0 h x y fun e he=>hd e (mem_cons_of_mem _ he),Ys l0 h (hd d (by simp)).1 (hd d (by simp)).2];unfold cut;show _=cP d _ _+lap ds _ _+(if x=lo.toNat then cP d _ _+lap ds _ _ else 0)+(if y=lo.toNat then cP d _ _+lap ds _ _ else 0)+if x=lo.toNat/\y=lo.toNat then cP d _ _+lap ds _ _ else 0
  by_cases c1:x=lo.toNat<;>by_cases c2:y=lo.toNat<;>simp only[c1,c2,if_true,if_false,and_self,and_true,true_and,and_false,false_and]<;>grind
theorem Go (s g x:Nat):dl s g x=- dl g s x:=by unfold dl;grind
theorem Pu {m w:Nat}{ds:List RD}{i j:Int}{p:Q2}(h5:m<=5)(hw:ds[w]?=some (.pc,i,j,p))(ne:i≠j)(hd:∀d∈ds,cH (m:Int) d.2.1 d.2.2.1) :
  fZ m ds=fZ m (ds.take w++ds.drop (w+1))+fZ (m - 1) ((ds.take w++ds.drop (w+1)).map (one (min i j) (max i j))) / Mq.val p:=by
 have hl:=(List.getElem?_eq_some_iff.mp hw).1;have es:ds=ds.take w++((.pc,i,j,p) :: ds.drop (w+1)):=by
  have e:ds[w]=(.pc,i,j,p):=(List.getElem?_eq_some_iff.mp hw).2;rw[<- e,<- drop_eq_getElem_cons hl,take_append_drop]
 obtain⟨i0,i1,j0,j1⟩:cH (m:Int) i j:=hd _ (mem_of_getElem? hw);have hlt:min i j < max i j:=by lia
 have l0:0<=min i j:=by lia
 have hm:(max i j).toNat < m:=by lia
 have nn:∀d∈ds.take w++ds.drop (w+1),0<=d.2.1/\0<=d.2.2.1:=fun d h=>by
  have:d∈ds:=by
   rcases mem_append.mp h with z | z
   ·exact mem_of_mem_take z
   ·exact mem_of_mem_drop z
  exact⟨(hd d this).1,(hd d this).2.2.1⟩
 have e1:∀x y,lap ds x y=lap (ds.take w++ds.drop (w+1)) x y+(1 / Mq.val p)*(dl (min i j).toNat (max i j).toNat x*dl (min i j).toNat (max i j).toNat y):=fun x y=>by
  conv=>lhs;rw[es]
  rw[qY,qY];show _+((if Kd.pc=Kd.pc then dl i.toNat j.toNat x*dl i.toNat j.toNat y*(1 / Mq.val p) else 0)+_)=_;rw[if_pos rfl]
  by_cases c:i<=j
  ·rw[show min i j=i by lia,show max i j=j by lia];grind
  ·rw[show min i j=j by lia,show max i j=i by lia,Go i.toNat j.toNat x,Go i.toNat j.toNat y];grind
 unfold fZ;rw[show (fun a b=>lap ds (a+1) (b+1))=fun a b=>lap (ds.take w++ds.drop (w+1)) (a+1) (b+1)+(1 / Mq.val p)*(dl (min i j).toNat (max i j).toNat (a+1)*dl (min i j).toNat (max i j).toNat (b+1)) from funext fun a=>funext fun b=>e1 _ _];rw[dc h5 (show (min i j).toNat < (max i j).toNat by lia) hm (lap (ds.take w++ds.drop (w+1))) (1 / Mq.val p)];rw[show (fun a b=>lap ((ds.take w++ds.drop (w+1)).map (one (min i j) (max i j))) (a+1) (b+1))=fun a b=>cut (min i j).toNat (max i j).toNat (lap (ds.take w++ds.drop (w+1))) (a+1) (b+1) from funext fun a=>funext fun b=>Fo l0 hlt _ _ nn];generalize Mq.det (m - 1 - 1) _=u;grind
theorem zR (x y:Nat):∀{ds:List RD},(∀d∈ds,d.1=.pc->d.2.1=d.2.2.1)->lap ds x y=0
 | [],_=>rfl
 |d :: ds,h=>by
  show cP d x y+lap ds x y=0;rw[zR x y fun e he=>h e (mem_cons_of_mem _ he)];unfold cP
  by_cases hk:d.1=.pc
  ·rw[if_pos hk,h d (by simp) hk];have:dl d.2.2.1.toNat d.2.2.1.toNat x=0:=by unfold dl;grind
   rw[this];grind
  ·rw[if_neg hk];grind
theorem Hg {m:Nat}{ds:List RD}(h1:1<=m)(h5:m<=5)(h:∀d∈ds,d.1=.pc->d.2.1=d.2.2.1):fZ m ds=if m=1 then 1 else 0:=by
 unfold fZ;rw[show (fun a b=>lap ds (a+1) (b+1))=fun _ _=>0 from funext fun a=>funext fun b=>zR _ _ h];have:m=1\/m=2\/m=3\/m=4\/m=5:=by lia
 rcases this with rfl | rfl | rfl | rfl | rfl
 ·rw[if_pos rfl];rfl
 ·rw[if_neg (by decide),Cp]
 ·rw[if_neg (by decide),Ec];grind
 ·rw[if_neg (by decide),Cs];grind
 ·rw[if_neg (by decide),Xj];unfold Mq.d3;grind
def qg9 (acc:List Int)(x:Int):List Int:=if x∈acc then acc else acc++[x]
def ddl (ns:List Int):List Int:=ns.foldl qg9 []
theorem oE (ns:List Int)(x:Int):ddl (ns++[x])=if x∈ddl ns then ddl ns else ddl ns++[x]:=by
 unfold ddl;rw[foldl_append];rfl
theorem rQ {P:List Int->Prop}(h0:P [])(h1:∀l x,P l->P (l++[x]))(l:List Int):P l:=by
 have:∀n (l:List Int),l.length=n->P l:=by
  intro n
  induction n with
  |zero=>intro l h;rw[length_eq_zero_iff.mp h];exact h0
  |succ n ih=>
   intro l h;have hn:l≠[]:=by intro z;rw[z] at h;cases h
   rw[<- dropLast_concat_getLast hn];exact h1 _ _ (ih _ (by rw[length_dropLast,h];rfl))
 exact this _ l rfl
theorem nC (ns:List Int):∀x,x∈ddl ns↔x∈ns:=by
 refine rQ (P:=fun ns=>∀x,x∈ddl ns↔x∈ns) (fun x=>Iff.rfl) (fun l y ih x=>?_) ns;rw[oE,mem_append];split
 ·rename_i h
  rw[ih];refine⟨.inl,fun z=>z.elim id fun z=>?_⟩;have:x=y:=by simpa using z
  rw[this];exact(ih y).mp h
 ·rw[mem_append,ih]
theorem oS (ns:List Int):(ddl ns).Nodup:=by
 refine rQ (P:=fun ns=>(ddl ns).Nodup) nodup_nil (fun l y ih=>?_) ns;rw[oE];split
 ·exact ih
 ·rename_i h
  refine nodup_append.mpr ⟨ih,by simp,fun a ha b hb z=>?_⟩;have:b=y:=by simpa using hb
  exact h (by rw[<- this,<- z];exact ha)
section
variable (sg:Nat->Nat × Nat)
def okJ (M:List Int)(n:Nat):Bool:=decide (M.getD (sg n).1 0≠M.getD (sg n).2 0)
def jnN (M:List Int)(n:Nat):List Int:=jn M (sg n).1 (sg n).2
def cX (n:Nat)(ns:List Nat):Bool:=match ns.getLast? with
 |none=>true
 |some b=>decide (b < n)
def iA (ps:List Nat)(x:List Nat × List Int):List (List Nat × List Int):=(ps.filter fun n=>cX n x.1 && okJ sg x.2 n).map fun n=>(x.1++[n],jnN sg x.2 n)
def dZ (ps:List Nat)(m:Nat):Nat->List (List Nat × List Int)
 |0=>[([],eJ m)]
 |t+1=>(dZ ps m t).flatMap (iA sg ps)
def jf (m:Nat)(ns:List Nat):List Int:=ns.foldl (jnN sg) (eJ m)
end
variable {sg:Nat->Nat × Nat} {c:Nat} {P:List Int->Bool}
theorem Xn (M:List Int)(a b:Nat):(jn M a b).length=M.length:=by unfold jn;rw[length_map]
theorem Gs {M:List Int}{a:Nat}(h:a < M.length):M.getD a 0∈M:=by
 rw[getD_eq_getElem?_getD,getElem?_eq_getElem h];exact getElem_mem h
theorem Wp {M:List Int}{a b:Nat}(ha:a < M.length)(hb:b < M.length)(h:M.getD a 0≠M.getD b 0):(ddl (jn M a b)).length+1=(ddl M).length:=by
 have ma:=Gs ha;have mb:=Gs hb;have hp:(ddl (jn M a b)).Perm ((ddl M).erase (M.getD b 0)):=by
  refine(perm_ext_iff_of_nodup (oS _) ((oS M).erase _)).mpr fun x=>?_;rw[nC,(oS M).mem_erase_iff,nC];unfold jn;rw[mem_map];constructor
  ·rintro ⟨y,hy,e⟩
   by_cases c:y=M.getD b 0
   ·rw[if_pos c] at e;rw[<- e];exact⟨h,ma⟩
   ·rw[if_neg c] at e;rw[<- e];exact⟨c,hy⟩
  ·rintro ⟨h1,h2⟩;exact⟨x,h2,by rw[if_neg h1]⟩
 have:=hp.length_eq;have mem:M.getD b 0∈ddl M:=(nC M _).mpr mb;rw[length_erase_of_mem mem] at this;have:=length_pos_of_mem mem;lia
def oV (sg:Nat->Nat × Nat)(m:Nat)(q:List Nat):Prop:=∀n∈q,(sg n).1 < m/\(sg n).2 < m
theorem qe1 {m:Nat}{M:List Int}{n:Nat}(hM:M.length=m)(h1:(sg n).1 < m)(h2:(sg n).2 < m)(h:okJ sg M n=true):(ddl (jnN sg M n)).length+1=(ddl M).length:=Wp (by lia) (by lia) (by simpa[okJ] using h)
theorem pW (n b:Nat)(ns:List Nat):cX n (ns++[b])=decide (b < n):=by unfold cX;rw[getLast?_concat]
theorem Iz {n n':Nat}{ns:List Nat}(h:cX n ns=true)(l:n < n'):cX n' ns=true:=by
 unfold cX at *
 split
 ·rfl
 ·rename_i b e
  rw[e] at h;have h:b < n:=by simpa using h
  exact decide_eq_true (by lia)
theorem zT (m:Nat):(ddl (eJ m)).length=m:=by
 have h:∀n,ddl ((List.range n).map fun (i:Nat)=>(i:Int))=(List.range n).map fun (i:Nat)=>(i:Int):=fun n=>by
  induction n with
  |zero=>rfl
  |succ n ih=>
   rw[range_succ,map_append,map_cons,map_nil,oE,ih,if_neg];intro z;obtain⟨i,hi,e⟩:=mem_map.mp z;have:=mem_range.mp hi;lia
 unfold eJ;rw[h,length_map,length_range]
theorem Ob (m:Nat):(eJ m).length=m:=by unfold eJ;simp
structure Fr (sg:Nat->Nat × Nat) (ps:List Nat) (m t:Nat) (x:List Nat × List Int):Prop where
 l:x.1.length=t
 r:x.1.Pairwise (· < ·)
 i:∀n∈x.1,n∈ps
 e:x.2=jf sg m x.1
 o:∀i n,x.1[i]?=some n->okJ sg (jf sg m (x.1.take i)) n=true
theorem zG (m:Nat)(ns:List Nat)(n:Nat):jf sg m (ns++[n])=jnN sg (jf sg m ns) n:=by unfold jf;rw[foldl_append];rfl
theorem oT (m:Nat)(ns:List Nat):(jf sg m ns).length=m:=by
 have:∀(ns:List Nat) (M:List Int),(ns.foldl (jnN sg) M).length=M.length:=by
  intro ns
  induction ns with
  |nil=>intro M;rfl
  |cons n ns ih=>intro M;rw[foldl_cons,ih];unfold jnN;rw[Xn]
 unfold jf;rw[this,Ob]
theorem Ie {ns:List Nat}{n:Nat}(h:ns.Pairwise (· < ·))(b:cX n ns=true):(ns++[n]).Pairwise (· < ·):=by
 refine pairwise_append.mpr ⟨h,pairwise_singleton _ _,fun a ha y hy=>?_⟩;have ey:y=n:=by simpa using hy
 subst ey;unfold cX at b
 cases e:ns.getLast? with
 |none=>rw[getLast?_eq_none_iff.mp e] at ha;cases ha
 |some z=>
  rw[e] at b;have b:z < y:=by simpa using b
  obtain⟨pre,rfl⟩:∃pre,ns=pre++[z]:=by
   have:=getLast?_eq_some_iff.mp e;exact this
  rcases mem_append.mp ha with q | q
  ·have:=(pairwise_append.mp h).2.2 a q z (by simp);lia
  ·have:a=z:=by simpa using q
   lia
theorem jZ {ps:List Nat}{m:Nat}:∀{t:Nat} {x:List Nat × List Int},x∈dZ sg ps m t->Fr sg ps m t x
 |0,x,h=>by
  have:x=([],eJ m):=by simpa[dZ] using h
  subst this;exact⟨rfl,Pairwise.nil,(fun n hn=>by cases hn),rfl,(fun i n h=>by simp at h)⟩
 |t+1,x,h=>by
  obtain⟨y,hy,hx⟩:=mem_flatMap.mp (show x∈(dZ sg ps m t).flatMap (iA sg ps) from h);obtain⟨n,hn,rfl⟩:=mem_map.mp hx;have F:=jZ hy;obtain⟨h1,h2⟩:=mem_filter.mp hn;rw[Bool.and_eq_true] at h2;refine⟨by rw[List.length_append,F.l];rfl,Ie F.r h2.1,fun z hz=>?_,?_,fun i z hz=>?_⟩
  ·rcases mem_append.mp hz with q | q
   ·exact F.i z q
   ·have:z=n:=by simpa using q
    rw[this];exact h1
  ·rw[zG,<- F.e]
  ·have hz:(y.1++[n])[i]?=some z:=hz;show okJ sg (jf sg m ((y.1++[n]).take i)) z=true
   by_cases c:i < y.1.length
   ·rw[getElem?_append_left c] at hz;rw[take_append_of_le_length (by lia)];exact F.o i z hz
   ·have hi:i=y.1.length:=by
     have:=(List.getElem?_eq_some_iff.mp hz).1;rw[List.length_append] at this;simp only[length_cons,length_nil] at this;lia
    subst hi;rw[getElem?_append_right (Nat.le_refl _),Nat.sub_self] at hz
    cases hz
    rw[take_left,<- F.e];exact h2.2
def Lx (a b:List Nat):Prop:=∃(j p q:Nat),a[j]?=some p/\b[j]?=some q/\(∀i,i < j->a[i]?=b[i]?)/\p < q
theorem Lx.snoc {a b:List Nat}(h:Lx a b)(x y:Nat):Lx (a++[x]) (b++[y]):=by
 obtain⟨j,p,q,h1,h2,h3,h4⟩:=h;have l1:=(List.getElem?_eq_some_iff.mp h1).1;have l2:=(List.getElem?_eq_some_iff.mp h2).1;exact⟨j,p,q,by rw[getElem?_append_left l1];exact h1,by rw[getElem?_append_left l2];exact h2,fun i hi=>by rw[getElem?_append_left (by lia),getElem?_append_left (by lia)];exact h3 i hi,h4⟩
theorem Lx.last {a:List Nat}{x y:Nat}(h:x < y):Lx (a++[x]) (a++[y]):=⟨a.length,x,y,by rw[getElem?_append_right (Nat.le_refl _),Nat.sub_self];rfl,by rw[getElem?_append_right (Nat.le_refl _),Nat.sub_self];rfl,fun i hi=>by rw[getElem?_append_left hi,getElem?_append_left hi],h⟩
theorem Kr {ps:List Nat}(hp:ps.Pairwise (· < ·)){m:Nat}:∀t:Nat,(dZ sg ps m t).Pairwise fun x y=>Lx x.1 y.1
 |0=>pairwise_singleton _ _
 |t+1=>by
  show ((dZ sg ps m t).flatMap (iA sg ps)).Pairwise _;refine pairwise_flatMap.mpr ⟨fun x _=>?_,(Kr hp t).imp fun {x y} h a ha b hb=>?_⟩
  ·unfold iA;exact pairwise_map.mpr ((hp.filter _).imp fun h=>Lx.last h)
  ·obtain⟨n,_,rfl⟩:=mem_map.mp ha;obtain⟨n',_,rfl⟩:=mem_map.mp hb;exact h.snoc _ _
def zi (ns:List Nat):List Int:=ns.map fun (n:Nat)=>(n:Int)
theorem gZ (ns:List Nat):(zi ns).length=ns.length:=by unfold zi;simp
theorem Cr {ns:List Nat}{i n:Nat}(h:ns[i]?=some n):(zi ns)[i]?=some (n:Int):=by unfold zi;rw[getElem?_map,h];rfl
theorem qR (ns:List Nat)(n:Nat):zi (ns++[n])=zi ns++[(n:Int)]:=by unfold zi;simp
def isP (ds:List RD)(i:Nat):Bool:=match ds[i]? with
 |some d=>decide (d.1=.pc)
 |none=>false
def pcs (ds:List RD):List Nat:=(List.range ds.length).filter (isP ds)
def sgF (ds:List RD)(n:Nat):Nat × Nat:=match ds[n]? with
 |some d=>(d.2.1.toNat,d.2.2.1.toNat)
 |none=>(0,0)
theorem kF {ds:List RD}{i:Nat}{d:RD}(h:ds[i]?=some d):isP ds i=decide (d.1=.pc):=by unfold isP;rw[h]
theorem kH {ds:List RD}{i:Nat}{d:RD}(h:ds[i]?=some d):sgF ds i=(d.2.1.toNat,d.2.2.1.toNat):=by unfold sgF;rw[h]
theorem tW (ds:List RD):(pcs ds).Pairwise (· < ·):=Pairwise.filter _ pairwise_lt_range
theorem oP {ds:List RD}{n:Nat}(h:n∈pcs ds):∃d,ds[n]?=some d/\d.1=.pc:=by
 obtain⟨h1,h2⟩:=mem_filter.mp h;have hn:=mem_range.mp h1;have e:=getElem?_eq_getElem hn;rw[kF e] at h2;exact⟨_,e,by simpa using h2⟩
theorem Ka {ds:List RD}{m:Nat}(pt:∀d∈ds,cH (m:Int) d.2.1 d.2.2.1):oV (sgF ds) m (pcs ds):=fun n hn=>by
 obtain⟨d,e,_⟩:=oP hn;obtain⟨a,b,c,d'⟩:=pt d (mem_of_getElem? e);rw[kH e];exact⟨show d.2.1.toNat < m by lia,show d.2.2.1.toNat < m by lia⟩
theorem Ey (ds:List RD):(pcs ds).length<=ds.length:=by
 unfold pcs;refine Nat.le_trans (length_filter_le _ _) ?_;simp
structure FsH (K:Frag) (H0:Hp) (D:Addr) (H:Hp) (zs:List V) (F:List (List Nat × List Int)):Prop where
 l:zs.length=F.length
 r:∀(i:Nat) (x:V) (f:List Nat × List Int),zs[i]?=some x->F[i]?=some f->∃(t a b:Addr),x=.ref t/\SqT K H t [.ref a,.ref b]/\H a=some (.lst ((zi f.1).map V.int))/\H b=some (.lst (f.2.map V.int))/\H0 a=none/\a≠D/\b≠D
theorem FsH.nil {K:Frag}{H0 H:Hp}{D:Addr}:FsH K H0 D H [] []:=⟨rfl,fun i x f h=>by simp at h⟩
theorem FsH.same {K:Frag}{H0 H H':Hp}{D:Addr}{zs:List V}{F:List (List Nat × List Int)}(s:aT H H')(h:FsH K H0 D H zs F):FsH K H0 D H' zs F:=⟨h.l,fun i x f h1 h2=>let ⟨t,a,b,e,e1,e2,e3,n⟩:=h.r i x f h1 h2;⟨t,a,b,e,s.seqT e1,s _ _ e2,s _ _ e3,n⟩⟩
theorem FsH.from0 {K:Frag}{H0 H0' H:Hp}{D:Addr}{zs:List V}{F:List (List Nat × List Int)}(f:FsH K H0 D H zs F)(h:∀a,H0 a=none->H0' a=none):FsH K H0' D H zs F:=⟨f.l,fun i x f' h1 h2=>let ⟨t,a,b,e,e1,e2,e3,n,m⟩:=f.r i x f' h1 h2;⟨t,a,b,e,e1,e2,e3,h a n,m⟩⟩
theorem FsH.upd {K:Frag}{H0 H:Hp}{D:Addr}{zs:List V}{F:List (List Nat × List Int)}{ys:List V}{o:HO}(f:FsH K H0 D H zs F)(hD:H D=some (.lst ys)):FsH K H0 D (upd H D o) zs F:=⟨f.l,fun i x f' h1 h2=>by
 obtain⟨t,a,b,e,e1,e2,e3,n,na,nb⟩:=f.r i x f' h1 h2;exact⟨t,a,b,e,SqT.upd e1 hD,by rw[aW na];exact e2,by rw[aW nb];exact e3,n,na,nb⟩⟩
theorem FsH.snoc {K:Frag}{H0 H:Hp}{D:Addr}{zs:List V}{F:List (List Nat × List Int)}{t a b:Addr}{f':List Nat × List Int}(f:FsH K H0 D H zs F)(ht:SqT K H t [.ref a,.ref b])(ha:H a=some (.lst ((zi f'.1).map V.int)))(hb:H b=some (.lst (f'.2.map V.int)))(n:H0 a=none)(na:a≠D)(nb:b≠D):FsH K H0 D H (zs++[.ref t]) (F++[f']):=by
 refine⟨by rw[List.length_append,List.length_append,f.l];rfl,fun i x g h1 h2=>?_⟩;have l:=f.l
 by_cases c:i < zs.length
 ·rw[getElem?_append_left c] at h1;rw[getElem?_append_left (by lia)] at h2;exact f.r i x g h1 h2
 ·have hi:i=zs.length:=by
   have:=(List.getElem?_eq_some_iff.mp h1).1;rw[List.length_append] at this;simp only[length_cons,length_nil] at this;lia
  subst hi;rw[getElem?_append_right (Nat.le_refl _),Nat.sub_self] at h1;rw[getElem?_append_right (by lia),show zs.length - F.length=0 by lia] at h2
  cases h1
  cases h2
  exact⟨t,a,b,rfl,ht,ha,hb,n,na,nb⟩
theorem sK (sg:Nat->Nat × Nat)(ps:List Nat)(m:Nat):∀t,(dZ sg ps m t).length<=ps.length ^ t
 |0=>Nat.le_refl 1
 |t+1=>by
  show ((dZ sg ps m t).flatMap (iA sg ps)).length<=_;have h:∀l:List (List Nat × List Int),(l.flatMap (iA sg ps)).length<=l.length*ps.length:=by
   intro l
   induction l with
   |nil=>simp
   |cons x l ih=>
    rw[flatMap_cons,List.length_append,length_cons,Nat.succ_mul];have:(iA sg ps x).length<=ps.length:=by unfold iA;rw[length_map];exact length_filter_le _ _
    lia
  refine Nat.le_trans (h _) ?_;rw[Nat.pow_succ];exact Nat.mul_le_mul_right _ (sK sg ps m t)
abbrev Jn (M:List Int)(d:RD):Prop:=d.1=.pc/\M.getD d.2.1.toNat 0≠M.getD d.2.2.1.toNat 0
def xw (P:List Int->Bool):Nat->List RD->List Int->Rat
 |0,_,M=>if P M then 1 else 0
 |_+1,[],_=>0
 |t+1,d :: q,M=>(if Jn M d then 1 / Mq.val d.2.2.2*xw P t q (jn M d.2.1.toNat d.2.2.1.toNat) else 0)+xw P (t+1) q M
section
variable {P:List Int->Bool} {m:Nat}
theorem mC (q:List RD)(M:List Int):xw P 0 q M=if P M then 1 else 0:=by cases q<;>rfl
theorem oU {M:List Int}{s g p:Nat}(h:p < M.length):(jn M s g).getD p 0=if M.getD p 0=M.getD g 0 then M.getD s 0 else M.getD p 0:=by
 unfold jn;rw[Bp h]
theorem Qg (M:List Int)(a b:Nat):(jn M a b).length=M.length:=by unfold jn;rw[length_map]
def Rl (m:Nat)(lo hi:Int)(M N:List Int):Prop:=M.length=m/\N.length+1=m/\∀p p':Nat,p < m->p' < m->(M.getD p 0=M.getD p' 0↔N.getD (cal lo hi p).toNat 0=N.getD (cal lo hi p').toNat 0)
theorem Rl.jn {lo hi:Int}{M N:List Int}{s g:Nat}(l0:0<=lo)(h:lo < hi)(hm:hi < m)(r:Rl m lo hi M N)(hs:s < m)(hg:g < m):Rl m lo hi (jn M s g) (jn N (cal lo hi s).toNat (cal lo hi g).toNat):=by
 obtain⟨lM,lN,e⟩:=r;refine⟨by rw[Qg,lM],by rw[Qg,lN],fun p p' hp hp'=>?_⟩;have c:∀q:Nat,q < m->(cal lo hi q).toNat < N.length:=fun q hq=>by
  have:=yX (x:=(q:Int)) (m:=(m:Int)) l0 h hm (by lia) (by lia);lia
 rw[oU (by lia),oU (by lia),oU (c p hp),oU (c p' hp')];have e1:=e p g hp hg;have e2:=e p' g hp' hg;have e3:=e s p' hs hp';have e4:=e p s hp hs;have e5:=e p p' hp hp';have e6:=e s g hs hg
 by_cases a:M.getD p 0=M.getD g 0
 ·rw[if_pos a,if_pos (e1.mp a)]
  by_cases b:M.getD p' 0=M.getD g 0
  ·rw[if_pos b,if_pos (e2.mp b)];exact⟨fun _=>rfl,fun _=>rfl⟩
  ·rw[if_neg b,if_neg fun z=>b (e2.mpr z)];exact e3
 ·rw[if_neg a,if_neg fun z=>a (e1.mpr z)]
  by_cases b:M.getD p' 0=M.getD g 0
  ·rw[if_pos b,if_pos (e2.mp b)];exact e4
  ·rw[if_neg b,if_neg fun z=>b (e2.mpr z)];exact e5
theorem Dp {lo hi:Int}(l0:0<=lo)(h:lo < hi)(hm:hi < m):∀(q:List RD) (t:Nat) (M N:List Int),Rl m lo hi M N->(∀d∈q,cH (m:Int) d.2.1 d.2.2.1)->xw (fun _=>true) t q M=xw (fun _=>true) t (q.map (one lo hi)) N
 |q,0,M,N,_,_=>by rw[mC,mC]
 | [],t+1,M,N,_,_=>rfl
 |d :: q,t+1,M,N,r,pt=>by
  obtain⟨i0,i1,j0,j1⟩:=pt d (mem_cons_self ..);have ptq:=fun e he=>pt e (mem_cons_of_mem _ he);have ih:=Dp l0 h hm q (t+1) M N r ptq;have rj:=r.jn (s:=d.2.1.toNat) (g:=d.2.2.1.toNat) l0 h hm (by lia) (by lia);rw[Int.toNat_of_nonneg i0,Int.toNat_of_nonneg j0] at rj;have ij:=Dp l0 h hm q t _ _ rj ptq;have ee:=r.2.2 d.2.1.toNat d.2.2.1.toNat (by lia) (by lia);rw[Int.toNat_of_nonneg i0,Int.toNat_of_nonneg j0] at ee;show (if Jn M d then _ else 0)+_=(if Jn N (one lo hi d) then 1 / Mq.val d.2.2.2*xw _ t (q.map (one lo hi)) (L2.jn N (cal lo hi d.2.1).toNat (cal lo hi d.2.2.1).toNat) else 0)+xw _ (t+1) (q.map (one lo hi)) N;rw[ih,ij]
  by_cases c:Jn M d
  ·rw[if_pos c,if_pos (show Jn N (one lo hi d) from ⟨c.1,fun z=>c.2 (ee.mpr z)⟩)]
  ·rw[if_neg c,if_neg fun z:Jn N (one lo hi d)=>c ⟨z.1,fun y=>z.2 (ee.mp y)⟩]
theorem gG {p:Nat}(h:p < m):(eJ m).getD p 0=(p:Int):=by
 unfold eJ;rw[getD_eq_getElem?_getD,getElem?_map,getElem?_range h];rfl
theorem qW (m:Nat):(eJ m).length=m:=by unfold eJ;simp
theorem Kx {i j:Int}(i0:0<=i)(i1:i < m)(j0:0<=j)(j1:j < m)(ne:i≠j):Rl m (min i j) (max i j) (jn (eJ m) i.toNat j.toNat) (eJ (m - 1)):=by
 refine⟨by rw[Qg,qW],by rw[qW];lia,fun p p' hp hp'=>?_⟩;have c:∀q:Nat,q < m->0<=cal (min i j) (max i j) q/\cal (min i j) (max i j) q < (m:Int) - 1:=fun q hq=>yX (by lia) (by lia) (by lia) (by lia) (by lia);have c1:=c p hp;have c2:=c p' hp';rw[oU (by rw[qW];exact hp),oU (by rw[qW];exact hp'),gG hp,gG hp',gG (by lia),gG (by lia),gG (by lia),gG (by lia),Int.toNat_of_nonneg i0,Int.toNat_of_nonneg j0,Int.toNat_of_nonneg c1.1,Int.toNat_of_nonneg c2.1];unfold cal
 by_cases a:(p:Int)=j<;>by_cases b:(p':Int)=j<;>simp only[a,b,if_true,if_false]<;>(repeat' split)<;>lia
theorem nT:∀(ds:List RD) (m:Nat),1<=m->m<=5->(∀d∈ds,cH (m:Int) d.2.1 d.2.2.1)->xw (fun _=>true) (m - 1) ds (eJ m)=fZ m ds
 | [],m,m1,m5,_=>by
  rw[Hg m1 m5 (fun d hd=>by cases hd)]
  by_cases c:m=1
  ·subst c;rw[if_pos rfl];rfl
  ·rw[if_neg c,show m - 1=(m - 2)+1 by lia];rfl
 |d :: q,m,m1,m5,pt=>by
  obtain⟨i0,i1,j0,j1⟩:=pt d (mem_cons_self ..);have ptq:=fun e he=>pt e (mem_cons_of_mem _ he);have ih:=nT q m m1 m5 ptq
  by_cases c:d.1=.pc/\d.2.1≠d.2.2.1
  ·obtain⟨k,i,j,p⟩:=d;obtain⟨hk,ne⟩:=c;have hk:k=.pc:=hk;subst hk;have ne:i≠j:=ne;have i0:(0:Int)<=i:=i0;have i1:i < m:=i1;have j0:(0:Int)<=j:=j0;have j1:j < m:=j1;have m2:2<=m:=by lia
   have t1:=Pu (w:=0) (ds:=(.pc,i,j,p) :: q) m5 rfl ne pt;rw[t1];show xw _ (m - 1) ((.pc,i,j,p) :: q) _=fZ m q+fZ (m - 1) (q.map (one (min i j) (max i j))) / Mq.val p;have pt1:∀d∈q.map (one (min i j) (max i j)),cH ((m - 1:Nat):Int) d.2.1 d.2.2.1:=fun d hd=>by
    obtain⟨e,he,rfl⟩:=mem_map.mp hd;obtain⟨a0,a1,b0,b1⟩:=ptq e he;have x:=yX (lo:=min i j) (hi:=max i j) (x:=e.2.1) (m:=(m:Int)) (by lia) (by lia) (by lia) a0 a1;have y:=yX (lo:=min i j) (hi:=max i j) (x:=e.2.2.1) (m:=(m:Int)) (by lia) (by lia) (by lia) b0 b1;exact⟨x.1,by show cal _ _ _ < _;lia,y.1,by show cal _ _ _ < _;lia⟩
   have ij:=nT (q.map (one (min i j) (max i j))) (m - 1) (by lia) (by lia) pt1;have rel:=Dp (lo:=min i j) (hi:=max i j) (by lia) (by lia) (show max i j < (m:Int) by lia) q (m - 2) _ _ (Kx i0 i1 j0 j1 ne) ptq;rw[show m - 1 - 1=m - 2 by lia,<- rel] at ij;rw[show m - 1=m - 2+1 by lia] at ih ⊢;show (if Jn (eJ m) (.pc,i,j,p) then 1 / Mq.val p*xw _ (m - 2) q (jn (eJ m) i.toNat j.toNat) else 0)+xw _ (m - 2+1) q (eJ m)=_;have i1':i.toNat < m:=by lia
   have j1':j.toNat < m:=by lia
   rw[if_pos ⟨rfl,fun z=>ne (by
    have z:(eJ m).getD i.toNat 0=(eJ m).getD j.toNat 0:=z;rw[gG i1',gG j1'] at z;lia)⟩,ih,ij,show m - 2+1=m - 1 by lia]
   rw[Rat.div_def,Rat.div_def];grind
  ·have cz:∀x y,cP d x y=0:=fun x y=>by
    unfold cP
    by_cases hk:d.1=.pc
    ·rw[if_pos hk,show d.2.1=d.2.2.1 from Classical.byContradiction fun z=>c ⟨hk,z⟩];unfold dl;grind
    ·rw[if_neg hk]
   have et:fZ m (d :: q)=fZ m q:=by
    unfold fZ;congr 1
    funext a b
    show cP d _ _+lap q _ _=_;rw[cz];grind
   rw[et,<- ih]
   by_cases c1:m=1
   ·subst c1;rw[mC,mC]
   ·rw[show m - 1=m - 2+1 by lia];show (if Jn (eJ m) d then _ else 0)+_=_;rw[if_neg fun z:Jn (eJ m) d=>c ⟨z.1,fun y=>z.2 (by rw[y])⟩];grind
 termination_by ds=>ds.length
 decreasing_by all_goals simp
theorem xV (e:RD)(hk:e.1=.pc):∀(q:List RD) (t:Nat) (M:List Int),xw (fun _=>true) (t+1) (q++[e]) M=xw (fun _=>true) (t+1) q M+1 / Mq.val e.2.2.2*xw (fun M=>decide (M.getD e.2.1.toNat 0≠M.getD e.2.2.1.toNat 0)) t q M
 | [],t,M=>by
  show (if Jn M e then 1 / Mq.val e.2.2.2*xw _ t [] _ else 0)+0=0+1 / Mq.val e.2.2.2*xw _ t [] M
  cases t with
  |zero=>
   rw[mC,mC]
   by_cases c:M.getD e.2.1.toNat 0≠M.getD e.2.2.1.toNat 0
   ·rw[if_pos ⟨hk,c⟩,if_pos rfl,if_pos (decide_eq_true c)];grind
   ·rw[if_neg fun z:Jn M e=>c z.2,if_neg (by simpa using c)];grind
  |succ t=>
   show (if Jn M e then _*0 else 0)+0=0+_*0;split<;>grind
 |d :: q,t,M=>by
  show (if Jn M d then 1 / Mq.val d.2.2.2*xw _ t (q++[e]) (jn M d.2.1.toNat d.2.2.1.toNat) else 0)+xw _ (t+1) (q++[e]) M=(if Jn M d then 1 / Mq.val d.2.2.2*xw _ t q (jn M d.2.1.toNat d.2.2.1.toNat) else 0)+xw _ (t+1) q M+_;rw[xV e hk q t M]
  cases t with
  |zero=>
   rw[mC,mC,mC,mC];grind
  |succ t=>
   rw[xV e hk q t (jn M d.2.1.toNat d.2.2.1.toNat)];show _=_+_+1 / Mq.val e.2.2.2*((if Jn M d then 1 / Mq.val d.2.2.2*xw _ t q (jn M d.2.1.toNat d.2.2.1.toNat) else 0)+xw _ (t+1) q M)
   by_cases c:Jn M d
   ·rw[if_pos c,if_pos c,if_pos c];grind
   ·rw[if_neg c,if_neg c,if_neg c];grind
end
theorem rk1 {a b v:Rat}(h:a*v=b):a+b*b=a*(1+b*v):=by subst h;grind
theorem rk2 {a b c d x y u v:Rat}(h1:a*u+b*v=x)(h2:c*u+d*v=y):(a+x*x)*(d+y*y) - (b+x*y)*(c+y*x)=(a*d - b*c)*(1+(x*u+y*v)):=by
 have e1:d*x - b*y=(a*d - b*c)*u:=by subst h1;subst h2;grind
 have e2:a*y - c*x=(a*d - b*c)*v:=by subst h1;subst h2;grind
 have:(a+x*x)*(d+y*y) - (b+x*y)*(c+y*x)=(a*d - b*c)+x*(d*x - b*y)+y*(a*y - c*x):=by grind
 rw[this,e1,e2];grind
theorem rk3 {a b c d e f g h k x y z u v w:Rat}(h1:a*u+b*v+c*w=x)(h2:d*u+e*v+f*w=y)(h3:g*u+h*v+k*w=z) :
  (g+z*x)*((b+x*y)*(f+y*z) - (c+x*z)*(e+y*y)) - (h+z*y)*((a+x*x)*(f+y*z) - (c+x*z)*(d+y*x))+(k+z*z)*((a+x*x)*(e+y*y) - (b+x*y)*(d+y*x))=(g*(b*f - c*e) - h*(a*f - c*d)+k*(a*e - b*d))*(1+(x*u+y*v+z*w)):=by
 have e1:(e*k - f*h)*x - (b*k - c*h)*y+(b*f - c*e)*z=(g*(b*f - c*e) - h*(a*f - c*d)+k*(a*e - b*d))*u:=by subst h1;subst h2;subst h3;grind
 have e2:(f*g - d*k)*x+(a*k - c*g)*y - (a*f - c*d)*z=(g*(b*f - c*e) - h*(a*f - c*d)+k*(a*e - b*d))*v:=by subst h1;subst h2;subst h3;grind
 have e3:(d*h - e*g)*x - (a*h - b*g)*y+(a*e - b*d)*z=(g*(b*f - c*e) - h*(a*f - c*d)+k*(a*e - b*d))*w:=by subst h1;subst h2;subst h3;grind
 have:(g+z*x)*((b+x*y)*(f+y*z) - (c+x*z)*(e+y*y)) - (h+z*y)*((a+x*x)*(f+y*z) - (c+x*z)*(d+y*x))+(k+z*z)*((a+x*x)*(e+y*y) - (b+x*y)*(d+y*x))=(g*(b*f - c*e) - h*(a*f - c*d)+k*(a*e - b*d))+x*((e*k - f*h)*x - (b*k - c*h)*y+(b*f - c*e)*z)+y*((f*g - d*k)*x+(a*k - c*g)*y - (a*f - c*d)*z)+z*((d*h - e*g)*x - (a*h - b*g)*y+(a*e - b*d)*z):=by grind
 rw[this,e1,e2,e3];grind
section
variable {m a b:Nat} {ds:List RD} {v:Nat->Rat}
theorem Vq {ds:List RD}(h:∀d∈ds,d.1≠.ho):cJ ds=0:=by
 unfold cJ jA;rw[filter_eq_nil_iff.mpr fun d hd=>by simpa using h d hd];rfl
theorem qh2 (v0:v 0=0)(ha:a < m)(hb:b < m):Mq.rs (m - 1) (fun i=>dl a b (i+1)*v (i+1))=v a - v b:=by
 have e1:=Up (n:=m) ha v;have e2:=Up (n:=m) hb v;obtain⟨k,rfl⟩:∃k,m=k+1:=⟨m - 1,by lia⟩
 have:Mq.rs (k+1) (fun p=>v p*un a p + - (v p*un b p))=v a - v b:=by
  rw[dX,lW,e1,e2];grind
 rw[oI] at this;rw[<- this,v0];show Mq.rs k _=_;rw[show (0*un a 0 + -(0*un b 0):Rat)=0 by grind,Rat.zero_add];refine aP fun i _=>?_;unfold dl un;grind
theorem Jv (m1:1<=m)(m4:m<=4)(nh:∀d∈ds,d.1≠.ho)(h:Ph m ds a b v)(ha:a < m)(hb:b < m):fZ m (ds++[(.pc,(a:Int),(b:Int),(1,1))])=fZ m ds*(1+(v a - v b)):=by
 have ew:wd m ds=m - 1:=by show m - 1+cJ ds=_;rw[Vq nh];rfl
 have eq:∀i,i < m - 1->Mq.rs (m - 1) (fun j=>lap ds (i+1) (j+1)*v (j+1))=dl a b (i+1):=fun i hi=>by
  have:=h.e i (by rw[ew];exact hi);rw[ew] at this;rw[aP (fun j _=>show lap ds (i+1) (j+1)*v (j+1)=eqM m ds (i+1) (j+1)*v (j+1) by rw[yQ _ _ m nh]),this];unfold dl un;grind
 have el:∀x y,lap (ds++[(.pc,(a:Int),(b:Int),(1,1))]) x y=lap ds x y+dl a b x*dl a b y:=fun x y=>by
  rw[qY];show _+(cP (.pc,(a:Int),(b:Int),(1,1)) x y+0)=_;unfold cP;rw[if_pos rfl];show _+(dl a b x*dl a b y*(1 / Mq.val (1,1))+0)=_;have:Mq.val (1,1)=1:=by unfold Mq.val;grind
  rw[this];grind
 rw[<- qh2 h.z ha hb];unfold fZ;rw[show (fun i j=>lap (ds++[(.pc,(a:Int),(b:Int),(1,1))]) (i+1) (j+1))=fun i j=>lap ds (i+1) (j+1)+dl a b (i+1)*dl a b (j+1) from funext fun i=>funext fun j=>el _ _];have:m=1\/m=2\/m=3\/m=4:=by lia
 rcases this with rfl | rfl | rfl | rfl
 ·show (1:Rat)=1*(1+0);grind
 ·have e0:=eq 0 (by decide);simp only[Mq.rs] at e0 ⊢;rw[Cp,Cp];have:=rk1 (a:=lap ds 1 1) (v:=v 1) (b:=dl a b 1) (by rw[<- e0];grind);grind
 ·have e0:=eq 0 (by decide);have e1:=eq 1 (by decide);simp only[Mq.rs] at e0 e1 ⊢;rw[Ec,Ec];have:=rk2 (a:=lap ds 1 1) (b:=lap ds 1 2) (c:=lap ds 2 1) (d:=lap ds 2 2) (u:=v 1) (v:=v 2) (x:=dl a b 1) (y:=dl a b 2) (by rw[<- e0];grind) (by rw[<- e1];grind);grind
 ·have e0:=eq 0 (by decide);have e1:=eq 1 (by decide);have e2:=eq 2 (by decide);simp only[Mq.rs] at e0 e1 e2 ⊢;rw[Cs,Cs];have:=rk3 (a:=lap ds 1 1) (b:=lap ds 1 2) (c:=lap ds 1 3) (d:=lap ds 2 1) (e:=lap ds 2 2) (f:=lap ds 2 3) (g:=lap ds 3 1) (h:=lap ds 3 2) (k:=lap ds 3 3) (u:=v 1) (v:=v 2) (w:=v 3) (x:=dl a b 1) (y:=dl a b 2) (z:=dl a b 3) (by rw[<- e0];grind) (by rw[<- e1];grind) (by rw[<- e2];grind);show _=_*(1+(0+dl a b 1*v 1+dl a b 2*v 2+dl a b 3*v 3))
  rw[show (0+dl a b 1*v 1+dl a b 2*v 2+dl a b 3*v 3:Rat)=dl a b 1*v 1+dl a b 2*v 2+dl a b 3*v 3 by grind];exact this
def apt (a b:Nat)(M:List Int):Bool:=decide (M.getD a 0≠M.getD b 0)
theorem Vt (m1:1<=m)(m4:m<=4)(pt:∀d∈ds,cH (m:Int) d.2.1 d.2.2.1)(nh:∀d∈ds,d.1≠.ho)(h:Ph m ds a b v)(ha:a < m)(hb:b < m):xw (apt a b) (m - 2) ds (eJ m)=(v a - v b)*fZ m ds:=by
 by_cases c:m=1
 ·subst c;have:a=b:=by lia
  subst this;rw[mC];unfold apt;rw[if_neg (by simp)];grind
 ·have e1:=nT (ds++[(.pc,(a:Int),(b:Int),(1,1))]) m m1 (by lia) fun d hd=>by
   rcases mem_append.mp hd with z | z
   ·exact pt d z
   ·rw[mem_singleton.mp z];exact⟨by show (0:Int)<=(a:Int);lia,by show (a:Int) < m;lia,by show (0:Int)<=(b:Int);lia,by show (b:Int) < m;lia⟩
  have e2:=nT ds m m1 (by lia) pt;rw[Jv m1 m4 nh h ha hb,show m - 1=m - 2+1 by lia,xV _ rfl] at e1;rw[show m - 1=m - 2+1 by lia] at e2;rw[e2] at e1;have e1:fZ m ds+1 / Mq.val (1,1)*xw (apt a b) (m - 2) ds (eJ m)=fZ m ds*(1+(v a - v b)):=e1;have:Mq.val (1,1)=1:=by unfold Mq.val;grind
  rw[this] at e1;grind
end
def rwN (ds:List RD)(n:Nat):RD:=ds.getD n (.pu,0,0,(0,1))
def wN (ds:List RD)(n:Nat):Rat:=1 / Mq.val (rwN ds n).2.2.2
def prW (ds:List RD):List Nat->Rat
 | []=>1
 |n :: r=>wN ds n*prW ds r
section
variable {ds:List RD} {P:List Int->Bool} {M:List Int} {m t:Nat}
theorem qU (b:List Nat):∀a:List Nat,prW ds (a++b)=prW ds a*prW ds b
 | []=>by show prW ds b=1*prW ds b;grind
 |n :: r=>by show wN ds n*prW ds (r++b)=wN ds n*prW ds r*prW ds b;rw[qU b r];grind
theorem Kh {a b:List Nat}(h:a.Perm b):prW ds a=prW ds b:=by
 induction h with
 |nil=>rfl
 |cons x _ ih=>show _*_=_*_;rw[ih]
 |swap x y l=>show wN ds y*(wN ds x*prW ds l)=wN ds x*(wN ds y*prW ds l);grind
 |trans _ _ i1 i2=>exact i1.trans i2
theorem lT {n:Nat}{d:RD}(h:ds[n]?=some d):rwN ds n=d:=by unfold rwN;rw[getD_eq_getElem?_getD,h];rfl
def Jf (ds:List RD)(n:Nat):Prop:=∃d,ds[n]?=some d/\d.1=.pc
theorem Of {n:Nat}(h:Jf ds n):Jn M (rwN ds n)↔okJ (sgF ds) M n=true:=by
 obtain⟨d,e,k⟩:=h;rw[lT e];unfold okJ;rw[kH e];exact⟨fun z=>decide_eq_true z.2,fun z=>⟨k,of_decide_eq_true z⟩⟩
theorem qc8 {n:Nat}(h:Jf ds n):jn M (rwN ds n).2.1.toNat (rwN ds n).2.2.1.toNat=jnN (sgF ds) M n:=by
 obtain⟨d,e,k⟩:=h;rw[lT e];unfold jnN;rw[kH e]
theorem Ss {n:Nat}{q:List RD}(h:Jf ds n):xw P (t+1) (rwN ds n :: q) M=(if okJ (sgF ds) M n then wN ds n*xw P t q (jnN (sgF ds) M n) else 0)+xw P (t+1) q M:=by
 show (if Jn M (rwN ds n) then _*xw P t q _ else 0)+_=_;rw[qc8 h]
 by_cases c:okJ (sgF ds) M n=true
 ·rw[if_pos ((Of h).mpr c),if_pos c];rfl
 ·rw[if_neg fun z=>c ((Of h).mp z),if_neg c]
theorem Lc:∀(q:List Nat),q.Pairwise (· < ·)->(∀n∈q,Jf ds n)->xw P (t+1) (q.map (rwN ds)) M=fM ((q.filter fun n=>okJ (sgF ds) M n).map fun n=>wN ds n*xw P t ((q.filter fun x=>decide (n < x)).map (rwN ds)) (jnN (sgF ds) M n))
 | [],_,_=>rfl
 |n :: q,hp,hq=>by
  obtain⟨h1,h2⟩:=pairwise_cons.mp hp;have ih:=Lc q h2 fun n' h'=>hq n' (mem_cons_of_mem _ h');have e1:(n :: q).filter (fun x=>decide (n < x))=q:=by
   rw[filter_cons_of_neg (p:=fun x=>decide (n < x)) (by simp)];exact filter_eq_self.mpr fun x hx=>by simpa using h1 x hx
  have e2:((q.filter fun n=>okJ (sgF ds) M n).map fun n'=>wN ds n' * xw P t (((n :: q).filter fun x=>decide (n' < x)).map (rwN ds)) (jnN (sgF ds) M n'))=((q.filter fun n=>okJ (sgF ds) M n).map fun n'=>wN ds n' * xw P t ((q.filter fun x=>decide (n' < x)).map (rwN ds)) (jnN (sgF ds) M n')):=by
   refine map_congr_left fun n' hn'=>?_;have:=h1 n' ((mem_filter.mp hn').1);rw[filter_cons_of_neg (p:=fun x=>decide (n' < x)) (by simp;lia)]
  rw[map_cons,Ss (hq n (mem_cons_self ..)),ih]
  by_cases k:okJ (sgF ds) M n=true
  ·rw[filter_cons_of_pos (p:=fun n=>okJ (sgF ds) M n) k,map_cons,e1,e2,if_pos k];rfl
  ·rw[filter_cons_of_neg (p:=fun n=>okJ (sgF ds) M n) k,e2,if_neg k];grind
def gxW (ds:List RD)(P:List Int->Bool)(ps:List Nat)(t:Nat)(x:List Nat × List Int):Rat:=prW ds x.1*xw P t ((ps.filter fun n=>cX n x.1).map (rwN ds)) x.2
theorem rH (c:Rat):∀l:List Rat,c*fM l=fM (l.map fun x=>c*x)
 | []=>by show c*0=0;grind
 |x :: l=>by show c*(x+fM l)=c*x+fM (l.map fun x=>c*x);rw[<- rH c l];grind
theorem Qm {ps:List Nat}(hp:ps.Pairwise (· < ·))(hq:∀n∈ps,Jf ds n)(t:Nat)(x:List Nat × List Int):gxW ds P ps (t+1) x=fM ((iA (sgF ds) ps x).map (gxW ds P ps t)):=by
 unfold gxW iA;rw[Lc _ (hp.filter _) fun n hn=>hq n (mem_filter.mp hn).1,rH,map_map,map_map,filter_filter];have e:(ps.filter fun n=>okJ (sgF ds) x.2 n && cX n x.1)=ps.filter fun n=>cX n x.1 && okJ (sgF ds) x.2 n:=by
  congr 1;funext n;rw[Bool.and_comm]
 rw[e];congr 1;refine map_congr_left fun n hn=>?_;have hb:cX n x.1=true:=by
  have:=(mem_filter.mp hn).2;rw[Bool.and_eq_true] at this;exact this.1
 show prW ds x.1*(wN ds n*xw P t _ _)=prW ds (x.1++[n])*xw P t ((ps.filter fun y=>cX y (x.1++[n])).map (rwN ds)) (jnN (sgF ds) x.2 n);rw[filter_filter,qU];have:(ps.filter fun y=>decide (n < y) && cX y x.1)=ps.filter fun y=>cX y (x.1++[n]):=by
  congr 1
  funext y
  rw[pW]
  by_cases l:n < y
  ·rw[decide_eq_true l,Iz hb l];rfl
  ·rw[decide_eq_false l];rfl
 rw[this];show _=prW ds x.1*(wN ds n*1)*_;grind
theorem wG {α β:Type}(f:α->List β)(g:β->Rat):∀l:List α,fM ((l.flatMap f).map g)=fM (l.map fun x=>fM ((f x).map g))
 | []=>rfl
 |x :: l=>by rw[flatMap_cons,map_append,Bc,wG f g l];rfl
theorem pP {α:Type}(p:α->Bool)(g:α->Rat):∀l:List α,fM ((l.filter p).map g)=fM (l.map fun x=>g x*if p x then 1 else 0)
 | []=>rfl
 |x :: l=>by
  have ih:=pP p g l
  by_cases c:p x=true
  ·rw[filter_cons_of_pos c];show g x+fM ((l.filter p).map g)=g x*(if p x then 1 else 0)+fM (l.map fun x=>g x*if p x then 1 else 0);rw[ih,if_pos c];grind
  ·rw[filter_cons_of_neg c];show _=g x*(if p x then 1 else 0)+fM (l.map fun x=>g x*if p x then 1 else 0);rw[ih,if_neg c];grind
theorem Vk {ps:List Nat}(hp:ps.Pairwise (· < ·))(hq:∀n∈ps,Jf ds n)(m:Nat):∀(t s:Nat),fM (((dZ (sgF ds) ps m (s+t)).filter fun x=>P x.2).map fun x=>prW ds x.1)=fM ((dZ (sgF ds) ps m s).map (gxW ds P ps t))
 |0,s=>by
  rw[Nat.add_zero,pP];congr 1;refine map_congr_left fun x _=>?_;unfold gxW;rw[mC]
 |t+1,s=>by
  rw[show s+(t+1)=s+1+t by lia,Vk hp hq m t (s+1)];show fM (((dZ (sgF ds) ps m s).flatMap (iA (sgF ds) ps)).map (gxW ds P ps t))=_;rw[wG];congr 1;exact map_congr_left fun x _=>(Qm hp hq t x).symm
theorem xS:∀(q:List RD) (t:Nat) (M:List Int),xw P t (q.filter fun d=>decide (d.1=.pc)) M=xw P t q M
 |q,0,M=>by rw[mC,mC]
 | [],t+1,M=>rfl
 |d :: q,t+1,M=>by
  by_cases k:d.1=.pc
  ·rw[filter_cons_of_pos (by simpa using k)];show (if Jn M d then _*xw P t (q.filter fun d=>decide (d.1=.pc)) _ else 0)+xw P (t+1) (q.filter fun d=>decide (d.1=.pc)) M=(if Jn M d then _*xw P t q _ else 0)+xw P (t+1) q M;rw[xS q t,xS q (t+1)]
  ·rw[filter_cons_of_neg (by simpa using k),xS q (t+1)];show _=(if Jn M d then _ else 0)+xw P (t+1) q M;rw[if_neg fun z:Jn M d=>k z.1];grind
theorem Ff:∀n,n<=ds.length->((List.range n).filter (isP ds)).map (rwN ds)=(ds.take n).filter fun d=>decide (d.1=.pc)
 |0,_=>rfl
 |n+1,h=>by
  have hd:ds[n]?=some ds[n]:=getElem?_eq_getElem (by lia);rw[range_succ,filter_append,map_append,Ff n (by lia),take_add_one,hd,filter_append];congr 1
  by_cases k:ds[n].1=.pc
  ·rw[filter_cons_of_pos (by rw[kF hd];exact decide_eq_true k)];show [rwN ds n]=List.filter _ [ds[n]];rw[filter_cons_of_pos (by simpa using k),lT hd];rfl
  ·rw[filter_cons_of_neg (by rw[kF hd];simpa using k)];show []=List.filter _ [ds[n]];rw[filter_cons_of_neg (by simpa using k)];rfl
theorem Mu (ds:List RD)(P:List Int->Bool)(m t:Nat):fM (((dZ (sgF ds) (pcs ds) m t).filter fun x=>P x.2).map fun x=>prW ds x.1)=xw P t ds (eJ m):=by
 have:=Vk (P:=P) (tW ds) (fun n hn=>oP hn) m t 0;rw[Nat.zero_add] at this;rw[this];show gxW ds P (pcs ds) t ([],eJ m)+0=_;unfold gxW;rw[show (pcs ds).filter (fun n=>cX n ([],eJ m).1)=pcs ds from filter_eq_self.mpr fun n _=>rfl];unfold pcs;rw[Ff _ (Nat.le_refl _),take_length,xS];show 1*_+0=_;grind
end
theorem rM {F G:Nat->Int}:∀n,(∀p q,p < n->q < n->(F p=F q↔G p=G q))->gY F n=gY G n:=fun n h=>by
 unfold gY;refine filter_congr fun p hp=>?_;have hp:=mem_range.mp hp;rw[Bool.eq_iff_iff,all_eq_true,all_eq_true];exact⟨fun a q hq=>decide_eq_true fun z=>of_decide_eq_true (a q hq) ((h q p (by have:=mem_range.mp hq;lia) hp).mpr z),fun a q hq=>decide_eq_true fun z=>of_decide_eq_true (a q hq) ((h q p (by have:=mem_range.mp hq;lia) hp).mp z)⟩
theorem rY (M:List Int):(ddl M).length=(gY (fun p=>M.getD p 0) M.length).length:=by
 induction M using rQ with
 |h0=>rfl
 |h1 l x ih=>
  have gx:(l++[x]).getD l.length 0=x:=by rw[getD_eq_getElem?_getD,getElem?_append_right (Nat.le_refl _),Nat.sub_self];rfl
  have gl:∀p,p < l.length->(l++[x]).getD p 0=l.getD p 0:=fun p hp=>by rw[getD_eq_getElem?_getD,getElem?_append_left hp,getD_eq_getElem?_getD]
  have e:gY (fun p=>(l++[x]).getD p 0) l.length=gY (fun p=>l.getD p 0) l.length:=rM _ fun p q hp hq=>by
   show (l++[x]).getD p 0=(l++[x]).getD q 0↔_;rw[gl p hp,gl q hq]
  rw[oE,List.length_append];show _=(gY _ (l.length+1)).length;rw[zQ,e];have al:((List.range l.length).all fun q=>decide ((l++[x]).getD q 0≠(l++[x]).getD l.length 0))=!decide (x∈ddl l):=by
   rw[Bool.eq_iff_iff,all_eq_true];simp only[Bool.not_eq_true',decide_eq_false_iff_not,nC];constructor
   ·intro h z;obtain⟨i,hi,rfl⟩:=getElem_of_mem z;have:=of_decide_eq_true (h i (mem_range.mpr hi));rw[gx,gl i hi,getD_eq_getElem?_getD,getElem?_eq_getElem hi] at this;exact this rfl
   ·intro h i hi;have hi:=mem_range.mp hi;refine decide_eq_true fun z=>h ?_;rw[gx,gl i hi,getD_eq_getElem?_getD,getElem?_eq_getElem hi] at z;rw[<- show l[i]=x from z];exact getElem_mem hi
  rw[al]
  by_cases c:x∈ddl l
  ·rw[if_pos c,decide_eq_true c];exact ih
  ·rw[if_neg c,decide_eq_false c];show (ddl l++[x]).length=(if true=true then _ else _:List Nat).length;rw[if_pos rfl,List.length_append,List.length_append,ih];rfl
theorem Tt {M N:List Int}{m:Nat}(lM:M.length=m)(lN:N.length=m)(h:∀p q,p < m->q < m->(M.getD p 0=M.getD q 0↔N.getD p 0=N.getD q 0)):(ddl M).length=(ddl N).length:=by
 rw[rY,rY,lM,lN,rM m h]
section
variable {sg:Nat->Nat × Nat} {m:Nat} {ps:List Nat}
def rsn (sg:Nat->Nat × Nat)(ns:List Nat):List RD:=ns.map fun n=>(.pc,((sg n).1:Int),((sg n).2:Int),(0,1))
theorem Ck (ns:List Nat):jf sg m ns=mks m (rsn sg ns):=by
 unfold jf mks rsn;rw[foldl_map];rfl
theorem Cw {ns:List Nat}(h:oV sg m ns):∀d∈rsn sg ns,cH (m:Int) d.2.1 d.2.2.1:=fun d hd=>by
 obtain⟨n,hn,rfl⟩:=mem_map.mp hd;have:=h n hn;exact⟨by show (0:Int)<=((sg n).1:Int);lia,by show ((sg n).1:Int) < m;lia,by show (0:Int)<=((sg n).2:Int);lia,by show ((sg n).2:Int) < m;lia⟩
theorem To {a b:List Nat}(h:a.Perm b)(ha:oV sg m a):(ddl (jf sg m a)).length=(ddl (jf sg m b)).length:=by
 have hb:oV sg m b:=fun n hn=>ha n (h.mem_iff.mpr hn);refine Tt (oT m a) (oT m b) fun p q hp hq=>?_;rw[Ck,Ck];show mk m _ p=mk m _ q↔mk m _ p=mk m _ q;rw[zV (Cw ha) hp hq,zV (Cw hb) hp hq];have sub:∀{a b:List Nat},(∀n∈a,n∈b)->∀d∈rsn sg a,d∈rsn sg b:=fun h d hd=>by
  obtain⟨n,hn,rfl⟩:=mem_map.mp hd;exact mem_map.mpr ⟨n,h n hn,rfl⟩
 exact⟨Cn.mono (sub fun n hn=>h.mem_iff.mp hn),Cn.mono (sub fun n hn=>h.mem_iff.mpr hn)⟩
def Acy (sg:Nat->Nat × Nat)(m:Nat)(ns:List Nat):Prop:=(ddl (jf sg m ns)).length+ns.length=m
theorem Qs {M:List Int}{s g:Nat}(h:M.getD s 0=M.getD g 0):jn M s g=M:=by
 unfold jn;rw[map_congr_left (g:=id) fun x _=>?_,map_id]
 by_cases c:x=M.getD g 0
 ·rw[if_pos c,c,h];rfl
 ·rw[if_neg c];rfl
theorem Ex {ns:List Nat}{n:Nat}(hn:(sg n).1 < m/\(sg n).2 < m):(okJ sg (jf sg m ns) n=true->(ddl (jf sg m (ns++[n]))).length+1=(ddl (jf sg m ns)).length)/\(okJ sg (jf sg m ns) n=false->(ddl (jf sg m (ns++[n]))).length=(ddl (jf sg m ns)).length):=by
 rw[zG];refine⟨fun h=>qe1 (oT m ns) hn.1 hn.2 h,fun h=>?_⟩;unfold jnN;rw[Qs (by simpa[okJ] using h)]
theorem yW:∀(k:Nat) (ns:List Nat),ns.length=k->oV sg m ns->m<=(ddl (jf sg m ns)).length+ns.length
 |0,ns,h,_=>by
  rw[length_eq_zero_iff.mp h];show m<=(ddl (eJ m)).length+0;rw[zT];exact Nat.le_refl _
 |k+1,ns,h,hs=>by
  obtain⟨pre,n,rfl⟩:∃pre n,ns=pre++[n]:=by
   have:ns≠[]:=fun z=>by rw[z] at h;simp at h
   exact⟨ns.dropLast,ns.getLast this,(dropLast_concat_getLast this).symm⟩
  rw[List.length_append] at h ⊢;have h:pre.length+1=k+1:=h;have ih:=yW k pre (by lia) fun x hx=>hs x (mem_append_left _ hx);obtain⟨a,b⟩:=Ex (sg:=sg) (m:=m) (ns:=pre) (n:=n) (hs n (by simp));show m<=_+(pre.length+1)
  cases c:okJ sg (jf sg m pre) n with
  |true=>have:=a c;lia
  |false=>have:=b c;lia
theorem nI {ns:List Nat}{n:Nat}(hs:oV sg m (ns++[n])):Acy sg m (ns++[n])↔Acy sg m ns/\okJ sg (jf sg m ns) n=true:=by
 have low:=yW ns.length ns rfl fun x hx=>hs x (mem_append_left _ hx);obtain⟨a,b⟩:=Ex (sg:=sg) (m:=m) (ns:=ns) (n:=n) (hs n (by simp));unfold Acy;rw[List.length_append];show _+(ns.length+1)=m↔_
 cases c:okJ sg (jf sg m ns) n with
 |true=>have:=a c;exact⟨fun h=>⟨by lia,rfl⟩,fun h=>by lia⟩
 |false=>have:=b c;exact⟨fun h=>by lia,fun h=>by cases h.2⟩
theorem Ae {a b:List Nat}(h:a.Perm b)(ha:oV sg m a):Acy sg m a↔Acy sg m b:=by
 unfold Acy;rw[To h ha,h.length_eq]
theorem yH (hs:oV sg m ps):∀{t:Nat} {x:List Nat × List Int},x∈dZ sg ps m t->Acy sg m x.1
 |0,x,h=>by
  have:x=([],eJ m):=by simpa[dZ] using h
  subst this;show (ddl (eJ m)).length+0=m;rw[zT];rfl
 |t+1,x,h=>by
  have F:=jZ h;obtain⟨y,hy,hx⟩:=mem_flatMap.mp (show x∈(dZ sg ps m t).flatMap (iA sg ps) from h);obtain⟨n,hn,rfl⟩:=mem_map.mp hx;have G:=jZ hy;obtain⟨h1,h2⟩:=mem_filter.mp hn;rw[Bool.and_eq_true] at h2;exact(nI fun z hz=>hs z (F.i z hz)).mpr ⟨yH hs hy,by rw[<- G.e];exact h2.2⟩
theorem zA (hs:oV sg m ps):∀(k:Nat) (ns:List Nat),ns.length=k->ns.Pairwise (· < ·)->(∀n∈ns,n∈ps)->Acy sg m ns->(ns,jf sg m ns)∈dZ sg ps m k
 |0,ns,h,_,_,_=>by rw[length_eq_zero_iff.mp h];exact mem_singleton.mpr rfl
 |k+1,ns,h,hp,hi,ac=>by
  obtain⟨pre,n,rfl⟩:∃pre n,ns=pre++[n]:=by
   have:ns≠[]:=fun z=>by rw[z] at h;simp at h
   exact⟨ns.dropLast,ns.getLast this,(dropLast_concat_getLast this).symm⟩
  rw[List.length_append] at h;have h:pre.length+1=k+1:=h;obtain⟨a1,a2⟩:=(nI fun z hz=>hs z (hi z hz)).mp ac;obtain⟨p1,_,p3⟩:=pairwise_append.mp hp;have ih:=zA hs k pre (by lia) p1 (fun x hx=>hi x (mem_append_left _ hx)) a1;refine mem_flatMap.mpr ⟨_,ih,mem_map.mpr ⟨n,mem_filter.mpr ⟨hi n (by simp),?_⟩,by rw[zG]⟩⟩;rw[Bool.and_eq_true];refine⟨?_,a2⟩;unfold cX
  cases e:pre.getLast? with
  |none=>rfl
  |some b=>
   have:b∈pre:=mem_of_getLast? e;exact decide_eq_true (p3 b this n (by simp))
theorem Bf {a:Nat}:∀{x:List Nat},x.Pairwise (· < ·)->a∈x->x.filter (fun n=>decide (n < a))++a :: x.filter (fun n=>decide (a < n))=x
 | [],_,h=>by cases h
 |y :: r,hp,h=>by
  obtain⟨h1,h2⟩:=pairwise_cons.mp hp;rcases mem_cons.mp h with z | z
  ·subst z;rw[filter_cons_of_neg (by simp),filter_cons_of_neg (by simp),filter_eq_nil_iff.mpr fun n hn=>by have:=h1 n hn;simp;lia,filter_eq_self.mpr fun n hn=>by have:=h1 n hn;simpa using this];rfl
  ·have:=h1 a z;rw[filter_cons_of_pos (by simpa using this),filter_cons_of_neg (by simp;lia)];show y :: (_++_)=_;rw[Bf h2 z]
theorem Qu {a:Nat}(x:List Nat):(x.filter fun n=>decide (n≠a)).filter (fun n=>decide (n < a))=x.filter fun n=>decide (n < a):=by
 rw[filter_filter];refine filter_congr fun n _=>?_;rw[Bool.eq_iff_iff];simp;lia
theorem Tv {a:Nat}(x:List Nat):(x.filter fun n=>decide (n≠a)).filter (fun n=>decide (a < n))=x.filter fun n=>decide (a < n):=by
 rw[filter_filter];refine filter_congr fun n _=>?_;rw[Bool.eq_iff_iff];simp;lia
def tY (a:Nat)(y:List Nat):List Nat:=y.filter (fun n=>decide (n < a))++a :: y.filter (fun n=>decide (a < n))
theorem qT {a:Nat}{x:List Nat}(hp:x.Pairwise (· < ·))(h:a∈x):tY a (x.filter fun n=>decide (n≠a))=x:=by
 unfold tY;rw[Qu,Tv,Bf hp h]
theorem rJ {a:Nat}{y:List Nat}(h:a∉y):(tY a y).Perm (y++[a]):=by
 unfold tY;refine(perm_middle.trans ?_).trans (perm_append_singleton a y).symm;refine Perm.cons a ?_;have:y.filter (fun n=>decide (a < n))=y.filter fun n=>!decide (n < a):=filter_congr fun n hn=>by
  have:n≠a:=fun z=>h (z ▸ hn);rw[Bool.eq_iff_iff];simp;lia
 rw[this];exact filter_append_perm _ _
theorem Mj {a:Nat}{y:List Nat}(h:y.Pairwise (· < ·)):(tY a y).Pairwise (· < ·):=by
 unfold tY;refine pairwise_append.mpr ⟨h.filter _,pairwise_cons.mpr ⟨fun n hn=>by simpa using (mem_filter.mp hn).2,h.filter _⟩,fun p hp q hq=>?_⟩;have p1:p < a:=by simpa using (mem_filter.mp hp).2
 rcases mem_cons.mp hq with z | z
 ·lia
 ·have:a < q:=by simpa using (mem_filter.mp z).2
  lia
theorem Rg {a:Nat}{y:List Nat}(h:a∉y)(hp:y.Pairwise (· < ·)):(tY a y).filter (fun n=>decide (n≠a))=y:=by
 unfold tY;rw[filter_append,filter_cons_of_neg (by simp),filter_filter,filter_filter];have e1:y.filter (fun n=>decide (n≠a) && decide (n < a))=y.filter fun n=>decide (n < a):=filter_congr fun n _=>by rw[Bool.eq_iff_iff];simp;lia
 have e2:y.filter (fun n=>decide (n≠a) && decide (a < n))=y.filter fun n=>decide (a < n):=filter_congr fun n _=>by rw[Bool.eq_iff_iff];simp;lia
 rw[e1,e2];clear e1 e2
 induction y with
 |nil=>rfl
 |cons x r ih=>
  obtain⟨h1,h2⟩:=pairwise_cons.mp hp;have hx:a≠x:=fun z=>h (z ▸ mem_cons_self ..);have hr:=ih (fun z=>h (mem_cons_of_mem _ z)) h2
  by_cases c:x < a
  ·rw[filter_cons_of_pos (by simpa using c),filter_cons_of_neg (by simp;lia)];show x :: (_++_)=_;rw[hr]
  ·rw[filter_cons_of_neg (by simpa using c),filter_cons_of_pos (by simp;lia),filter_eq_nil_iff.mpr fun n hn=>by have:=h1 n hn;simp;lia,filter_eq_self.mpr fun n hn=>by have:=h1 n hn;simp;lia];rfl
theorem He (hp:ps.Pairwise (· < ·))(hs:oV sg m ps){a:Nat}(ha:a∈ps)(y:List Nat):(∃x∈(dZ sg ps m (m - 1)).map (·.1),a∈x/\y=x.filter fun n=>decide (n≠a))↔y∈((dZ sg ps m (m - 2)).filter fun x=>apt (sg a).1 (sg a).2 x.2).map (·.1):=by
 constructor
 ·rintro ⟨x,hx,hax,rfl⟩;obtain⟨⟨x,M⟩,hX,rfl⟩:=mem_map.mp hx;have F:=jZ hX;have Fl:=F.l;have Fr:=F.r;have Fi:=F.i;have ac:=yH hs hX;dsimp only at *
  have no:a∉x.filter fun n=>decide (n≠a):=fun z=>by simpa using (mem_filter.mp z).2
  have pr:x.Perm ((x.filter fun n=>decide (n≠a))++[a]):=by
   have:=rJ no
   rwa [qT Fr hax] at this
  have sx:oV sg m x:=fun n hn=>hs n (Fi n hn);obtain⟨a1,a2⟩:=(nI fun n hn=>sx n (pr.mem_iff.mpr hn)).mp ((Ae pr sx).mp ac);have l1:=pr.length_eq;rw[List.length_append] at l1;have l1:x.length=(x.filter fun n=>decide (n≠a)).length+1:=l1;have mem:=zA hs (m - 2) _ (by lia) (Fr.filter _) (fun n hn=>Fi n (mem_filter.mp hn).1) a1;exact mem_map.mpr ⟨_,mem_filter.mpr ⟨mem,a2⟩,rfl⟩
 ·intro h;obtain⟨⟨y',M⟩,h1,rfl⟩:=mem_map.mp h;obtain⟨hY,hap⟩:=mem_filter.mp h1;have F:=jZ hY;have Fl:=F.l;have Fr:=F.r;have Fi:=F.i;have Fe:=F.e;have ac:=yH hs hY;dsimp only at *
  have sy:oV sg m y':=fun n hn=>hs n (Fi n hn);have ok:okJ sg (jf sg m y') a=true:=by rw[<- Fe];exact hap
  have no:a∉y':=fun z=>by
   have e:=nE _ (rsn sg y') rfl (Cw sy) _ (mem_map.mpr ⟨a,z,rfl⟩) (by show Kd.pc≠Kd.pu;decide);unfold okJ at ok;rw[Ck] at ok;exact of_decide_eq_true ok e
  have sa:oV sg m (y'++[a]):=fun n hn=>by
   rcases mem_append.mp hn with z | z
   ·exact sy n z
   ·rw[mem_singleton.mp z];exact hs a ha
  have ac2:=(nI sa).mpr ⟨ac,ok⟩;have pr:=rJ no;have ac3:=(Ae pr fun n hn=>sa n (pr.mem_iff.mp hn)).mpr ac2;have lp:=pr.length_eq;rw[List.length_append] at lp;have lp:(tY a y').length=y'.length+1:=lp;have m2:y'.length+2<=m:=by
   have:=yW (sg:=sg) (m:=m) _ y' rfl sy;unfold Acy at ac ac2;rw[List.length_append] at ac2;have ac2:(ddl (jf sg m (y'++[a]))).length+(y'.length+1)=m:=ac2;have p0:0 < (ddl (jf sg m (y'++[a]))).length:=length_pos_of_mem ((nC _ _).mpr (show (jf sg m (y'++[a])).getD (sg a).1 0∈_ by
    rw[getD_eq_getElem?_getD,getElem?_eq_getElem (by rw[oT];exact(hs a ha).1)];exact getElem_mem _))
   lia
  have mem:=zA hs (m - 1) (tY a y') (by lia) (Mj Fr) (fun n hn=>by
   rcases mem_append.mp (pr.mem_iff.mp hn) with z | z
   ·exact Fi n z
   ·rw[mem_singleton.mp z];exact ha) ac3
  exact⟨_,mem_map.mpr ⟨_,mem,rfl⟩,pr.mem_iff.mpr (by simp),(Rg no Fr).symm⟩
end
abbrev trN (m:Nat)(ds:List RD):List (List Nat):=(dZ (sgF ds) (pcs ds) m (m - 1)).map (·.1)
abbrev ptN (m:Nat)(ds:List RD)(a b:Nat):List (List Nat):=((dZ (sgF ds) (pcs ds) m (m - 2)).filter fun x=>apt a b x.2).map (·.1)
abbrev xR (a:Nat)(x:List Nat):List Nat:=x.filter fun n=>decide (n≠a)
abbrev shR (ds:List RD)(X:List (List Nat)):Rat:=fM (X.map (prW ds))
section
variable {m:Nat} {ds:List RD}
theorem qd2 {a:List Nat}(h:Lx a a):False:=by
 obtain⟨j,p,q,h1,h2,_,h3⟩:=h;rw[h1] at h2
 cases h2
 lia
theorem Ny (ds:List RD)(m t:Nat):((dZ (sgF ds) (pcs ds) m t).map (·.1)).Nodup:=by
 rw[Nodup,pairwise_map];refine Pairwise.imp (fun {x y} (h:Lx x.1 y.1) (z:x.1=y.1)=>?_) (Kr (sg:=sgF ds) (m:=m) (tW ds) t);rw[z] at h;exact qd2 h
theorem Ic {a b:List Rat}(h:a.Perm b):fM a=fM b:=by
 induction h with
 |nil=>rfl
 |cons x _ ih=>show _+_=_+_;rw[ih]
 |swap x y l=>show y+(x+fM l)=x+(y+fM l);grind
 |trans _ _ i1 i2=>exact i1.trans i2
theorem xE {x:List Nat}{t:Nat}(h:x∈(dZ (sgF ds) (pcs ds) m t).map (·.1)):x.Pairwise (· < ·)/\x.length=t/\∀n∈x,n∈pcs ds:=by
 obtain⟨y,hy,rfl⟩:=mem_map.mp h;have F:=jZ hy;exact⟨F.r,F.l,F.i⟩
theorem sI (pt:∀d∈ds,cH (m:Int) d.2.1 d.2.2.1){a:Nat}(ha:a∈pcs ds):(((trN m ds).filter fun x=>decide (a∈x)).map (xR a)).Perm (ptN m ds (sgF ds a).1 (sgF ds a).2):=by
 have nd:(((trN m ds).filter fun x=>decide (a∈x)).map (xR a)).Nodup:=by
  rw[Nodup,pairwise_map];refine((Ny ds m (m - 1)).filter _).imp_of_mem fun {x y} hx hy ne z=>ne ?_;obtain⟨x1,x2⟩:=mem_filter.mp hx;obtain⟨y1,y2⟩:=mem_filter.mp hy;rw[<- qT (xE x1).1 (of_decide_eq_true x2),<- qT (xE y1).1 (of_decide_eq_true y2)];exact congrArg (tY a) z
 have nd2:(ptN m ds (sgF ds a).1 (sgF ds a).2).Nodup:=(Ny ds m (m - 2)).sublist (filter_sublist.map _);refine(perm_ext_iff_of_nodup nd nd2).mpr fun y=>?_;rw[<- He (tW ds) (Ka pt) ha y,mem_map];constructor
 ·rintro ⟨x,hx,rfl⟩;obtain⟨x1,x2⟩:=mem_filter.mp hx;exact⟨x,x1,of_decide_eq_true x2,rfl⟩
 ·rintro ⟨x,h1,h2,rfl⟩;exact⟨x,mem_filter.mpr ⟨h1,decide_eq_true h2⟩,rfl⟩
theorem Hu (pt:∀d∈ds,cH (m:Int) d.2.1 d.2.2.1){a:Nat}(ha:a∈pcs ds):shR ds ((trN m ds).filter fun x=>decide (a∈x))=wN ds a*shR ds (ptN m ds (sgF ds a).1 (sgF ds a).2):=by
 have e:=Ic ((sI (m:=m) pt ha).map (prW ds));unfold shR;rw[<- e,rH,map_map,map_map];congr 1;refine map_congr_left fun x hx=>?_;obtain⟨x1,x2⟩:=mem_filter.mp hx;have no:a∉xR a x:=fun z=>by simpa using (mem_filter.mp z).2
 have pr:=rJ no;rw[qT (xE x1).1 (of_decide_eq_true x2)] at pr;rw[Kh pr,qU];show _*(wN ds a*1)=wN ds a*prW ds (xR a x);grind
theorem zN (m1:1<=m)(m5:m<=5)(pt:∀d∈ds,cH (m:Int) d.2.1 d.2.2.1):shR ds (trN m ds)=fZ m ds:=by
 have:=Mu ds (fun _=>true) m (m - 1);rw[nT ds m m1 m5 pt,filter_eq_self.mpr fun _ _=>rfl] at this;unfold shR trN;rw[map_map];exact this
theorem pU {a b:Nat}{v:Nat->Rat}(m1:1<=m)(m4:m<=4)(pt:∀d∈ds,cH (m:Int) d.2.1 d.2.2.1)(nh:∀d∈ds,d.1≠.ho)(h:Ph m ds a b v)(ha:a < m)(hb:b < m):shR ds (ptN m ds a b)=(v a - v b)*fZ m ds:=by
 have:=Mu ds (apt a b) m (m - 2);rw[Vt m1 m4 pt nh h ha hb] at this;unfold shR ptN;rw[map_map];exact this
end
abbrev Hn:=Option (Nat × Nat) × RD
def rot (m t k:Nat):Nat:=(k+t) % m
structure Cf (m t:Nat) (e:Hn):Prop where
 pt:cH (m:Int) e.2.2.1 e.2.2.2.1
 sl:Low e.2.2.2.2
 bd:Bd 7 e.2.2.2.2
 pc:e.2.1=.pc->0 < e.2.2.2.2.1/\Bd 4 e.2.2.2.2
 ho:e.2.1=.ho->e.1≠none
 tg:∀k j,e.1=some (k,j)->e.2.1≠.pu/\1<=k/\k < m/\j < k/\((e.2.2.1=(rot m t k:Int)/\e.2.2.2.1=(rot m t j:Int))\/(e.2.2.1=(rot m t j:Int)/\e.2.2.2.1=(rot m t k:Int)))
abbrev tgs (E:List Hn):List (Nat × Nat):=E.filterMap (·.1)
structure Hng (m t J:Nat) (E:List Hn):Prop where
 m1:1<=m
 tm:t < m
 en:∀e∈E,Cf m t e
 nd:((tgs E).map (·.1)).Nodup
 al:∀k,1<=k->k < J->∃j,(k,j)∈tgs E
 lt:∀p∈tgs E,p.1 < J
 ln:(tgs E).length+1=J
section
variable {m t J:Nat} {E:List Hn}
theorem Pg (m1:1<=m)(k:Nat):rot m t k < m:=Nat.mod_lt _ (by lia)
theorem kQ (tm:t < m){j k:Nat}(hj:j < m)(hk:k < m)(h:rot m t j=rot m t k):j=k:=by
 unfold rot at h;have a:(j+t) % m=if j+t < m then j+t else j+t - m:=by
  split
  ·exact Nat.mod_eq_of_lt (by assumption)
  ·rw[Nat.mod_eq_sub_mod (by lia),Nat.mod_eq_of_lt (by lia)]
 have b:(k+t) % m=if k+t < m then k+t else k+t - m:=by
  split
  ·exact Nat.mod_eq_of_lt (by assumption)
  ·rw[Nat.mod_eq_sub_mod (by lia),Nat.mod_eq_of_lt (by lia)]
 rw[a,b] at h;split at h<;>split at h<;>lia
theorem yA (tm:t < m){p:Nat}(hp:p < m):∃k,k < m/\rot m t k=p:=by
 by_cases c:t<=p
 ·exact⟨p - t,by lia,by unfold rot;rw[show p - t+t=p by lia,Nat.mod_eq_of_lt hp]⟩
 ·exact⟨p+m - t,by lia,by unfold rot;rw[show p+m - t+t=p+m by lia,Nat.add_mod_right,Nat.mod_eq_of_lt hp]⟩
theorem Ak {α:Type}{E:List α}{i:Nat}{e x:α}(h:x∈E.take i++e :: E.drop i):x=e\/x∈E:=xY h
theorem Hng.ins (h:Hng m t J E){e:Hn}(he:Cf m t e)(e0:e.1=none)(i:Nat):Hng m t J (E.take i++e :: E.drop i):=by
 have et:tgs (E.take i++e :: E.drop i)=tgs E:=by
  unfold tgs;rw[filterMap_append,filterMap_cons_none e0,<- filterMap_append,take_append_drop]
 refine⟨h.m1,h.tm,fun x hx=>?_,by rw[et];exact h.nd,fun k a b=>by rw[et];exact h.al k a b,fun p hp=>h.lt p (by rw[et] at hp;exact hp),by rw[et];exact h.ln⟩;rcases xY hx with z | z
 ·rw[z];exact he
 ·exact h.en x z
theorem Hng.tree (h:Hng m t J E){e:Hn}{j:Nat}(he:Cf m t e)(e0:e.1=some (J,j))(i:Nat):Hng m t (J+1) (E.take i++e :: E.drop i):=by
 have et:(tgs (E.take i++e :: E.drop i)).Perm ((J,j) :: tgs E):=by
  unfold tgs;rw[filterMap_append,filterMap_cons_some e0];refine perm_middle.trans ?_;rw[<- filterMap_append,take_append_drop]
 refine⟨h.m1,h.tm,fun x hx=>?_,?_,fun k a b=>?_,fun p hp=>?_,?_⟩
 ·rcases xY hx with z | z
  ·rw[z];exact he
  ·exact h.en x z
 ·rw[(et.map (·.1)).nodup_iff,map_cons,nodup_cons];refine⟨fun z=>?_,h.nd⟩;obtain⟨p,hp,ep⟩:=mem_map.mp z;have:=h.lt p hp;lia
 ·by_cases c:k=J
  ·exact⟨j,et.mem_iff.mpr (by rw[c];simp)⟩
  ·obtain⟨j',hj'⟩:=h.al k a (by lia);exact⟨j',et.mem_iff.mpr (mem_cons_of_mem _ hj')⟩
 ·rcases mem_cons.mp (et.mem_iff.mp hp) with z | z
  ·rw[z];show J < J+1;lia
  ·have:=h.lt p z;lia
 ·rw[et.length_eq,length_cons,h.ln]
inductive qA (T:List (Nat × Nat)) (k:Nat):Nat->Prop where
 |self:qA T k k
 |up {p q:Nat} (h:(p,q)∈T) (u:qA T k q):qA T k p
theorem qA.ge {T:List (Nat × Nat)}{k p:Nat}(d:∀p q,(p,q)∈T->q < p)(h:qA T k p):k<=p:=by
 induction h with
 |self=>exact Nat.le_refl _
 |up h _ ih=>have:=d _ _ h;lia
theorem Ru {T:List (Nat × Nat)}(nd:(T.map (·.1)).Nodup){p q q':Nat}(h:(p,q)∈T)(h':(p,q')∈T):q=q':=by
 induction T with
 |nil=>cases h
 |cons x T ih=>
  rw[map_cons,nodup_cons] at nd;rcases mem_cons.mp h with z | z<;>rcases mem_cons.mp h' with z' | z'
  ·rw[<- z] at z';exact(Prod.ext_iff.mp z').2.symm
  ·exact absurd (mem_map.mpr ⟨_,z',by rw[<- z]⟩) nd.1
  ·exact absurd (mem_map.mpr ⟨_,z,by rw[<- z']⟩) nd.1
  ·exact ih nd.2 z z'
theorem qA.iff {T:List (Nat × Nat)}{k p q:Nat}(nd:(T.map (·.1)).Nodup)(h:(p,q)∈T)(ne:p≠k):qA T k p↔qA T k q:=by
 refine⟨fun u=>?_,fun u=>.up h u⟩
 cases u with
 |self=>exact absurd rfl ne
 |up h' u=>rw[Ru nd h h'];exact u
theorem Oy:∀{E:List Hn},((tgs E).map (·.1)).Nodup->∀{i i':Nat} {e e':Hn} {k j j':Nat},E[i]?=some e->E[i']?=some e'->e.1=some (k,j)->e'.1=some (k,j')->i=i'
 | [],_,i,_,_,_,_,_,_,h,_,_,_=>by simp at h
 |x :: E,nd,i,i',e,e',k,j,j',h,h',t,t'=>by
  have mem:∀{a:Nat} {y:Hn} {b:Nat},E[a]?=some y->y.1=some (k,b)->k∈(tgs E).map (·.1):=fun hy ty=>mem_map.mpr ⟨_,mem_filterMap.mpr ⟨_,mem_of_getElem? hy,ty⟩,rfl⟩;have nd':((tgs E).map (·.1)).Nodup:=by
   unfold tgs at nd;rw[filterMap_cons] at nd;split at nd
   ·exact nd
   ·rw[map_cons] at nd;exact(nodup_cons.mp nd).2
  have no:∀{b:Nat},x.1=some (k,b)->k∉(tgs E).map (·.1):=fun tx=>by
   unfold tgs at nd;rw[filterMap_cons_some tx,map_cons] at nd;exact(nodup_cons.mp nd).1
  match i,i',h,h' with
  |0,0,_,_=>rfl
  |0,a+1,h,h'=>
   have:x=e:=by simpa using h
   subst this;exact absurd (mem (by simpa using h') t') (no t)
  |a+1,0,h,h'=>
   have:x=e':=by simpa using h'
   subst this;exact absurd (mem (by simpa using h) t) (no t')
  |a+1,a' + 1,h,h'=>
   have:=Oy nd' (i:=a) (i':=a') (by simpa using h) (by simpa using h') t t';lia
abbrev rwH (E:List Hn):List RD:=E.map (·.2)
theorem Hng.pt (h:Hng m t J E):∀d∈rwH E,cH (m:Int) d.2.1 d.2.2.1:=fun d hd=>by
 obtain⟨e,he,rfl⟩:=mem_map.mp hd;exact(h.en e he).pt
theorem Hng.cn0 (h:Hng m t m E):∀n k,k<=n->k < m->Cn (rwH E) (rot m t 0) (rot m t k)
 |n,0,_,_=>.refl _
 |0,k+1,hk,_=>by lia
 |n+1,k+1,hk,hm=>by
  obtain⟨j,hj⟩:=h.al (k+1) (by lia) hm;obtain⟨e,he,te⟩:=mem_filterMap.mp hj;obtain⟨hp,_,_,jk,ends⟩:=(h.en e he).tg _ _ te;have ih:=Hng.cn0 h n j (by lia) (by lia);have r:Cn (rwH E) e.2.2.1.toNat e.2.2.2.1.toNat:=.row (mem_map.mpr ⟨e,he,rfl⟩) hp;rcases ends with ⟨a,b⟩ | ⟨a,b⟩
  ·rw[a,b,Int.toNat_natCast,Int.toNat_natCast] at r;exact ih.trans r.symm
  ·rw[a,b,Int.toNat_natCast,Int.toNat_natCast] at r;exact ih.trans r
theorem Hng.cn (h:Hng m t m E)(p:Nat)(hp:p < m):Cn (rwH E) 0 p:=by
 obtain⟨k,hk,rfl⟩:=yA h.tm hp;obtain⟨k0,hk0,e0⟩:=yA h.tm (show 0 < m by have:=h.m1;lia);have a:=h.cn0 k k (Nat.le_refl _) hk;have b:=h.cn0 k0 k0 (Nat.le_refl _) hk0;rw[e0] at b;exact b.symm.trans a
theorem Hng.frs (h:Hng m t J E):Frs (rwH E):=by
 intro A B d e hd cn;have at_:(rwH E)[A.length]?=some d:=by rw[e,getElem?_append_right (Nat.le_refl _),Nat.sub_self];rfl
 have atx:∀i x,i < A.length->A[i]?=some x->∃y:Hn,E[i]?=some y/\y.2=x:=fun i x hi hx=>by
  have:(rwH E)[i]?=some x:=by rw[e,getElem?_append_left hi];exact hx
  rw[getElem?_map] at this;obtain⟨y,hy,ey⟩:=Option.map_eq_some_iff.mp this;exact⟨y,hy,ey⟩
 rw[getElem?_map] at at_;obtain⟨y,hy,rfl⟩:=Option.map_eq_some_iff.mp at_;have oy:=h.en y (mem_of_getElem? hy);obtain⟨⟨k,j⟩,tk⟩:∃p,y.1=some p:=Option.ne_none_iff_exists'.mp (oy.ho hd);obtain⟨_,k1,km,jk,ends⟩:=oy.tg k j tk;have dec:∀p q,(p,q)∈tgs E->q < p:=fun p q hpq=>by
  obtain⟨z,hz,tz⟩:=mem_filterMap.mp hpq;exact((h.en z hz).tg _ _ tz).2.2.2.1
 have r:=Cn.ind (ds:=jA .ho A) (R:=fun p q=>p=q\/(p < m/\q < m/\∀a b,a < m->b < m->rot m t a=p->rot m t b=q->(qA (tgs E) k a↔qA (tgs E) k b))) (fun p=>.inl rfl) (fun p q f=>by
  rcases f with f | ⟨x,y,f⟩
  ·exact .inl f.symm
  ·exact .inr ⟨y,x,fun a b ha hb e1 e2=>(f b a hb ha e2 e1).symm⟩) (fun p q x f g=>by
  rcases f with f | ⟨f1,f2,f⟩
  ·rw[f];exact g
  ·rcases g with g | ⟨g1,g2,g⟩
   ·rw[<- g];exact .inr ⟨f1,f2,f⟩
   ·refine .inr ⟨f1,g2,fun a b ha hb e1 e2=>?_⟩;obtain⟨c,hc,ec⟩:=yA h.tm f2;exact(f a c ha hc e1 ec).trans (g c b hc hb ec e2)) (fun x hx hk=>by
  obtain⟨xA,xk⟩:=mem_filter.mp hx;obtain⟨i,hi⟩:=getElem?_of_mem xA;have il:=(List.getElem?_eq_some_iff.mp hi).1;obtain⟨z,hz,rfl⟩:=atx i x il hi;have oz:=h.en z (mem_of_getElem? hz);obtain⟨⟨k',j'⟩,tk'⟩:∃p,z.1=some p:=Option.ne_none_iff_exists'.mp (oz.ho (of_decide_eq_true xk));obtain⟨_,a1,am,jk',ends'⟩:=oz.tg k' j' tk';have ne:k'≠k:=fun c=>by
   rw[c] at tk';have:=Oy h.nd hz hy tk' tk;lia
  have mem:(k',j')∈tgs E:=mem_filterMap.mpr ⟨z,mem_of_getElem? hz,tk'⟩;have iff:=qA.iff h.nd mem ne;obtain⟨q0,q1,q2,q3⟩:=oz.pt;refine .inr ⟨by lia,by lia,fun a b ha hb e1 e2=>?_⟩;rcases ends' with ⟨x,y⟩ | ⟨x,y⟩
  ·rw[x,Int.toNat_natCast] at e1;rw[y,Int.toNat_natCast] at e2;rw[kQ h.tm ha am e1,kQ h.tm hb (by lia) e2];exact iff
  ·rw[x,Int.toNat_natCast] at e1;rw[y,Int.toNat_natCast] at e2;rw[kQ h.tm ha (by lia) e1,kQ h.tm hb am e2];exact iff.symm) cn
 have no:¬qA (tgs E) k j:=fun c=>by
  have:=c.ge dec;lia
 rcases ends with ⟨a,b⟩ | ⟨a,b⟩
 ·rw[a,b,Int.toNat_natCast,Int.toNat_natCast] at r;rcases r with r | ⟨_,_,r⟩
  ·have:=kQ h.tm km (by lia) r;lia
  ·exact no ((r k j km (by lia) rfl rfl).mp .self)
 ·rw[a,b,Int.toNat_natCast,Int.toNat_natCast] at r;rcases r with r | ⟨_,_,r⟩
  ·have:=kQ h.tm (by lia) km r;lia
  ·exact no ((r j k (by lia) km rfl rfl).mpr .self)
end
section
variable {m u:Nat} {hs:List Q2} {par:Nat->Nat} {E:List Ent}
theorem Ky {L:Int}{M x y:Nat}:∀{ds:List RD} (k:Nat),(∀d∈ds,∀k,Mq.Fr L M (cM d k x y))->Mq.Fr L (ds.length*M) (eqM k ds x y)
 | [],_,_=>Mq.Fr.zero.mono (Nat.zero_le _)
 |d :: ds,k,q=>by
  rw[length_cons,Nat.succ_mul,Nat.add_comm];exact(q d (by simp) k).add (Ky _ fun x hx=>q x (mem_cons_of_mem _ hx))
theorem Pz {L:Int}{M:Nat}{y:Rat}{c:Prop}[Decidable c](g:Mq.Fr L M y):Mq.Fr L M (if c then y else 0):=by
 split
 ·exact g
 ·exact Mq.Fr.zero.mono (Nat.zero_le _)
end
theorem Yk {m bl:Nat}{L:Int}{ds:List RD}(o:Nof m ds)(L1:1<=L)(LB:Mq.B bl L)(dv:∀d∈ds,d.1=.pc->0 < d.2.2.2.1/\d.2.2.2.1 ∣ L/\1<=d.2.2.2.2/\d.2.2.2.2.natAbs<=16)(len:ds.length<=12)(w6:wd m ds<=6)(hbl:bl<=61):EqB m 69 L ds:=by
 refine⟨o,by lia,by lia,by lia,?_,L1,LB.mono (by lia),fun i j=>?_⟩
 ·show (69+5)*(wd m ds+1)+8<=4000;lia
 have one:=Mq.Fr.one L1;have c:∀d∈ds,∀k,Mq.Fr L 18 (cM d k (i+1) (j+1)):=fun d hd k=>by
  unfold cM
  cases hk:d.1 with
  |pu=>exact Mq.Fr.zero.mono (Nat.zero_le _)
  |ho=>
   dsimp only;refine(Mq.Fr.add (Gn (Pz one) _ _ _) (N:=1) ?_).mono (by decide);rw[Rat.mul_comm];exact Gn (Pz one) _ _ _
  |pc=>
   obtain⟨p0,dvd,p1,le⟩:=dv d hd hk;dsimp only;rw[Rat.mul_assoc];have:1 / Mq.val d.2.2.2=((d.2.2.2.2:Int):Rat) / ((d.2.2.2.1:Int):Rat):=by
    have:=jL p1;have:=jL (show 1<=d.2.2.2.1 by lia);unfold Mq.val;grind
   rw[this];exact(Gn (Gn (Mq.Fr.of L1 (by lia) dvd le) _ _ _) _ _ _).mono (by decide)
 refine Mq.Fr.get (m:=8) (n:=bl) (Ky m c) ?_ LB (by lia)
 calc ds.length*18<=12*18:=Nat.mul_le_mul_right _ len
  _ < 2 ^ 8:=by decide
section
variable {m t J:Nat} {E:List Hn}
theorem Hng.hold_le (h:Hng m t J E):cJ (rwH E)+1<=J:=by
 have:∀{E:List Hn},(∀e∈E,e.2.1=.ho->e.1≠none)->cJ (rwH E)<=(tgs E).length:=fun {E}=>by
  induction E with
  |nil=>intro _;exact Nat.le_refl _
  |cons e E ih=>
   intro h;have ih:=ih fun x hx=>h x (mem_cons_of_mem _ hx);show cJ (e.2 :: rwH E)<=_;rw[fQ];unfold tgs at ih ⊢;rw[filterMap_cons]
   by_cases c:e.2.1=.ho
   ·obtain⟨k,tk⟩:∃k,e.1=some k:=Option.ne_none_iff_exists'.mp (h e (by simp) c);rw[tk];have:cQ e.2.1=1:=if_pos c;simp only[length_cons];lia
   ·have:cQ e.2.1=0:=if_neg c;split<;>(try simp only[length_cons])<;>lia
 have a:=this fun e he hk=>(h.en e he).ho hk;have:=h.ln;lia
theorem Hng.nof (h:Hng m t m E):Nof m (rwH E):=by
 refine⟨h.m1,h.pt,fun d hd hk=>?_,h.cn,h.frs⟩;obtain⟨e,he,rfl⟩:=mem_map.mp hd;have p0:=((h.en e he).pc hk).1;have:=(h.en e he).sl.pos;unfold Mq.val;rw[Rat.div_def];exact Rat.mul_pos (by exact_mod_cast p0) (Rat.inv_pos.mpr (by exact_mod_cast (show 0 < e.2.2.2.2.2 by lia)))
def LH (E:List Hn):Int:=Mq.prB (E.map fun e=>if e.2.1=.pc then e.2.2.2.2.1 else 1)
theorem Hng.L (h:Hng m t J E):1<=LH E/\Mq.B (4*E.length+1) (LH E)/\∀d∈rwH E,d.1=.pc->0 < d.2.2.2.1/\d.2.2.2.1 ∣ LH E/\1<=d.2.2.2.2/\d.2.2.2.2.natAbs<=16:=by
 have al:∀a∈(E.map fun e=>if e.2.1=.pc then e.2.2.2.2.1 else 1),1<=a/\Mq.B 4 a:=fun a ha=>by
  obtain⟨e,he,rfl⟩:=mem_map.mp ha;split
  ·rename_i c
   obtain⟨p0,b⟩:=(h.en e he).pc c;exact⟨p0,b.a⟩
  ·exact⟨by decide,show (1:Nat) < 2 ^ 4 by decide⟩
 refine⟨Mq.Fw fun a ha=>(al a ha).1,?_,fun d hd hk=>?_⟩
 ·have:=Mq.Ur (u:=4) fun a ha=>(al a ha).2;rw[length_map] at this;exact this
 ·obtain⟨e,he,rfl⟩:=mem_map.mp hd;obtain⟨p0,b⟩:=(h.en e he).pc hk;refine⟨p0,Mq.Fn (mem_map.mpr ⟨e,he,if_pos hk⟩),(h.en e he).sl.pos,Nat.le_of_lt b.b⟩
end
section
variable {X:Cx}
def Zr (K:Frag):R2:=fun x y H Q=>∃(p:Addr) (xs:List V) (dx:PyData) (ds:List PyData),y=.ref p/\SqL K H p xs/\lL K H x dx/\oA K H xs ds/\dx.canLay0=true/\(∀d∈ds,d.canLay0=true)/\dx.depth<=16/\(∃d∈ds,d.eqv dx=true)/\Q (.bl false) H
theorem wT {K:Frag}{H:Hp}:∀{xs:List V} {ds:List PyData} {us:List Value},oA K H xs ds->bQ xs us->(∀u∈us,∃x d,bU x u/\lL K H x d/\d∈ds)/\∀d∈ds,∃x u,bU x u/\lL K H x d/\u∈us
 |_,_,_,.nil,.nil=>⟨fun u h=>(by cases h),fun d h=>(by cases h)⟩
 |_,_,_,.cons p q,.cons r t=>by
  obtain⟨a,b⟩:=wT q t;refine⟨fun u hu=>?_,fun d hd=>?_⟩
  ·rcases mem_cons.mp hu with rfl | hu
   ·exact⟨_,_,r,p,mem_cons_self ..⟩
   ·obtain⟨x,d,h1,h2,h3⟩:=a u hu;exact⟨x,d,h1,h2,mem_cons_of_mem _ h3⟩
  ·rcases mem_cons.mp hd with rfl | hd
   ·exact⟨_,_,r,p,mem_cons_self ..⟩
   ·obtain⟨x,u,h1,h2,h3⟩:=b d hd;exact⟨x,u,h1,h2,mem_cons_of_mem _ h3⟩
open Classical in
theorem Ig (hu:X.A.units+64 < cLine):OpR X (compareOp .NotIn) (Zr X.K):=by
 intro pins s σ H x y v u Q I rx ry h;obtain⟨p,xs,dx,ds,rfl,hq,hx,hd,cx,cd,dep,⟨d0,hd0,e0⟩,q⟩:=h
 cases ry
 obtain⟨its,r,pl,hz⟩:=I.list hq;obtain⟨bs,rdx⟩:=fI I hx rx;obtain⟨g1,g2⟩:=wT hd r;refine SeqAt.notIn_listAt (fun y=>decide (∃d as,Reads s.heap y d as/\d.canLay0=true/\d.eqv dx=true)) pl.isList (fun w hw=>?_) ⟨.bl false,H,I,?_,q⟩
 ·obtain⟨x',d,h1,h2,h3⟩:=g1 w (by simpa using hw);obtain⟨as,rd⟩:=fI I h2 h1;have:decide (∃d as,Reads s.heap w d as/\d.canLay0=true/\d.eqv dx=true)=d.eqv dx:=by
   rw[Bool.eq_iff_iff,decide_eq_true_iff];constructor
   ·rintro ⟨d',as',r',c',e'⟩;have:=SeqAt.Reads.unique d' d w as' as c' r' rd;subst this;exact e'
   ·intro e;exact⟨d,as,rd,cd d h3,e⟩
  rw[this];exact SeqAt.eqAt_reads d dx _ s w v as bs rd rdx (cd d h3) cx (by show X.A.units+1+_ < _;lia)
 ·show Value.bool _=Value.bool false;congr 1;obtain⟨x',u',h1,h2,h3⟩:=g2 d0 hd0;obtain⟨as,rd⟩:=fI I h2 h1;rw[Bool.not_eq_false',Array.any_eq_true'];exact⟨u',by simpa using h3,decide_eq_true ⟨d0,as,rd,cd d0 hd0,e0⟩⟩
theorem Xr {K:Frag}{H H0:Hp}{a p:Addr}{ns:List Int}{us:List V}{Y:List (List Int)}{Q:VK}(h1:SqL K H a (ns.map V.int))(h2:SqL K H p us)(f:Ils H0 H us Y)(m:ns∈Y)(q:Q (.bl false) H):Zr K (.ref a) (.ref p) H Q:=by
 have dv:∀(us:List V) (Y:List (List Int)),us.length=Y.length->(∀(i:Nat) (x:V) (ps:List Int),us[i]?=some x->Y[i]?=some ps->∃a:Addr,x=.ref a/\H a=some (.lst (ps.map V.int)))->oA K H us (Y.map fun ps=>PyData.list (ps.map PyData.int)):=by
  intro us
  induction us with
  |nil=>intro Y h _;cases Y with
   |nil=>exact .nil
   |cons _ _=>cases h
  |cons u us ih=>
   intro Y h g
   cases Y with
   |nil=>cases h
   |cons y Y=>
    obtain⟨b,rfl,hb⟩:=g 0 u y rfl rfl;exact .cons (.lst (SqL.of hb) (oK y)) (ih Y (Nat.succ.inj h) fun i x ps e1 e2=>g (i+1) x ps e1 e2)
 refine⟨p,us,_,_,rfl,h2,.lst h1 (oK ns),dv us Y f.l fun i x ps e1 e2=>let ⟨b,e,_,r⟩:=f.r i x ps e1 e2;⟨b,e,r⟩,jT ns,fun d hd=>?_,by have:=tL ns;simp only[PyData.depth];lia,⟨_,mem_map.mpr ⟨ns,m,rfl⟩,PySem.SeqAt.eqv_refl _ (jT ns)⟩,q⟩;obtain⟨y,_,rfl⟩:=mem_map.mp hd;exact jT y
end
open PySem.W
theorem Lw {q:Program}{loose:List Str}{XP:(Str->Option Value)->Heap->Prop}{K:Params->Frag}{bs:List Addr}{n t:Nat}{r:RowW}{d:DefRec}{kwd:List (Str × Expr)}{run:Value->List Value->Sem Value}(e:∀P,bs=(K P).map (·.1))(h:WalkO q loose XP (fun w h=>(K w.params).In h) r d kwd run):WalkX q loose XP (W.X.obsZ bs) (W.X.valZ K n t) r d kwd run:=
 fun w s₀ s₁ mg mb G y a o pm cd doc dV kV h1 h2 h3 h4 h5 h6 args vals as' L=>h w s₀ s₁ mg mb G (InK.keeps w _ _ (W.X.z_facts e y).2.1 L.keeps) a o pm cd doc dV kV h1 h2 h3 h4 h5 h6 args vals as'
section
variable {K:Frag} {x qual:Str} {st:Stmt} {dV:Value} {f:Addr} {fd:FuncData}
theorem aU.b1 (a:Str)(F:aU K x qual st dV f fd)(h:∀(kV doc pm:Value) (an:Option Addr) (cdv ct u:Value),bindArgs (W.fnOf x qual (dF st) (cG st) (aH st) dV kV doc pm an cdv ct) ⟨[u],[]⟩=pure [(a,u)]):aL K fd [a] []:=
 F.binds fun k d p n c t us hl=>match us,hl with | [_],_=>h k d p n c t _
theorem aU.b2 (a b:Str)(F:aU K x qual st dV f fd)(h:∀(kV doc pm:Value) (an:Option Addr) (cdv ct u v:Value),bindArgs (W.fnOf x qual (dF st) (cG st) (aH st) dV kV doc pm an cdv ct) ⟨[u,v],[]⟩=pure [(a,u),(b,v)]):aL K fd [a,b] []:=
 F.binds fun k d p n c t us hl=>match us,hl with | [_,_],_=>h k d p n c t _ _
theorem aU.b3 (a b c:Str)(F:aU K x qual st dV f fd)(h:∀(kV doc pm:Value) (an:Option Addr) (cdv ct u v w:Value),bindArgs (W.fnOf x qual (dF st) (cG st) (aH st) dV kV doc pm an cdv ct) ⟨[u,v,w],[]⟩=pure [(a,u),(b,v),(c,w)]):aL K fd [a,b,c] []:=
 F.binds fun k d p n c t us hl=>match us,hl with | [_,_,_],_=>h k d p n c t _ _ _
theorem aU.b4 (a b c e:Str)(F:aU K x qual st dV f fd)(h:∀(kV doc pm:Value) (an:Option Addr) (cdv ct u v w z:Value),bindArgs (W.fnOf x qual (dF st) (cG st) (aH st) dV kV doc pm an cdv ct) ⟨[u,v,w,z],[]⟩=pure [(a,u),(b,v),(c,w),(e,z)]):aL K fd [a,b,c,e] []:=
 F.binds fun k d p n c t us hl=>match us,hl with | [_,_,_,_],_=>h k d p n c t _ _ _ _
theorem aU.b5 (a b c e g:Str)(F:aU K x qual st dV f fd)(h:∀(kV doc pm:Value) (an:Option Addr) (cdv ct u v w z y:Value),bindArgs (W.fnOf x qual (dF st) (cG st) (aH st) dV kV doc pm an cdv ct) ⟨[u,v,w,z,y],[]⟩=pure [(a,u),(b,v),(c,w),(e,z),(g,y)]):aL K fd [a,b,c,e,g] []:=
 F.binds fun k d p n c t us hl=>match us,hl with | [_,_,_,_,_],_=>h k d p n c t _ _ _ _ _
end
end L2
namespace K69
open PySem L2
def top (i:Nat):Stmt:=PySem.Challenge.pw_ohmyard_k69_whole_trees_by_trees.main.body.getD i (.Pass ⟨0,0,0,0⟩)
section
variable {P:Program} {w:World} {K:Frag} {mg:Str->Option Value} {base:Heap} {f g1 g2 g3 g4 g5 g6 g7 g8:Addr} {fd gd1 gd2 gd3 gd4 gd5 gd6 gd7 gd8:FuncData} {CX:CXT}
abbrev Dc:Stmt:=top 15
theorem Ud:aQ ["thing"] ["thing"] (aH Dc):=sK9 rfl rfl rfl rfl (by decide +kernel)
theorem Pf {dV:Value}(F:aU K "is_whole" "is_whole" Dc dV f fd)(b:Bl mg):aM P w K mg base CX 1 f fd ["thing"] (nU K):=by
 refine F.ok Ud (fun vs H Q E h=>?_) fun cdv A outer s H vs Q E hr h=>?_
 ·obtain⟨_,rfl,_⟩:=h;rfl
 obtain⟨x,rfl,h⟩:=h;refine⟨_,aF (aV (uJ (gU (i:=0) rfl (Or.inl rfl) b.isi b.int rfl rfl PyProof.Rows.boot_int) (uF (Yv (gU (i:=0) rfl (Or.inl rfl) b.isi b.bool rfl rfl PyProof.Rows.boot_bool))))),?_⟩;rcases h with ⟨i,rfl,q⟩ | ⟨t,ty,nw,q⟩
 ·exact⟨_,_,_,rfl,.of (.int i),rfl,_,rfl,fL ⟨_,_,false,rfl,.of (.int i),(by with_unfolding_all rfl),_,rfl,q⟩⟩
 ·rcases nw with rfl | rfl | rfl | rfl | rfl
  ·exact⟨_,_,true,rfl,.of ty,(by with_unfolding_all rfl),_,rfl,fL ⟨_,_,_,rfl,.of ty,rfl,_,rfl,q⟩⟩
  all_goals exact⟨_,_,false,rfl,.of ty,(by with_unfolding_all rfl),_,rfl,fB q⟩
abbrev sGc:Stmt:=top 17
theorem Rm:aQ ["one","other","rest"] ["one","other"] (aH sGc):=sK9 rfl rfl rfl rfl (by decide +kernel)
theorem qd7 {dV:Value}(F:aU K "greatest_common" "greatest_common" sGc dV f fd)(b:Bl mg):aM P w K mg base CX 1 f fd ["one","other"] Qq:=by
 refine F.ok Rm (fun vs H Q E h=>?_) fun cdv A outer s H vs Q E hr h=>?_
 ·obtain⟨_,_,rfl,_⟩:=h;rfl
 obtain⟨x,y,rfl,q⟩:=h;refine⟨_,aB (rN PassesOwn.never (bF jX (pv 1) aE (bH _)) (aB (aR (i:=2) Rm.nd rfl (Or.inl rfl) (aY jE (pv 0) (pv 1)))
  (aB (aR (i:=0) Rm.nd rfl (Or.inl rfl) (pv 1)) (aF (aR (i:=1) Rm.nd rfl (Or.inl rfl) (pv 2))))))
  (aF (aV (bO tK rfl b.abs PyProof.Rows.boot_abs (aA (pv 0) aC)))),?_⟩
 refine sQ (fun σ H'=>H'=H/\∃u v z,σ=[some (.int u),some (.int v),z]/\gc u v=gc x y) (fun σ _=>match σ with | [_,some (.int v),_]=>v.natAbs | _=>0) ⟨rfl,x,y,none,rfl,rfl⟩ ?_ ?_
 ·rintro σ H' ⟨rfl,u,v,z,rfl,e⟩;refine⟨_,rfl,rfl,_,rfl,?_⟩;refine qC (fun c=>?_) (fun c=>?_)
  ·have hv:v≠0:=by intro q;subst q;simp at c
   refine⟨_,rfl,_,rfl,_,_,rfl,rfl,hv,_,rfl,_,rfl,⟨rfl,v,Int.fmod u v,_,rfl,(El u v).trans e⟩,vG hv⟩
  ·have hv:v=0:=by
    simp at c;exact c
   subst hv;refine⟨_,rfl,_,rfl,?_⟩;rw[<- Fa,e];exact q
 ·rintro σ H Q Q' m ⟨v,h1,h2,k,h3,h4⟩;exact⟨v,h1,h2,k,h3,m _ _ h4⟩
abbrev Cl:Stmt:=top 23
theorem Qo:aQ ["one","other"] ["one","other"] (aH Cl):=sK9 rfl rfl rfl rfl (by decide +kernel)
theorem Mz {dV:Value}(F:aU K "under" "under" Cl dV f fd):aM P w K mg base CX 1 f fd ["one","other"] (Gy K):=by
 refine F.ok Qo (fun vs H Q E h=>?_) fun cdv A outer s H vs Q E hr h=>?_
 ·obtain⟨_,_,_,_,_,_,rfl,_⟩:=h;rfl
 obtain⟨a,b,p,q,n,m,rfl,ha,hb,bp,bq,hn,z⟩:=h;refine⟨_,aF (aV (gW tH (aY cD (aS aX (pv 0) aE (fun _ _=>rfl)) (aS aX (pv 1) aE (fun _ _=>rfl))) (aY cD (aS aX (pv 1) aE (fun _ _=>rfl)) (aS aX (pv 0) aE (fun _ _=>rfl))) (bH _))),?_⟩;exact dW rfl ha (cN rfl hb (cF bp.a bq.b (by lia) (by lia) (dW rfl hb (cN rfl ha (cF bq.a bp.b (by lia) (by lia) ⟨_,_,rfl,rfl,z⟩)))))
abbrev jM:Stmt:=top 18
theorem Ct:aQ ["top","bottom","shared"] ["top","bottom"] (aH jM):=sK9 rfl rfl rfl rfl (by decide +kernel)
theorem Qy {dV:Value}(F:aU K "fraction" "fraction" jM dV f fd)(G1:aM P w K mg base CX0 1 g1 gd1 ["thing"] (nU K))(b1:aL K gd1 ["thing"] [])(k1:kI9 K g1)(m1:mI9 mg "is_whole" g1)(G2:aM P w K mg base CX0 1 g2 gd2 ["one","other"] Qq)(b2:aL K gd2 ["one","other"] [])(k2:kI9 K g2)(m2:mI9 mg "greatest_common" g2) :
  aM P w K mg base CX 2 f fd ["top","bottom"] gJ:=by
 refine F.ok Ct (fun vs H Q E h=>?_) fun cdv A outer s H vs Q E hr h=>?_
 ·obtain⟨_,_,_,rfl,_⟩:=h;rfl
 obtain⟨t,b,n,rfl,hb,hB,hn,q⟩:=h;refine⟨_,aB (cC (PW.pt (nX (gB (eG (aG G1 hr rfl m1 k1 b1 .nil aK (aA (pv 0) aC)))) (nX (gB (eG (aG G1 hr rfl m1 k1 b1 .nil aK (aA (pv 1) aC)))) (lU (bF fG (pv 1) aE (bH _)))))) Hf bK)
  (aB (aR (i:=2) Ct.nd rfl (Or.inl rfl) (aG G2 hr rfl m2 k2 b2 .nil aK (aA (pv 0) (aA (pv 1) aC))))
  (aB (cC (bF tH (pv 1) aE (bH _)) (aF (aR (i:=2) Ct.nd rfl (Or.inl rfl) (Gp yN (pv 2)))) bK)
  (aF (aV (eY (aA (aY iB (pv 0) (pv 2)) (aA (aY iB (pv 1) (pv 2)) aC))))))),?_⟩
 have hd:=oW (t:=t) hb;have hdB:Mq.B n (dvr t b):=hB.le (Bz hb);have c0:decide (V.int b=V.int 0)=false:=decide_eq_false (fun z=>hb (by cases z;rfl));refine⟨_,rfl,_,rfl,.inl ⟨t,rfl,_,rfl,fB ⟨_,rfl,_,rfl,.inl ⟨b,rfl,_,rfl,fB ⟨_,rfl,rfl,_,rfl,?_⟩⟩⟩⟩⟩;rw[c0];refine fB ⟨_,rfl,_,rfl,t,b,rfl,?_⟩;refine⟨_,rfl,_,_,rfl,rfl,_,rfl,?_⟩;refine qC (fun c=>?_) (fun c=>?_)
 ·have hlt:b < 0:=of_decide_eq_true c;have e:dvr t b=-gc t b:=by unfold dvr;rw[if_pos hlt]
  rw[e] at hd hdB;have q':qE H Q (t.fdiv (-gc t b),b.fdiv (-gc t b)):=by
   have z:=q;unfold red at z;rw[e] at z;exact z
  refine⟨_,rfl,_,rfl,?_⟩;refine⟨_,rfl,_,rfl,?_⟩;refine fC hd hdB hn ⟨_,rfl,_,rfl,fC hd hdB hn ⟨zl9 2,fun p hp=>?_⟩⟩;exact q' p _ (aI hp _) aD
 ·have hlt:¬b < 0:=fun z=>c (decide_eq_true z);have e:dvr t b=gc t b:=by unfold dvr;rw[if_neg hlt]
  rw[e] at hd hdB;have q':qE H Q (t.fdiv (gc t b),b.fdiv (gc t b)):=by
   have z:=q;unfold red at z;rw[e] at z;exact z
  refine⟨_,rfl,_,rfl,?_⟩;refine fC hd hdB hn ⟨_,rfl,_,rfl,fC hd hdB hn ⟨zl9 2,fun p hp=>?_⟩⟩;exact q' p _ (aI hp _) aD
abbrev Ch:Stmt:=top 20
theorem Sb:aQ ["one","other"] ["one","other"] (aH Ch):=sK9 rfl rfl rfl rfl (by decide +kernel)
theorem Kp {dV:Value}(F:aU K "minus" "minus" Ch dV f fd)(G1:aM P w K mg base CX0 2 g1 gd1 ["top","bottom"] gJ)(b1:aL K gd1 ["top","bottom"] [])(k1:kI9 K g1)(m1:mI9 mg "fraction" g1) :
  aM P w K mg base CX 3 f fd ["one","other"] (iT K Mq.minus):=by
 refine F.ok Sb (fun vs H Q E h=>?_) fun cdv A outer s H vs Q E hr h=>?_
 ·obtain⟨_,_,_,_,_,_,rfl,_⟩:=h;rfl
 obtain⟨a,b,p,q,n,m,rfl,ha,hb,lp,lq,bp,bq,hn,z⟩:=h;refine⟨_,aF (aV (aG G1 hr rfl m1 k1 b1 .nil aK (aA
  (aY jY (aY cD (aS aX (pv 0) aE (fun _ _=>rfl)) (aS aX (pv 1) aE (fun _ _=>rfl))) (aY cD (aS aX (pv 1) aE (fun _ _=>rfl)) (aS aX (pv 0) aE (fun _ _=>rfl))))
  (aA (aY cD (aS aX (pv 0) aE (fun _ _=>rfl)) (aS aX (pv 1) aE (fun _ _=>rfl))) aC)))),?_⟩
 refine dW rfl ha (cN rfl hb (cF bp.a bq.b (by lia) (by lia) (dW rfl hb (cN rfl ha (cF bq.a bp.b (by lia) (by lia) ⟨_,_,rfl,rfl,?_⟩)))));refine cN rfl ha (cN rfl hb (cF bp.b bq.b (by lia) (by lia) ⟨_,_,n+m,rfl,gH lp lq,bp.b.mul bq.b,by lia,z⟩))
abbrev Lg:Stmt:=top 19
theorem Xx:aQ ["one","other"] ["one","other"] (aH Lg):=sK9 rfl rfl rfl rfl (by decide +kernel)
theorem Rp {dV:Value}(F:aU K "plus" "plus" Lg dV f fd)(G1:aM P w K mg base CX0 2 g1 gd1 ["top","bottom"] gJ)(b1:aL K gd1 ["top","bottom"] [])(k1:kI9 K g1)(m1:mI9 mg "fraction" g1) :
  aM P w K mg base CX 3 f fd ["one","other"] (iT K oR):=by
 refine F.ok Xx (fun vs H Q E h=>?_) fun cdv A outer s H vs Q E hr h=>?_
 ·obtain⟨_,_,_,_,_,_,rfl,_⟩:=h;rfl
 obtain⟨a,b,p,q,n,m,rfl,ha,hb,lp,lq,bp,bq,hn,z⟩:=h;refine⟨_,aF (aV (aG G1 hr rfl m1 k1 b1 .nil aK (aA
  (aY eE (aY cD (aS aX (pv 0) aE (fun _ _=>rfl)) (aS aX (pv 1) aE (fun _ _=>rfl))) (aY cD (aS aX (pv 1) aE (fun _ _=>rfl)) (aS aX (pv 0) aE (fun _ _=>rfl))))
  (aA (aY cD (aS aX (pv 0) aE (fun _ _=>rfl)) (aS aX (pv 1) aE (fun _ _=>rfl))) aC)))),?_⟩
 refine dW rfl ha (cN rfl hb (cF bp.a bq.b (by lia) (by lia) (dW rfl hb (cN rfl ha (cF bq.a bp.b (by lia) (by lia) ⟨_,_,rfl,rfl,?_⟩)))));refine cN rfl ha (cN rfl hb (cF bp.b bq.b (by lia) (by lia) ⟨_,_,n+m,rfl,gH lp lq,bp.b.mul bq.b,by lia,z⟩))
variable {CR:Addr} {CK:Kd->Addr} {fW fJ fT fS:Kd->Addr} {fdW fdJ fdT fdS:Kd->FuncData}
abbrev Dx:Stmt:=fH (top 35) 0
theorem Ri:aQ ["self","start","goal","size"] ["self","start","goal","size"] (aH Dx):=sK9 rfl rfl rfl rfl (by decide +kernel)
theorem Oi {dV:Value}(F:aU K "__init__" "Row.__init__" Dx dV f fd)(T:RT K mg CR CK):aM P w K mg base CX 1 f fd ["self","start","goal","size"] (wU CK):=by
 refine F.ok Ri (fun vs H Q E h=>?_) fun cdv A outer s H vs Q E hr h=>?_
 ·obtain⟨_,_,_,_,_,_,rfl,_⟩:=h;rfl
 obtain⟨x,dx,k,s,g,z,rfl,hx,q⟩:=h;refine⟨_,(aB (rG (pv 0) (pv 1) rfl) (aB (rG (pv 0) (pv 2) rfl) (aF (rG (pv 0) (pv 3) rfl)))),?_⟩;have l1:=gF ("start":Str) s [];have l2:=gF ("goal":Str) g (iF "start" s []);simp only[length_nil] at l1;refine⟨_,rfl,_,rfl,x,CK k,dx,[],rfl,hx,T.cl k,T.nS k,(by show 0 < 1000;decide),?_⟩;refine⟨_,rfl,_,rfl,x,CK k,dx,_,rfl,aD,T.cl k,T.nG k,by lia,?_⟩;refine⟨_,rfl,_,rfl,x,CK k,dx,_,rfl,aD,T.cl k,T.nZ k,by lia,?_⟩;rw[oC,oC];exact q
abbrev sY:Stmt:=fH (top 36) 0
theorem Ho:aQ ["self"] ["self"] (aH sY):=sK9 rfl rfl rfl rfl (by decide +kernel)
theorem Do {dV:Value}(F:aU K "word" "Piece.word" sY dV f fd):aM P w K mg base CX 1 f fd ["self"] (jC .pc):=by
 refine F.ok Ho (fun vs H Q E h=>?_) fun cdv A outer s H vs Q E hr h=>?_
 ·obtain⟨_,rfl,_⟩:=h;rfl
 obtain⟨x,rfl,q⟩:=h;exact⟨_,(aF (aV cS)),q⟩
abbrev rB:Stmt:=fH (top 37) 0
theorem Hl:aQ ["self"] ["self"] (aH rB):=sK9 rfl rfl rfl rfl (by decide +kernel)
theorem Cu {dV:Value}(F:aU K "word" "Push.word" rB dV f fd):aM P w K mg base CX 1 f fd ["self"] (jC .pu):=by
 refine F.ok Hl (fun vs H Q E h=>?_) fun cdv A outer s H vs Q E hr h=>?_
 ·obtain⟨_,rfl,_⟩:=h;rfl
 obtain⟨x,rfl,q⟩:=h;exact⟨_,(aF (aV cS)),q⟩
abbrev rX:Stmt:=fH (top 38) 0
theorem Jp:aQ ["self"] ["self"] (aH rX):=sK9 rfl rfl rfl rfl (by decide +kernel)
theorem Dn {dV:Value}(F:aU K "word" "Hold.word" rX dV f fd):aM P w K mg base CX 1 f fd ["self"] (jC .ho):=by
 refine F.ok Jp (fun vs H Q E h=>?_) fun cdv A outer s H vs Q E hr h=>?_
 ·obtain⟨_,rfl,_⟩:=h;rfl
 obtain⟨x,rfl,q⟩:=h;exact⟨_,(aF (aV cS)),q⟩
abbrev Dj:Stmt:=fH (top 35) 1
theorem Sr:aQ ["self"] ["self"] (aH Dj):=sK9 rfl rfl rfl rfl (by decide +kernel)
theorem Ot {dV:Value}(F:aU K "told" "Row.told" Dj dV f fd)(T:RT K mg CR CK)(GW:∀k,aM P w K mg base CX0 1 (fW k) (fdW k) ["self"] (jC k))(bW:∀k,aL K (fdW k) ["self"] [])(mW:∀k,fR K (CK k) "word" (fW k)):aM P w K mg base CX 2 f fd ["self"] (xQ CK):=by
 refine F.ok Sr (fun vs H Q E h=>?_) fun cdv A outer s H vs Q E hr h=>?_
 ·obtain⟨_,_,_,_,_,rfl,_⟩:=h;rfl
 obtain⟨x,k,s,g,z,rfl,⟨dx,hx⟩,q⟩:=h;refine⟨_,(aF (aV (eY (aA (fF (pv 0) T.cl mW GW hr bW .nil aK) (aA (cI (pv 0) rfl) (aA (cI (pv 0) rfl) (aA (cI (pv 0) rfl) aC))))))),?_⟩;refine⟨_,rfl,k,x,dx,_,rfl,hx,(eU _ _ _ (by decide +kernel) (by decide +kernel) (by decide +kernel)),_,rfl,?_⟩;refine⟨_,rfl,x,CK k,dx,_,_,rfl,hx,T.cl k,T.nS k,cY _ _ _,?_⟩;refine⟨_,rfl,x,CK k,dx,_,_,rfl,hx,T.cl k,T.nG k,dP _ _ _,?_⟩;refine⟨_,rfl,x,CK k,dx,_,_,rfl,hx,T.cl k,T.nZ k,hZ _ _ _,?_⟩;exact⟨zl9 4,q⟩
abbrev Df:Stmt:=top 39
theorem Fc:aQ ["told","word"] ["told"] (aH Df):=sK9 rfl rfl rfl rfl (by decide +kernel)
theorem Kb {dV:Value}{gI:Addr}{gdI:FuncData}(F:aU K "row_of" "row_of" Df dV f fd)(T:RT K mg CR CK)(b:Bl mg)(ms:mg "str"=none)(GI:aM P w K mg base CX0 1 gI gdI ["self","start","goal","size"] (wU CK))(bI:aL K gdI ["self","start","goal","size"] [])(MK:∀k,Mk K (CK k) gI):aM P w K mg base CX 3 f fd ["told"] (tI K CK):=by
 refine F.ok Fc (fun vs H Q E h=>?_) fun cdv A outer s H vs Q E hr h=>?_
 ·obtain⟨_,_,_,_,_,rfl,_⟩:=h;rfl
 obtain⟨t,v,s,g,z,rfl,hT,k,rfl,q⟩:=h;refine⟨_,(aB (aR (i:=1) Fc.nd rfl (Or.inl rfl) (aS aX (pv 0) aE (fun _ _=>rfl)))
  (aB (cC (PW.pt (rV (eG (gU (i:=1) rfl (Or.inl rfl) b.isi ms rfl rfl PyProof.Rows.boot_str)) (oB (bF fG (pv 1) cS (bH _))))) (aF (aV (mS (MK .pc) GI hr rfl (T.mK .pc) bI .nil aK (aA (aS aX (pv 0) aE (fun _ _=>rfl)) (aA (aS aX (pv 0) aE (fun _ _=>rfl)) (aA (aS aX (pv 0) aE (fun _ _=>rfl)) aC)))))) bK)
  (aB (cC (PW.pt (rV (eG (gU (i:=1) rfl (Or.inl rfl) b.isi ms rfl rfl PyProof.Rows.boot_str)) (oB (bF fG (pv 1) cS (bH _))))) (aF (aV (mS (MK .pu) GI hr rfl (T.mK .pu) bI .nil aK (aA (aS aX (pv 0) aE (fun _ _=>rfl)) (aA (aS aX (pv 0) aE (fun _ _=>rfl)) (aA (aS aX (pv 0) aE (fun _ _=>rfl)) aC)))))) bK)
  (aB (cC (PW.pt (rV (eG (gU (i:=1) rfl (Or.inl rfl) b.isi ms rfl rfl PyProof.Rows.boot_str)) (oB (bF fG (pv 1) cS (bH _))))) (aF (aV (mS (MK .ho) GI hr rfl (T.mK .ho) bI .nil aK (aA (aS aX (pv 0) aE (fun _ _=>rfl)) (aA (aS aX (pv 0) aE (fun _ _=>rfl)) (aA (aS aX (pv 0) aE (fun _ _=>rfl)) aC)))))) bK)
  (aF eT))))),?_⟩
 cases k
 ·refine Wv (fun _ _=>False) (fun X _=>?_) (fun _ _ h=>h.elim);refine⟨_,rfl,t,_,0,_,rfl,rfl,hT,rfl,?_⟩;exact⟨_,_,true,rfl,.of (.str _),rfl,_,rfl,fL ⟨_,rfl,rfl,_,rfl,ifT (dY .pc .pc) ⟨_,rfl,t,_,1,s,rfl,rfl,hT,rfl,_,rfl,t,_,2,g,rfl,rfl,hT,rfl,_,rfl,t,_,3,z,rfl,rfl,hT,rfl,fun x dx h1 h2 ne=>⟨x,dx,.pc,s,g,z,rfl,aD,rfl,by rw[oC];exact q x _ (Rw.new h1 h2 ne) h1 ⟨dx,aD⟩⟩⟩⟩⟩
 ·refine qj0 (fun _ _=>False) (fun X _=>?_) (fun _ _ h=>h.elim);refine⟨_,rfl,t,_,0,_,rfl,rfl,hT,rfl,?_⟩;exact⟨_,_,true,rfl,.of (.str _),rfl,_,rfl,fL ⟨_,rfl,rfl,_,rfl,ifF (dY .pu .pc) (⟨_,_,true,rfl,.of (.str _),rfl,_,rfl,fL ⟨_,rfl,rfl,_,rfl,ifT (dY .pu .pu) ⟨_,rfl,t,_,1,s,rfl,rfl,hT,rfl,_,rfl,t,_,2,g,rfl,rfl,hT,rfl,_,rfl,t,_,3,z,rfl,rfl,hT,rfl,fun x dx h1 h2 ne=>⟨x,dx,.pu,s,g,z,rfl,aD,rfl,by rw[oC];exact q x _ (Rw.new h1 h2 ne) h1 ⟨dx,aD⟩⟩⟩⟩⟩)⟩⟩
 ·refine qg1 (fun _ _=>False) (fun X _=>?_) (fun _ _ h=>h.elim);refine⟨_,rfl,t,_,0,_,rfl,rfl,hT,rfl,?_⟩;exact⟨_,_,true,rfl,.of (.str _),rfl,_,rfl,fL ⟨_,rfl,rfl,_,rfl,ifF (dY .ho .pc) (⟨_,_,true,rfl,.of (.str _),rfl,_,rfl,fL ⟨_,rfl,rfl,_,rfl,ifF (dY .ho .pu) (⟨_,_,true,rfl,.of (.str _),rfl,_,rfl,fL ⟨_,rfl,rfl,_,rfl,ifT (dY .ho .ho) ⟨_,rfl,t,_,1,s,rfl,rfl,hT,rfl,_,rfl,t,_,2,g,rfl,rfl,hT,rfl,_,rfl,t,_,3,z,rfl,rfl,hT,rfl,fun x dx h1 h2 ne=>⟨x,dx,.ho,s,g,z,rfl,aD,rfl,by rw[oC];exact q x _ (Rw.new h1 h2 ne) h1 ⟨dx,aD⟩⟩⟩⟩⟩)⟩⟩)⟩⟩
abbrev Vw:Stmt:=top 16
theorem qf2:aQ ["thing"] ["thing"] (aH Vw):=sK9 rfl rfl rfl rfl (by decide +kernel)
theorem Ww {dV:Value}(F:aU K "is_fraction" "is_fraction" Vw dV f fd)(b:Bl mg)(ml:mg "len"=none)(mt:mg "tuple"=none)(G1:aM P w K mg base CX0 1 g1 gd1 ["thing"] (nU K))(b1:aL K gd1 ["thing"] [])(k1:kI9 K g1)(m1:mI9 mg "is_whole" g1)(G2:aM P w K mg base CX0 1 g2 gd2 ["one","other"] Qq)(b2:aL K gd2 ["one","other"] [])(k2:kI9 K g2)(m2:mI9 mg "greatest_common" g2) :
  aM P w K mg base CX 2 f fd ["thing"] (Oh K):=by
 refine F.ok qf2 (fun vs H Q E h=>?_) fun cdv A outer s H vs Q E hr h=>?_
 ·obtain⟨_,_,rfl,_⟩:=h;rfl
 obtain⟨v,o,rfl,hz,q⟩:=h;refine⟨_,(aB (cC (PW.pt (nX (gB (eG (gU (i:=0) rfl (Or.inl rfl) b.isi mt rfl rfl PyProof.Rows.boot_tuple))) (lU (bF jX (bO bG rfl ml PySem.boot_len (aA (pv 0) aC)) aE (bH _))))) (aF (aV iH)) bK)
  (aB (cC (PW.pt (nX (gB (eG (aG G1 hr rfl m1 k1 b1 .nil aK (aA (aS aX (pv 0) aE (fun _ _=>rfl)) aC)))) (lU (gB (eG (aG G1 hr rfl m1 k1 b1 .nil aK (aA (aS aX (pv 0) aE (fun _ _=>rfl)) aC))))))) (aF (aV iH)) bK)
  (aF (aV (uJ (gW Mc (aS aX (pv 0) aE (fun _ _=>rfl)) aE (bH _)) (uF (gW fG (aG G2 hr rfl m2 k2 b2 .nil aK (aA (aS aX (pv 0) aE (fun _ _=>rfl)) (aA (aS aX (pv 0) aE (fun _ _=>rfl)) aC))) aE (bH _)))))))),?_⟩
 cases hz with
 |fr fa hp=>
  refine⟨_,_,true,rfl,.tup fa,rfl,_,rfl,fB ⟨_,rfl,_,_,rfl,.inr fa,rfl,_,rfl,fB ?_⟩⟩;refine dW rfl fa ⟨_,rfl,.inl ⟨_,rfl,_,rfl,fB (cN rfl fa ⟨_,rfl,.inl ⟨_,rfl,_,rfl,fB ?_⟩⟩)⟩⟩;have h1:=hp.pos;refine cN rfl fa ⟨_,_,rfl,rfl,_,rfl,ifT (decide_eq_true (by lia)) (dW rfl fa (cN rfl fa ⟨_,_,rfl,rfl,?_⟩))⟩;rw[hp.one];exact q
 |ty h n=>exact⟨_,_,false,rfl,h,n,_,rfl,fL q⟩
 |len h=>exact⟨_,_,true,rfl,.tup h,rfl,_,rfl,fB ⟨_,rfl,_,_,rfl,.inr h,rfl,_,rfl,fL q⟩⟩
 |n0 h ty n=>
  refine⟨_,_,true,rfl,.tup h,rfl,_,rfl,fB ⟨_,rfl,_,_,rfl,.inr h,rfl,_,rfl,fB ?_⟩⟩;exact⟨_,rfl,_,_,0,_,rfl,rfl,h,rfl,_,rfl,.inr ⟨_,ty,n,_,rfl,fL q⟩⟩
 |n1 h ty n=>
  refine⟨_,_,true,rfl,.tup h,rfl,_,rfl,fB ⟨_,rfl,_,_,rfl,.inr h,rfl,_,rfl,fB ?_⟩⟩;exact⟨_,rfl,_,_,0,_,rfl,rfl,h,rfl,_,rfl,.inl ⟨_,rfl,_,rfl,fB ⟨_,rfl,_,_,1,_,rfl,rfl,h,rfl,_,rfl,.inr ⟨_,ty,n,_,rfl,fL q⟩⟩⟩⟩
 |fb fa c=>
  refine⟨_,_,true,rfl,.tup fa,rfl,_,rfl,fB ⟨_,rfl,_,_,rfl,.inr fa,rfl,_,rfl,fB ?_⟩⟩;refine dW rfl fa ⟨_,rfl,.inl ⟨_,rfl,_,rfl,fB (cN rfl fa ⟨_,rfl,.inl ⟨_,rfl,_,rfl,fB ?_⟩⟩)⟩⟩;rcases c with c | ⟨c,d⟩
  ·exact cN rfl fa ⟨_,_,rfl,rfl,_,rfl,ifF (decide_eq_false (by lia)) q⟩
  ·refine cN rfl fa ⟨_,_,rfl,rfl,_,rfl,ifT (decide_eq_true c) (dW rfl fa (cN rfl fa ⟨_,_,rfl,rfl,?_⟩))⟩;rw[decide_eq_false (fun e=>d (by injection e))];exact q
abbrev sPS:Stmt:=top 40
theorem qi3:aQ ["thing"] ["thing"] (aH sPS):=sK9 rfl rfl rfl rfl (by decide +kernel)
theorem qd0 {dV:Value}(F:aU K "is_piece_size" "is_piece_size" sPS dV f fd){aN:Addr}(fN:∀H,Fq K H aN (0,1))(mNO:mI9 mg "NOUGHT" aN)(G1:aM P w K mg base CX0 2 g1 gd1 ["thing"] (Qc K))(b1:aL K gd1 ["thing"] [])(k1:kI9 K g1)(m1:mI9 mg "is_fraction" g1)(G2:aM P w K mg base CX0 1 g2 gd2 ["one","other"] (Gy K))(b2:aL K gd2 ["one","other"] [])(k2:kI9 K g2)(m2:mI9 mg "under" g2) :
  aM P w K mg base CX 3 f fd ["thing"] (qb4 K):=by
 refine F.ok qi3 (fun vs H Q E h=>?_) fun cdv A outer s H vs Q E hr h=>?_
 ·obtain⟨_,_,_,rfl,_⟩:=h;rfl
 obtain⟨a,p,n,rfl,fa,hp,h0,hb,hn,q⟩:=h;have r1:=hr.mono (show 1<=2 by lia);refine⟨_,(aF (aV (uJ (aG G1 hr rfl m1 k1 b1 .nil aK (aA (pv 0) aC)) (uF (aG G2 r1 rfl m2 k2 b2 .nil aK (aA (cW (v:=.ref aN) rfl mNO rfl) (aA (pv 0) aC))))))),?_⟩;refine⟨_,rfl,a,p,rfl,fa,hp,_,rfl,fL ⟨_,rfl,aN,a,_,p,1,n,rfl,fN _,fa,⟨show (0:Nat) < 2 ^ 1 by decide,show (1:Nat) < 2 ^ 1 by decide⟩,hb,by lia,?_⟩⟩;rw[decide_eq_true (show (0:Int)*p.2 < p.1*1 by lia)];exact q
abbrev sNB:Stmt:=top 45
theorem qi0:aQ ["thing","bound"] ["thing","bound"] (aH sNB):=sK9 rfl rfl rfl rfl (by decide +kernel)
theorem qb7 {dV:Value}(F:aU K "is_number_below" "is_number_below" sNB dV f fd)(G1:aM P w K mg base CX0 1 g1 gd1 ["thing"] (nU K))(b1:aL K gd1 ["thing"] [])(k1:kI9 K g1)(m1:mI9 mg "is_whole" g1) :
  aM P w K mg base CX 2 f fd ["thing","bound"] qa2:=by
 refine F.ok qi0 (fun vs H Q E h=>?_) fun cdv A outer s H vs Q E hr h=>?_
 ·obtain⟨_,_,rfl,_⟩:=h;rfl
 obtain⟨i,b',rfl,h0,h1,q⟩:=h;refine⟨_,(aF (aV (uJ (aG G1 hr rfl m1 k1 b1 .nil aK (aA (pv 0) aC)) (uJ (gW Mc (pv 0) aE (bH _)) (uF (gW tH (pv 0) (pv 1) (bH _))))))),?_⟩;refine⟨_,rfl,_,rfl,.inl ⟨i,rfl,_,rfl,fL ⟨_,rfl,_,_,rfl,rfl,_,rfl,ifT (decide_eq_true h0) ⟨_,rfl,_,rfl,_,_,rfl,rfl,?_⟩⟩⟩⟩;show Q (.bl (decide (i < b'))) H;rw[decide_eq_true h1];exact q
abbrev sRS:Stmt:=top 47
theorem qh1:aQ ["word","size"] ["word","size"] (aH sRS):=sK9 rfl rfl rfl rfl (by decide +kernel)
theorem qb6 {dV:Value}(F:aU K "refuse_size" "refuse_size" sRS dV f fd)(G1:aM P w K mg base CX0 2 g1 gd1 ["thing"] (Qc K))(b1:aL K gd1 ["thing"] [])(k1:kI9 K g1)(m1:mI9 mg "is_fraction" g1)(G2:aM P w K mg base CX0 3 g2 gd2 ["thing"] (qb4 K))(b2:aL K gd2 ["thing"] [])(k2:kI9 K g2)(m2:mI9 mg "is_piece_size" g2) :
  aM P w K mg base CX 4 f fd ["word","size"] (qf5 K):=by
 refine F.ok qh1 (fun vs H Q E h=>?_) fun cdv A outer s H vs Q E hr h=>?_
 ·obtain⟨_,_,_,rfl,_⟩:=h;rfl
 obtain⟨k,z,p,rfl,fz,hp,h0,hb,q⟩:=h;have r2:=hr.mono (show 2<=3 by lia);refine⟨_,(aB (cC (gB (eG (aG G1 r2 rfl m1 k1 b1 .nil aK (aA (pv 1) aC)))) (aF eT) bK)
  (aF (cC (PW.pt (rV (bF fG (pv 0) cS (bH _)) (oB (gB (eG (aG G2 hr rfl m2 k2 b2 .nil aK (aA (pv 1) aC))))))) (aF eT) bK))),?_⟩
 refine⟨_,rfl,z,p,rfl,fz,hp,_,rfl,fB ?_⟩
 cases k
 ·exact⟨_,rfl,rfl,_,rfl,ifT (dY .pc .pc) ⟨_,rfl,z,p,_,rfl,fz,hp,h0 rfl,hb,by lia,_,rfl,fB q⟩⟩
 ·exact⟨_,rfl,rfl,_,rfl,ifF (dY .pu .pc) (fB q)⟩
 ·exact⟨_,rfl,rfl,_,rfl,ifF (dY .ho .pc) (fB q)⟩
theorem uQ:(["point","many"]:List Str).Nodup:=by decide +kernel
def Rc (K:Frag):Sp:=fun vs H Q _=>∃(l:Addr) (i j m:Int),vs=[.ref l,.int m]/\SqL K H l [.int i,.int j]/\0<=i/\i < m/\0<=j/\j < m/\∀H',aT H H'->Q .non H'
abbrev sRP:Stmt:=top 46
theorem qj4:aQ ["some","many"] ["some","many"] (aH sRP):=sK9 rfl rfl rfl rfl (by decide +kernel)
theorem qe8 {dV:Value}(F:aU K "refuse_points" "refuse_points" sRP dV f fd)(ma:mg "all"=none)(G1:aM P w K mg base CX0 2 g1 gd1 ["thing","bound"] qa2)(b1:aL K gd1 ["thing","bound"] [])(k1:kI9 K g1)(m1:mI9 mg "is_number_below" g1) :
  aM P w K mg base CX 3 f fd ["some","many"] (Rc K):=by
 refine F.ok qj4 (fun vs H Q E h=>?_) fun cdv A outer s H vs Q E hr h=>?_
 ·obtain⟨_,_,_,_,rfl,_⟩:=h;rfl
 obtain⟨l,i,j,m,rfl,hl,i0,i1,j0,j1,q⟩:=h;refine⟨_,(aF (cC (gB (eG (bO (Pn rfl) rfl ma PyProof.Rows.boot_all (aA (eI (nl:=1) (fr:=[1]) (Nc:=["point","many"]) (cl:=[("many",s.heap.objs.size+1)]) rfl ⟨rfl,rfl,by decide +kernel,by decide +kernel,fun x c h=>h,dU rfl,rfl,fun i n h=>match i,h with | 0,h=>by cases h;exact⟨1,rfl,rfl,rfl,rfl,.inl rfl⟩ | k+1,h=>by rw[show 1+(k+1)=k+2 by lia] at h;cases h⟩
    (cE (pv 0)) (fun C s3 H3 fp pins=>(aZ (i:=0) uQ rfl (Or.inl rfl))) (fun C s3 H3 fp pins=>fE)
    (fun C s3 H3 fp pins=>(aG G1 hr rfl m1 k1 b1 .nil aK (aA (pv 0) (aA (pv 1) aC))))) aC)))) (aF eT) bK)),?_⟩
 refine⟨_,rfl,l,rfl,⟨_,hl⟩,fun D hD=>?_⟩;have sD:=aI hD (.lst []);refine cZ (xs:=[.int i,.int j]) (fun k zs H'=>aT H H'/\H' D=some (.lst zs)/\zs=(replicate k true).map V.bl) ⟨sD,aD,rfl⟩ (fun k zs H' h=>h.2.1) (fun k zs H' _ h=>h.1.seq hl) ?_ ?_
 ·rintro k zs x H1 hx ⟨s1,e1,rfl⟩ C hC;have hk:k < 2:=(List.getElem?_eq_some_iff.mp hx).1;obtain⟨y,rfl,y0,y1⟩:∃y,x=.int y/\0<=y/\y < m:=by
   rcases mem_cons.mp (mem_of_getElem? hx) with z | z
   ·exact⟨i,z,i0,i1⟩
   ·exact⟨j,by simpa using z,j0,j1⟩
  refine⟨dC.1,dC.2,fL ?_⟩;refine⟨_,rfl,_,rfl,y,m,rfl,y0,y1,e1,bL (by rw[length_map,length_replicate];lia),hC _ _ ⟨s1.change hD,aD,?_⟩⟩;rw[replicate_succ',map_append];rfl
 ·rintro zs H1 ⟨s1,e1,rfl⟩;refine⟨D,_,rfl,SqL.of e1,_,rfl,ifF ?_ ?_⟩
  ·simp
  ·exact q _ s1
abbrev Eh:Stmt:=fH (top 44) 0
theorem Qz:aQ ["self","many"] ["self","many"] (aH Eh):=sK9 rfl rfl rfl rfl (by decide +kernel)
theorem Kf {dV:Value}{CN:Addr}(F:aU K "__init__" "Net.__init__" Eh dV f fd)(NTx:NT K mg CN){tM:Tok}(mMP:mg "MOST_POINTS"=some (.int 20 tM))(G1:aM P w K mg base CX0 1 g1 gd1 ["thing"] (nU K))(b1:aL K gd1 ["thing"] [])(k1:kI9 K g1)(m1:mI9 mg "is_whole" g1):aM P w K mg base CX 2 f fd ["self","many"] (Gz CN):=by
 refine F.ok Qz (fun vs H Q E h=>?_) fun cdv A outer s H vs Q E hr h=>?_
 ·obtain⟨_,_,_,rfl,_⟩:=h;rfl
 obtain⟨n,dx,m,rfl,hn,h1,h20,q⟩:=h;refine⟨_,(aB (cC (PW.pt (nX (gB (eG (aG G1 hr rfl m1 k1 b1 .nil aK (aA (pv 1) aC)))) (nX (bF tH (pv 1) aE (bH _)) (lU (bF vZ (pv 1) (cW (v:=.int 20) rfl mMP ⟨_,rfl⟩) (bH _)))))) (aF eT) bK)
  (aB (rG (pv 0) (pv 1) rfl)
  (aF (rG (pv 0) (cT aC) rfl)))),?_⟩
 refine⟨_,rfl,_,rfl,.inl ⟨m,rfl,_,rfl,fB ⟨_,rfl,_,_,rfl,rfl,_,rfl,ifF (decide_eq_false (by lia)) ⟨_,rfl,_,_,rfl,rfl,_,rfl,ifF (decide_eq_false (by lia)) ?_⟩⟩⟩⟩;refine⟨_,rfl,_,rfl,n,CN,dx,[],rfl,hn,NTx.cl,NTx.nP,(by show 0 < 1000;decide),?_⟩;refine⟨zl9 0,fun l hl=>?_⟩;have nl:n≠l:=fun z=>by subst z;rw[aD] at hl;cases hl
 have hl0:H l=none:=by rw[aW (Ne.symm nl)] at hl;exact hl
 have l1:=gF ("point_count":Str) (.int m) [];simp only[length_nil] at l1;refine⟨_,rfl,n,CN,dx,iF "point_count" (.int m) [],rfl,by rw[aW nl];exact aD,NTx.cl,NTx.nK,by lia,?_⟩;refine q l _ hl0 (fun b o e hb=>?_) aD (by rw[aW (Ne.symm nl)];exact aD);rw[aW hb,aW (bC e hl0),aW hb];exact e
abbrev Kz:Stmt:=fH (top 44) 1
theorem Vx:aQ ["self"] ["self"] (aH Kz):=sK9 rfl rfl rfl rfl (by decide +kernel)
theorem Tw {dV:Value}{CN:Addr}(F:aU K "many" "Net.many" Kz dV f fd)(NTx:NT K mg CN):aM P w K mg base CX 1 f fd ["self"] (kL CN K):=by
 refine F.ok Vx (fun vs H Q E h=>?_) fun cdv A outer s H vs Q E hr h=>?_
 ·obtain⟨_,_,_,_,rfl,_⟩:=h;rfl
 obtain⟨n,l,m,ds,rfl,⟨⟨dx,hn⟩,ts,hl,hr'⟩,q⟩:=h;exact⟨_,(aF (aV (cI (pv 0) rfl))),_,rfl,n,CN,dx,_,_,rfl,hn,NTx.cl,NTx.nP,zK _ _,q⟩
abbrev Vs:Stmt:=fH (top 44) 3
theorem Vi:aQ ["self","row","told"] ["self","row"] (aH Vs):=sK9 rfl rfl rfl rfl (by decide +kernel)
theorem Xw {dV:Value}{CN:Addr}(F:aU K "add" "Net.add" Vs dV f fd)(NTx:NT K mg CN){tR:Tok}(mMR:mg "MOST_ROWS"=some (.int 40 tR))(ml:mg "len"=none){gT:Addr}{gdT:FuncData}(T:RT K mg CR CK)(GT:aM P w K mg base CX0 2 gT gdT ["self"] (xQ CK))(bT:aL K gdT ["self"] [])(mT:∀k,fR K (CK k) "told" gT)(G1:aM P w K mg base CX0 3 g1 gd1 ["some","many"] (Rc K))(b1:aL K gd1 ["some","many"] [])(k1:kI9 K g1)(m1:mI9 mg "refuse_points" g1)(G2:aM P w K mg base CX0 4 g2 gd2 ["word","size"] (qf5 K))(b2:aL K gd2 ["word","size"] [])(k2:kI9 K g2)(m2:mI9 mg "refuse_size" g2):aM P w K mg base CX 5 f fd ["self","row"] (Ut CN K CK):=by
 refine F.ok Vi (fun vs H Q E h=>?_) fun cdv A outer s H vs Q E hr h=>?_
 ·obtain⟨_,_,_,_,_,_,_,_,_,_,rfl,_⟩:=h;rfl
 obtain⟨n,l,x,z,m,ds,k,i,j,p,rfl,⟨⟨dx,hn⟩,ts,hl,hR⟩,rw,fz,⟨i0,i1,j0,j1,lp,h0,bp⟩,h40,q⟩:=h;have r2:=hr.mono (show 2<=4 by lia);have r3:=hr.mono (show 3<=4 by lia);refine⟨_,(aB (aR (i:=2) Vi.nd rfl (Or.inl rfl) (fF (f:=fun _=>gT) (fd:=fun _=>gdT) (sp:=fun _=>xQ CK) (pv 1) T.cl mT (fun _=>GT) r2 (fun _=>bT) .nil aK))
  (aB (bN (aG G1 r3 rfl m1 k1 b1 .nil aK (aA (cT (aA (aS aX (pv 2) aE (fun _ _=>rfl)) (aA (aS aX (pv 2) aE (fun _ _=>rfl)) aC))) (aA (cI (pv 0) rfl) aC))))
  (aB (bN (aG G2 hr rfl m2 k2 b2 .nil aK (aA (aS aX (pv 2) aE (fun _ _=>rfl)) (aA (aS aX (pv 2) aE (fun _ _=>rfl)) aC))))
  (aB (cC (bF Mc (bO bG rfl ml PySem.boot_len (aA (cI (pv 0) rfl) aC)) (cW (v:=.int 40) rfl mMR ⟨_,rfl⟩) (bH _)) (aF eT) bK)
  (aB (bN (pT PySem.F.plainAttrs_list PySem.F.slot_list_append PySem.F.type_list_append fK (cI (pv 0) rfl) (aA (pv 2) aC)))
  (aF (aV (aY jY (bO bG rfl ml PySem.boot_len (aA (cI (pv 0) rfl) aC)) aE)))))))),?_⟩
 obtain⟨dr,hx⟩:=id rw;have len:=hR.length;refine⟨_,rfl,k,x,dr,_,rfl,hx,(eU _ _ _ (by decide +kernel) (by decide +kernel) (by decide +kernel)),x,k,_,_,_,rfl,rw,fun t ht=>?_⟩;have st:=aI ht (.tup [.str k.wd,.int i,.int j,.ref z]);have et:SqT K (upd H t (.tup [.str k.wd,.int i,.int j,.ref z])) t [.str k.wd,.int i,.int j,.ref z]:=SqT.of aD;generalize upd H t (.tup [.str k.wd,.int i,.int j,.ref z])=H1a at st et ⊢;have hn1:=st _ _ hn;have hl1:=st _ _ hl;refine⟨_,rfl,t,_,1,_,rfl,rfl,et,rfl,_,rfl,t,_,2,_,rfl,rfl,et,rfl,zl9 2,fun lq hlq=>?_⟩;have sq:=aI hlq (.lst [.int i,.int j]);have eq:upd H1a lq (.lst [.int i,.int j]) lq=some (.lst [.int i,.int j]):=aD;generalize upd H1a lq (.lst [.int i,.int j])=H1b at sq eq ⊢;have hnb:=sq _ _ hn1;refine⟨_,rfl,n,CN,dx,_,_,rfl,hnb,NTx.cl,NTx.nP,zK _ _,lq,i,j,m,rfl,SqL.of eq,i0,i1,j0,j1,fun H1 sc=>?_⟩;have sqc:=sq.trans sc;have st:=st.trans sqc;have et:=sqc.seqT et;have hn1:=sqc _ _ hn1;have hl1:=sqc _ _ hl1;refine⟨_,rfl,t,_,0,_,rfl,rfl,et,rfl,_,rfl,t,_,3,_,rfl,rfl,et,rfl,k,z,p,rfl,st.fq fz,lp,h0,bp,?_⟩;refine⟨_,rfl,n,CN,dx,_,_,rfl,hn1,NTx.cl,NTx.nK,iZ _ _,l,ts,rfl,.inl (SqL.of hl1),_,_,rfl,rfl,_,rfl,ifF (decide_eq_false (by lia)) ?_⟩;refine⟨_,rfl,n,CN,dx,_,_,rfl,hn1,NTx.cl,NTx.nK,iZ _ _,.inl ⟨rfl,_,SqL.of hl1⟩,_,rfl,l,ts,.ref t,rfl,rfl,hl1,bL (by lia),?_⟩;have nn:n≠l:=kI hn1 hl1 (fun z=>by cases z);have hn2:upd H1 l (.lst (ts++[.ref t])) n=some (.ins CN dx (mE m l)):=by rw[aW nn];exact hn1
 have hl2:upd H1 l (.lst (ts++[.ref t])) l=some (.lst (ts++[.ref t])):=aD;refine⟨_,rfl,n,CN,dx,_,_,rfl,hn2,NTx.cl,NTx.nK,iZ _ _,l,_,rfl,.inl (SqL.of hl2),_,_,rfl,rfl,?_⟩;show Q (.int (((ts++[V.ref t]).length:Int) - 1)) _;rw[List.length_append,length_singleton,len,show (((ds.length+1:Nat):Int) - 1)=(ds.length:Int) by lia];refine q _ (st.x.write) ⟨⟨dx,hn2⟩,_,hl2,Rts.upd hl1 ((hR.same st).app (.cons et (st.fq fz) .nil))⟩
theorem Rn:(["told"]:List Str).Nodup:=by decide +kernel
abbrev Mw:Stmt:=fH (top 44) 5
theorem Yp:aQ ["self"] ["self"] (aH Mw):=sK9 rfl rfl rfl rfl (by decide +kernel)
theorem Rt {dV:Value}{CN:Addr}(F:aU K "rows" "Net.rows" Mw dV f fd)(NTx:NT K mg CN)(G1:aM P w K mg base CX0 3 g1 gd1 ["told"] (tI K CK))(b1:aL K gd1 ["told"] [])(k1:kI9 K g1)(m1:mI9 mg "row_of" g1):aM P w K mg base CX 4 f fd ["self"] (lZ CN K CK):=by
 refine F.ok Yp (fun vs H Q E h=>?_) fun cdv A outer s H vs Q E hr h=>?_
 ·obtain⟨_,_,_,_,rfl,_⟩:=h;rfl
 obtain⟨n,l,m,ds,rfl,⟨⟨dx,hn⟩,ts,hl,hR⟩,h100,q⟩:=h;refine⟨_,(aF (aV (eI (nl:=1) (fr:=[]) (Nc:=["told"]) (cl:=[]) rfl ⟨rfl,rfl,by decide +kernel,by decide +kernel,fun x c h=>(by cases h),dU rfl,rfl,fun i n h=>(by simp at h)⟩
    (cE (cI (pv 0) rfl)) (fun C s3 H3 fp pins=>(aZ (i:=0) Rn rfl (Or.inl rfl))) (fun C s3 H3 fp pins=>fE)
    (fun C s3 H3 fp pins=>(aG G1 hr rfl m1 k1 b1 .nil aK (aA (pv 0) aC)))))),?_⟩
 have len:=hR.length;refine⟨_,rfl,n,CN,dx,_,_,rfl,hn,NTx.cl,NTx.nK,iZ _ _,l,rfl,⟨_,SqL.of hl⟩,fun D hD=>?_⟩;have sD:=aI hD (.lst []);refine cZ (xs:=ts) (fun i zs H'=>aT H H'/\H' D=some (.lst zs)/\fX CK K H' zs (ds.take i)) ⟨sD,aD,.nil⟩ (fun i zs H' h=>h.2.1) (fun i zs H' _ h=>h.1.seq (SqL.of hl)) ?_ ?_
 ·rintro i zs x H1 hx ⟨s1,e1,R1⟩ C hC;have hi:i < ds.length:=by
   have:=(List.getElem?_eq_some_iff.mp hx).1;lia
  obtain⟨⟨k,u,v,p⟩,hd⟩:∃d,ds[i]?=some d:=⟨_,getElem?_eq_getElem hi⟩
  obtain⟨t,z,et,ht,fz⟩:=hR.at hd;have ex:x=.ref t:=by rw[et] at hx;exact(Option.some.inj hx).symm
  subst ex;have lz:=R1.length;rw[length_take] at lz;refine⟨dC.1,dC.2,fL ?_⟩;refine⟨_,rfl,t,_,_,_,_,rfl,s1.seqT ht,k,rfl,fun y H2 s2 ny rw=>?_⟩;have e2:=s2 _ _ e1;refine⟨e2,bL (by lia),hC _ _ ⟨(s1.trans s2).change hD,aD,?_⟩⟩;rw[take_add_one,hd];exact fX.upd e2 ((R1.same s2).app (.cons rw ((s1.trans s2).fq fz) .nil))
 ·rintro zs H1 ⟨s1,e1,R1⟩;rw[len,take_length] at R1;exact q D zs H1 s1 hD e1 R1
theorem Ba {g:Addr}{gd:FuncData}(F:aM P w K mg base CX0 2 g gd ["thing"] (Oh K)):aM P w K mg base CX0 2 g gd ["thing"] (Qc K):=
 F.weak fun vs H Q E h=>by
  obtain⟨a,p,rfl,f,l,q⟩:=h;exact⟨_,some p,rfl,.fr f l,q⟩
abbrev Pk:Stmt:=top 22
theorem Yq:aQ ["one","other"] ["one","other"] (aH Pk):=sK9 rfl rfl rfl rfl (by decide +kernel)
theorem Tj {dV:Value}(F:aU K "over" "over" Pk dV f fd)(G1:aM P w K mg base CX0 2 g1 gd1 ["top","bottom"] gJ)(b1:aL K gd1 ["top","bottom"] [])(k1:kI9 K g1)(m1:mI9 mg "fraction" g1) :
  aM P w K mg base CX 3 f fd ["one","other"] (sR K):=by
 refine F.ok Yq (fun vs H Q E h=>?_) fun cdv A outer s H vs Q E hr h=>?_
 ·obtain⟨_,_,_,_,_,_,rfl,_⟩:=h;rfl
 obtain⟨a,b,p,q,n,m,rfl,ha,hb,lp,lq,h0,bp,bq,hn,z⟩:=h;refine⟨_,(aB (cC (bF fG (aS aX (pv 1) aE (fun _ _=>rfl)) aE (bH _)) (aF eT) bK)
  (aF (aV (aG G1 hr rfl m1 k1 b1 .nil aK (aA (aY cD (aS aX (pv 0) aE (fun _ _=>rfl)) (aS aX (pv 1) aE (fun _ _=>rfl))) (aA (aY cD (aS aX (pv 0) aE (fun _ _=>rfl)) (aS aX (pv 1) aE (fun _ _=>rfl))) aC)))))),?_⟩
 refine dW rfl hb ⟨rfl,_,rfl,?_⟩;rw[decide_eq_false (fun e=>absurd (show q.1=0 by injection e) (by lia))];refine fB ?_;refine dW rfl ha (cN rfl hb (cF bp.a bq.b (by lia) (by lia) ?_));exact cN rfl ha (dW rfl hb (cF bp.b bq.a (by lia) (by lia) ⟨_,_,n+m,rfl,oO lp (by lia),bp.b.mul bq.a,by lia,z⟩))
abbrev Dq:Stmt:=top 66
theorem Ry:aQ ["line","column","amount"] ["line","column","amount"] (aH Dq):=sK9 rfl rfl rfl rfl (by decide +kernel)
theorem Mg {dV:Value}(F:aU K "raise_at" "raise_at" Dq dV f fd)(G1:aM P w K mg base CX0 3 g1 gd1 ["one","other"] (iT K oR))(b1:aL K gd1 ["one","other"] [])(k1:kI9 K g1)(m1:mI9 mg "plus" g1) :
  aM P w K mg base CX 4 f fd ["line","column","amount"] (qI K):=by
 refine F.ok Ry (fun vs H Q E h=>?_) fun cdv A outer s H vs Q E hr h=>?_
 ·obtain⟨_,_,_,_,_,_,_,_,rfl,_⟩:=h;rfl
 obtain⟨l,z,j,xs,ps,a,n,m,rfl,hl,hF,hj,p1,bp,fz,a1,ba,hn,q⟩:=h;refine⟨_,(aF (tF (aG G1 hr rfl m1 k1 b1 .nil aK (aA (aS bM (pv 0) (pv 1) (fun _ _=>rfl)) (aA (pv 2) aC))) (yI (pv 0) (pv 1) mX))),?_⟩;have lx:=hF.length;obtain⟨u,eu,fu⟩:=hF.at (zY hj);refine⟨_,rfl,_,rfl,l,xs,_,_,rfl,rfl,SqL.of hl,bS eu,_,rfl,u,z,_,a,n,m,rfl,fu,fz,p1,a1,bp,ba,hn,fun v H1 s1 e1=>?_⟩;exact⟨_,rfl,_,rfl,l,xs,_,j,rfl,rfl,s1 _ _ hl,qZ (by lia),q v H1 s1 (Fq.of e1)⟩
abbrev Ca:Stmt:=top 65
theorem Td:aQ ["matrix","row","column","amount"] ["matrix","row","column","amount"] (aH Ca):=sK9 rfl rfl rfl rfl (by decide +kernel)
theorem Nq {dV:Value}(F:aU K "enter_stream" "enter_stream" Ca dV f fd)(T:RT K mg CR CK){aN:Addr}(fN:∀H,Fq K H aN (0,1))(mNO:mI9 mg "NOUGHT" aN)(G1:aM P w K mg base CX0 4 g1 gd1 ["line","column","amount"] (qI K))(b1:aL K gd1 ["line","column","amount"] [])(k1:kI9 K g1)(m1:mI9 mg "raise_at" g1)(G2:aM P w K mg base CX0 3 g2 gd2 ["one","other"] (iT K Mq.minus))(b2:aL K gd2 ["one","other"] [])(k2:kI9 K g2)(m2:mI9 mg "minus" g2) :
  aM P w K mg base CX 5 f fd ["matrix","row","column","amount"] (xH K CK):=by
 refine F.ok Td (fun vs H Q E h=>?_) fun cdv A outer s H vs Q E hr h=>?_
 ·obtain⟨_,_,_,_,_,_,_,_,_,_,_,_,rfl,_⟩:=h;rfl
 obtain⟨D,x,z,zz,as,M,⟨k0,u,v,p⟩,w,n,k,c,a,rfl,mx,mb,rw,pt,hc,fz,la,ba,hn,q⟩:=h;have r3:=hr.mono (show 3<=4 by lia);refine⟨_,(aB (bN (aG G1 hr rfl m1 k1 b1 .nil aK (aA (aS bM (pv 0) (cI (pv 1) rfl) (fun _ _=>rfl)) (aA (pv 2) (aA (pv 3) aC)))))
  (aF (bN (aG G1 hr rfl m1 k1 b1 .nil aK (aA (aS bM (pv 0) (cI (pv 1) rfl) (fun _ _=>rfl)) (aA (pv 2) (aA (aG G2 r3 rfl m2 k2 b2 .nil aK (aA (cW (v:=.ref aN) rfl mNO rfl) (aA (pv 3) aC))) aC))))))),?_⟩
 obtain⟨i0,i1,j0,j1⟩:cH (w:Int) u v:=pt;obtain⟨uN,rfl⟩:∃uN:Nat,u=(uN:Int):=⟨u.toNat,by lia⟩
 obtain⟨vN,rfl⟩:∃vN:Nat,v=(vN:Int):=⟨v.toNat,by lia⟩
 have hu':uN < w:=by lia
 have hv':vN < w:=by lia
 obtain⟨ln,bn,_⟩:=kE la ba;obtain⟨dx,hx⟩:=id rw;obtain⟨e1,m1,w1⟩:=mb.row hu';obtain⟨e2,l2,b2⟩:=mb.at hu' hc;have lam:=mx.la;obtain⟨a1,ha1⟩:∃a1,as[uN]?=some a1:=⟨_,getElem?_eq_getElem (by rw[lam,mb.h];exact hu')⟩
 obtain⟨xs,hxs,hF⟩:=mx.r uN a1 _ ha1 e1;have at1:atI (as.map V.ref) (uN:Int)=some (.ref a1):=bS (by rw[getElem?_map,ha1];rfl);refine⟨_,rfl,_,rfl,x,CK _,_,_,_,rfl,hx,T.cl _,T.nS _,cY _ _ _,D,_,_,_,rfl,rfl,SqL.of mx.d,at1,_,rfl,_,rfl,a1,z,c,xs,_,a,n,k,rfl,hxs,hF,by rw[w1];exact hc,l2.pos,b2,fz,la.pos,ba,by lia,fun v1 H1 s1 f1=>?_⟩;obtain⟨mx2,sx2⟩:=mx.set (j:=c) ha1 e1 hxs hF s1 f1;have mb2:=mb.rz hu' hc la ba;generalize upd H1 a1 (.lst (xs.set c (.ref v1)))=H2 at mx2 sx2 ⊢;have mx2:Mx K H2 D as (rz M uN c a):=mx2;have ls:=mx.lsts;have fz2:Fq K H2 z a:=sx2.seqT ls fz;obtain⟨dx2,hx2⟩:=id (sx2.rw ls rw);obtain⟨e3,m3,w3⟩:=mb2.row hv';obtain⟨e4,l4,b4⟩:=mb2.at hv' hc;obtain⟨a2,ha2⟩:∃a2,as[vN]?=some a2:=⟨_,getElem?_eq_getElem (by rw[lam,mb.h];exact hv')⟩
 obtain⟨xs2,hxs2,hF2⟩:=mx2.r vN a2 _ ha2 e3;have at2:atI (as.map V.ref) (vN:Int)=some (.ref a2):=bS (by rw[getElem?_map,ha2];rfl);have b01:Bd 1 (0,1):=⟨show (0:Nat) < 2 ^ 1 by decide,show (1:Nat) < 2 ^ 1 by decide⟩
 refine⟨_,rfl,_,rfl,x,CK _,_,_,_,rfl,hx2,T.cl _,T.nG _,dP _ _ _,D,_,_,_,rfl,rfl,SqL.of mx2.d,at2,_,rfl,_,rfl,aN,z,(0,1),a,1,k,rfl,fN _,fz2,by decide,la.pos,b01,ba,by lia,fun v3 H3 s3 e5=>?_⟩;refine⟨a2,v3,c,xs2,_,_,n+k+1,k+2,rfl,s3 _ _ hxs2,hF2.same s3,by rw[w3];exact hc,l4.pos,b4,Fq.of e5,ln.pos,bn,by lia,fun v4 H4 s4 f4=>?_⟩;obtain⟨mx3,sx3⟩:=(mx2.same s3).set (j:=c) ha2 e3 (s3 _ _ hxs2) (hF2.same s3) s4 f4;exact q _ (sx2.trans (s3.sx.trans sx3)) mx3
abbrev xN:Stmt:=top 62
theorem Bo:aQ ["matrix","row","share"] ["matrix","row"] (aH xN):=sK9 rfl rfl rfl rfl (by decide +kernel)
theorem Hm {dV:Value}(F:aU K "enter_piece" "enter_piece" xN dV f fd)(T:RT K mg CR CK){aN aO:Addr}(fN:∀H,Fq K H aN (0,1))(mNO:mI9 mg "NOUGHT" aN)(fO:∀H,Fq K H aO (1,1))(mON:mI9 mg "ONE" aO)(G1:aM P w K mg base CX0 3 g1 gd1 ["one","other"] (sR K))(b1:aL K gd1 ["one","other"] [])(k1:kI9 K g1)(m1:mI9 mg "over" g1)(G2:aM P w K mg base CX0 5 g2 gd2 ["matrix","row","column","amount"] (xH K CK))(b2:aL K gd2 ["matrix","row","column","amount"] [])(k2:kI9 K g2)(m2:mI9 mg "enter_stream" g2)(G3:aM P w K mg base CX0 3 g3 gd3 ["one","other"] (iT K Mq.minus))(b3:aL K gd3 ["one","other"] [])(k3:kI9 K g3)(m3:mI9 mg "minus" g3) :
  aM P w K mg base CX 6 f fd ["matrix","row"] (Bh K CK):=by
 refine F.ok Bo (fun vs H Q E h=>?_) fun cdv A outer s H vs Q E hr h=>?_
 ·obtain⟨_,_,_,_,_,_,_,_,_,rfl,_⟩:=h;rfl
 obtain⟨D,x,zz,as,M,⟨k0,u,v,p⟩,w,n,k,rfl,mx,mb,rw,fp,pt,lp,p0,bp,hn,q⟩:=h;have r3:=hr.mono (show 3<=5 by lia);refine⟨_,(aB (aR (i:=2) Bo.nd rfl (Or.inl rfl) (aG G1 r3 rfl m1 k1 b1 .nil aK (aA (cW (v:=.ref aO) rfl mON rfl) (aA (cI (pv 1) rfl) aC))))
  (aB (bN (aG G2 hr rfl m2 k2 b2 .nil aK (aA (pv 0) (aA (pv 1) (aA (cI (pv 1) rfl) (aA (pv 2) aC))))))
  (aF (bN (aG G2 hr rfl m2 k2 b2 .nil aK (aA (pv 0) (aA (pv 1) (aA (cI (pv 1) rfl) (aA (aG G3 r3 rfl m3 k3 b3 .nil aK (aA (cW (v:=.ref aN) rfl mNO rfl) (aA (pv 2) aC))) aC))))))))),?_⟩
 have lp:Low p:=lp;have p0:0 < p.1:=p0;have bp:Bd k p:=bp;have fp:Fq K H zz p:=fp;obtain⟨i0,i1,j0,j1⟩:cH (w:Int) u v:=pt;obtain⟨uN,rfl⟩:∃uN:Nat,u=(uN:Int):=⟨u.toNat,by lia⟩
 obtain⟨vN,rfl⟩:∃vN:Nat,v=(vN:Int):=⟨v.toNat,by lia⟩
 obtain⟨ls,bs,_⟩:=zO lp p0 bp;obtain⟨ln,bn,_⟩:=kE ls bs;have pt':cH (w:Int) (uN:Int) (vN:Int):=⟨i0,i1,j0,j1⟩
 obtain⟨dx,hx⟩:=id rw;refine⟨_,rfl,x,CK _,_,_,_,rfl,hx,T.cl _,T.nZ _,hZ _ _ _,aO,zz,(1,1),p,1,k,rfl,fO _,fp,h11,lp.pos,p0,fY,bp,by lia,fun s' H1 s1 e1=>?_⟩;have fs:Fq K H1 s' (pY (1,1) p):=Fq.of e1;have rw1:=rw.same s1;obtain⟨dx1,hx1⟩:=id rw1;have mx1:=mx.same s1;refine⟨_,rfl,_,rfl,_,rfl,x,CK _,_,_,_,rfl,hx1,T.cl _,T.nS _,cY _ _ _,_,rfl,D,x,s',_,as,M,(k0,(uN:Int),(vN:Int),p),w,n,k+1,uN,_,rfl,mx1,mb,rw1,pt',by lia,fs,ls,bs,by lia,fun H2 sx2 mx2=>?_⟩;have lst:=mx1.lsts;have fs2:Fq K H2 s' (pY (1,1) p):=sx2.seqT lst fs;have rw2:=sx2.rw lst rw1;obtain⟨dx2,hx2⟩:=id rw2;obtain⟨mb2,_⟩:=Aw (d:=(k0,(uN:Int),(vN:Int),p)) mb pt' (c:=uN) (by lia) ls bs;have b01:Bd 1 (0,1):=⟨show (0:Nat) < 2 ^ 1 by decide,show (1:Nat) < 2 ^ 1 by decide⟩
 refine⟨_,rfl,_,rfl,_,rfl,x,CK _,_,_,_,rfl,hx2,T.cl _,T.nG _,dP _ _ _,_,rfl,aN,s',(0,1),_,1,k+1,rfl,fN _,fs2,by decide,ls.pos,b01,bs,by lia,fun v3 H3 s3 e3=>?_⟩;refine⟨D,x,v3,_,as,_,(k0,(uN:Int),(vN:Int),p),w,n+2*(k+1)+4,k+3,vN,_,rfl,mx2.same s3,mb2,rw2.same s3,pt',by lia,Fq.of e3,ln,bn,by lia,fun H4 sx4 mx4=>?_⟩;exact q H4 (s1.sx.trans (sx2.trans (s3.sx.trans sx4))) mx4
abbrev xI:Stmt:=top 63
theorem On:aQ ["right","row"] ["right","row"] (aH xI):=sK9 rfl rfl rfl rfl (by decide +kernel)
theorem Ih {dV:Value}(F:aU K "enter_push" "enter_push" xI dV f fd)(T:RT K mg CR CK){aN:Addr}(fN:∀H,Fq K H aN (0,1))(mNO:mI9 mg "NOUGHT" aN)(G1:aM P w K mg base CX0 4 g1 gd1 ["line","column","amount"] (qI K))(b1:aL K gd1 ["line","column","amount"] [])(k1:kI9 K g1)(m1:mI9 mg "raise_at" g1)(G2:aM P w K mg base CX0 3 g2 gd2 ["one","other"] (iT K Mq.minus))(b2:aL K gd2 ["one","other"] [])(k2:kI9 K g2)(m2:mI9 mg "minus" g2) :
  aM P w K mg base CX 5 f fd ["right","row"] (tN K CK):=by
 refine F.ok On (fun vs H Q E h=>?_) fun cdv A outer s H vs Q E hr h=>?_
 ·obtain⟨_,_,_,_,_,_,_,_,_,rfl,_⟩:=h;rfl
 obtain⟨R,x,zz,ys,rs,⟨k0,u,v,p⟩,w,n,k,rfl,eR,hF,lb,rw,fp,pt,lp,bp,hn,q⟩:=h;have r3:=hr.mono (show 3<=4 by lia);refine⟨_,(aB (bN (aG G1 hr rfl m1 k1 b1 .nil aK (aA (pv 0) (aA (cI (pv 1) rfl) (aA (aG G2 r3 rfl m2 k2 b2 .nil aK (aA (cW (v:=.ref aN) rfl mNO rfl) (aA (cI (pv 1) rfl) aC))) aC)))))
  (aF (bN (aG G1 hr rfl m1 k1 b1 .nil aK (aA (pv 0) (aA (cI (pv 1) rfl) (aA (cI (pv 1) rfl) aC))))))),?_⟩
 have lp:Low p:=lp;have bp:Bd k p:=bp;have fp:Fq K H zz p:=fp;obtain⟨i0,i1,j0,j1⟩:cH (w:Int) u v:=pt;obtain⟨uN,rfl⟩:∃uN:Nat,u=(uN:Int):=⟨u.toNat,by lia⟩
 obtain⟨vN,rfl⟩:∃vN:Nat,v=(vN:Int):=⟨v.toNat,by lia⟩
 obtain⟨ln,bn,_⟩:=kE lp bp;obtain⟨dx,hx⟩:=id rw;obtain⟨_,l1,b1⟩:=lb.at (j:=uN) (by lia);have b01:Bd 1 (0,1):=⟨show (0:Nat) < 2 ^ 1 by decide,show (1:Nat) < 2 ^ 1 by decide⟩
 refine⟨_,rfl,_,rfl,x,CK _,_,_,_,rfl,hx,T.cl _,T.nS _,cY _ _ _,_,rfl,x,CK _,_,_,_,rfl,hx,T.cl _,T.nZ _,hZ _ _ _,aN,zz,(0,1),p,1,k,rfl,fN _,fp,by decide,lp.pos,b01,bp,by lia,fun v1 H1 s1 e1=>?_⟩;refine⟨R,v1,uN,ys,rs,_,n,k+2,rfl,s1 _ _ eR,hF.same s1,by rw[lb.w];lia,l1.pos,b1,Fq.of e1,ln.pos,bn,by lia,fun v2 H2 s2 f2=>?_⟩;have s12:=s1.trans s2;have eR2:=s12 _ _ eR;have F3:=(Fqs.set f2 uN (hF.same s12)).upd (o:=.lst (ys.set uN (.ref v2))) eR2;have e3:upd H2 R (.lst (ys.set uN (.ref v2))) R=some (.lst (ys.set uN (.ref v2))):=aD;have sx3:SX [R] H (upd H2 R (.lst (ys.set uN (.ref v2)))):=s12.sx.write (by simp);have fp3:Fq K (upd H2 R (.lst (ys.set uN (.ref v2)))) zz p:=SqT.upd (s12.fq fp) eR2;have rw3:=(rw.same s12).upd (o:=.lst (ys.set uN (.ref v2))) eR2;generalize upd H2 R (.lst (ys.set uN (.ref v2)))=H3 at F3 e3 sx3 fp3 rw3 ⊢;have lb3:=lb.rz (j:=uN) (by lia) ln bn;have F3:Fqs K H3 (ys.set uN (.ref v2)) (rzl rs uN (Mq.minus (0,1) p)):=F3;obtain⟨_,l4,b4⟩:=lb3.at (j:=vN) (by lia);obtain⟨dx3,hx3⟩:=id rw3;refine⟨_,rfl,_,rfl,x,CK _,_,_,_,rfl,hx3,T.cl _,T.nG _,dP _ _ _,_,rfl,x,CK _,_,_,_,rfl,hx3,T.cl _,T.nZ _,hZ _ _ _,R,zz,vN,_,_,p,n+(k+2)+1,k,rfl,e3,F3,by rw[lb3.w];lia,l4.pos,b4,fp3,lp.pos,bp,by lia,fun v5 H5 s5 f5=>?_⟩;refine q _ _ (sx3.trans (s5.sx.write (by simp))) aD ?_;exact(Fqs.set f5 vN (F3.same s5)).upd (s5 _ _ e3)
abbrev zH:Stmt:=top 64
theorem Pq:aQ ["matrix","right","row","column"] ["matrix","right","row","column"] (aH zH):=sK9 rfl rfl rfl rfl (by decide +kernel)
theorem Il {dV:Value}(F:aU K "enter_hold" "enter_hold" zH dV f fd)(T:RT K mg CR CK){aN aO:Addr}(fN:∀H,Fq K H aN (0,1))(mNO:mI9 mg "NOUGHT" aN)(fO:∀H,Fq K H aO (1,1))(mON:mI9 mg "ONE" aO)(G1:aM P w K mg base CX0 5 g1 gd1 ["matrix","row","column","amount"] (xH K CK))(b1:aL K gd1 ["matrix","row","column","amount"] [])(k1:kI9 K g1)(m1:mI9 mg "enter_stream" g1)(G2:aM P w K mg base CX0 4 g2 gd2 ["line","column","amount"] (qI K))(b2:aL K gd2 ["line","column","amount"] [])(k2:kI9 K g2)(m2:mI9 mg "raise_at" g2)(G3:aM P w K mg base CX0 3 g3 gd3 ["one","other"] (iT K Mq.minus))(b3:aL K gd3 ["one","other"] [])(k3:kI9 K g3)(m3:mI9 mg "minus" g3) :
  aM P w K mg base CX 6 f fd ["matrix","right","row","column"] (Ap K CK):=by
 refine F.ok Pq (fun vs H Q E h=>?_) fun cdv A outer s H vs Q E hr h=>?_
 ·obtain⟨_,_,_,_,_,_,_,_,_,_,_,_,rfl,_⟩:=h;rfl
 obtain⟨D,R,x,zz,as,M,ys,rs,⟨k0,u,v,p⟩,w,n,c,rfl,mx,mb,eR,hFR,lr,nRD,nRa,rw,fp,pt,hc,hn,q⟩:=h;have r3:=hr.mono (show 3<=5 by lia);have r4:=hr.mono (show 4<=5 by lia);refine⟨_,(aB (bN (aG G1 hr rfl m1 k1 b1 .nil aK (aA (pv 0) (aA (pv 2) (aA (pv 3) (aA (cW (v:=.ref aO) rfl mON rfl) aC))))))
  (aB (bN (aG G2 r4 rfl m2 k2 b2 .nil aK (aA (aS bM (pv 0) (pv 3) (fun _ _=>rfl)) (aA (cI (pv 2) rfl) (aA (cW (v:=.ref aO) rfl mON rfl) aC)))))
  (aB (bN (aG G2 r4 rfl m2 k2 b2 .nil aK (aA (aS bM (pv 0) (pv 3) (fun _ _=>rfl)) (aA (cI (pv 2) rfl) (aA (aG G3 r3 rfl m3 k3 b3 .nil aK (aA (cW (v:=.ref aN) rfl mNO rfl) (aA (cW (v:=.ref aO) rfl mON rfl) aC))) aC)))))
  (aF (tF (cI (pv 2) rfl) (yI (pv 1) (pv 3) mX)))))),?_⟩
 have fp:Fq K H zz p:=fp;obtain⟨i0,i1,j0,j1⟩:cH (w:Int) u v:=pt;obtain⟨uN,rfl⟩:∃uN:Nat,u=(uN:Int):=⟨u.toNat,by lia⟩
 obtain⟨vN,rfl⟩:∃vN:Nat,v=(vN:Int):=⟨v.toNat,by lia⟩
 have pt':cH (w:Int) (uN:Int) (vN:Int):=⟨i0,i1,j0,j1⟩
 obtain⟨ln,bn,_⟩:=kE gD fY;have lam:=mx.la;refine⟨_,rfl,_,rfl,_,rfl,D,x,aO,_,as,M,(k0,(uN:Int),(vN:Int),p),w,n,1,c,(1,1),rfl,mx,mb,rw,pt',hc,fO _,gD,fY,by lia,fun H1 sx1 mx1=>?_⟩;have lst:=mx.lsts;have rw1:=sx1.rw lst rw;have fp1:Fq K H1 zz p:=sx1.seqT lst fp;have eR1:=sx1 _ _ eR nRa;have FR1:=SX.fqs lst sx1 hFR;obtain⟨mb1,_⟩:=Aw (d:=(k0,(uN:Int),(vN:Int),p)) mb pt' hc gD fY;generalize hM1:en M (k0,(uN:Int),(vN:Int),p) c (1,1)=M1 at mx1 mb1;obtain⟨ac,hac⟩:∃ac,as[c]?=some ac:=⟨_,getElem?_eq_getElem (by rw[lam,mb.h];exact hc)⟩
 have atc:atI (as.map V.ref) (c:Int)=some (.ref ac):=bS (by rw[getElem?_map,hac];rfl);obtain⟨e1,m1,w1⟩:=mb1.row hc;obtain⟨_,l2,b2⟩:=mb1.at hc (j:=uN) (by lia);obtain⟨xs,hxs,hF⟩:=mx1.r c ac _ hac e1;obtain⟨dx1,hx1⟩:=id rw1;refine⟨_,rfl,_,rfl,D,_,_,_,rfl,rfl,SqL.of mx1.d,atc,_,rfl,x,CK _,_,_,_,rfl,hx1,T.cl _,T.nS _,cY _ _ _,ac,aO,uN,xs,_,(1,1),n+2*1+4,1,rfl,hxs,hF,by rw[w1];lia,l2.pos,b2,fO _,h11,fY,by lia,fun v1 H2 s2 f2=>?_⟩;obtain⟨mx3,sx3⟩:=mx1.set (j:=uN) hac e1 hxs hF s2 f2;have lst1:=mx1.lsts;generalize upd H2 ac (.lst (xs.set uN (.ref v1)))=H3 at mx3 sx3 ⊢;have mb3:=mb1.rz hc (j:=uN) (by lia) gD fY;have mx3:Mx K H3 D as (rz M1 c uN (1,1)):=mx3;have rw3:=sx3.rw lst1 rw1;have fp3:Fq K H3 zz p:=sx3.seqT lst1 fp1;have eR3:=sx3 _ _ eR1 nRa;have FR3:=SX.fqs lst1 sx3 FR1;generalize hM3:rz M1 c uN (1,1)=M3 at mx3 mb3;obtain⟨e3,m3,w3⟩:=mb3.row hc;obtain⟨_,l4,b4⟩:=mb3.at hc (j:=vN) (by lia);obtain⟨xs3,hxs3,hF3⟩:=mx3.r c ac _ hac e3;obtain⟨dx3,hx3⟩:=id rw3;refine⟨_,rfl,_,rfl,D,_,_,_,rfl,rfl,SqL.of mx3.d,atc,_,rfl,x,CK _,_,_,_,rfl,hx3,T.cl _,T.nG _,dP _ _ _,aN,aO,(0,1),(1,1),1,1,rfl,fN _,fO _,by decide,h11,⟨show (0:Nat) < 2 ^ 1 by decide,show (1:Nat) < 2 ^ 1 by decide⟩,fY,by lia,fun v4 H4 s4 e4=>?_⟩;refine⟨ac,v4,vN,xs3,_,_,n+2*1+4+1+1,1+2,rfl,s4 _ _ hxs3,hF3.same s4,by rw[w3];lia,l4.pos,b4,Fq.of e4,ln.pos,bn,by lia,fun v5 H5 s5 f5=>?_⟩;obtain⟨mx6,sx6⟩:=(mx3.same s4).set (j:=vN) hac e3 (s4 _ _ hxs3) (hF3.same s4) s5 f5;have sx36:=(aT.sx (as:=as) s4).trans sx6;have lst3:=mx3.lsts;generalize upd H5 ac (.lst (xs3.set vN (.ref v5)))=H6 at mx6 sx6 sx36 ⊢;have mx6:Mx K H6 D as (rz M3 c vN (Mq.minus (0,1) (1,1))):=mx6;have rw6:=sx36.rw lst3 rw3;have fp6:Fq K H6 zz p:=sx36.seqT lst3 fp3;have eR6:=sx36 _ _ eR3 nRa;have FR6:=SX.fqs lst3 sx36 FR3;obtain⟨dx6,hx6⟩:=id rw6;have ly:=FR6.length;refine⟨_,rfl,x,CK _,_,_,_,rfl,hx6,T.cl _,T.nZ _,hZ _ _ _,_,rfl,_,rfl,R,ys,_,c,rfl,rfl,eR6,qZ (by lia),?_⟩;have eM:hM M (k0,(uN:Int),(vN:Int),p) c=rz M3 c vN (Mq.minus (0,1) (1,1)):=by rw[<- hM3,<- hM1];rfl
 have mx7:=mx6.other (o:=.lst (ys.set c (.ref zz))) eR6 nRD nRa;rw[<- eM] at mx7;refine q _ _ ?_ mx7 aD ((Fqs.set fp6 c FR6).upd eR6);refine SX.write (SX.mono (sx1.trans (sx3.trans sx36)) fun x hx=>mem_cons_of_mem _ hx) (by simp)
end
section
variable {P:Program} {w:World} {K:Frag} {mg:Str->Option Value} {base:Heap} {f g1 g2 g3 g4 g5 g6 g7 g8:Addr} {fd gd1 gd2 gd3 gd4 gd5 gd6 gd7 gd8:FuncData} {CX:CXT}
variable {CR:Addr} {CK:Kd->Addr} {fW fJ fT fS:Kd->Addr} {fdW fdJ fdT fdS:Kd->FuncData}
theorem mG {K:Frag}{H:Hp}{t:Addr}{p:Q2}(f:Fq K H t p):∀n,Fqs K H (replicate n (.ref t)) (replicate n p)
 |0=>.nil
 |n+1=>.cons f (mG f n)
theorem mB (x:V):∀n,(replicate n [x]).flatten=replicate n x
 |0=>rfl
 |n+1=>by rw[replicate_succ,flatten_cons,mB x n];rfl
theorem Iq (xs:List V)(k:Nat):kW xs (some (k:Int)) none=xs.drop k:=by
 unfold kW;have h1:HT.sIx xs.length xs.length none=xs.length:=rfl;have h2:HT.sIx xs.length 0 (some (k:Int))=min k xs.length:=by simp[HT.sIx];lia
 rw[h1,h2]
 by_cases h:k<=xs.length
 ·rw[Nat.min_eq_left h,take_of_length_le (by simp)]
 ·rw[Nat.min_eq_right (by lia),drop_of_length_le (Nat.le_refl _),drop_of_length_le (by lia)];simp
theorem Gg (xs:List V):kW xs (some 1) none=xs.drop 1:=Iq xs 1
theorem Jl {X:Cx}{K:Frag}(h:X.K=K):SlR X (qb0 K):=by subst h;exact iX
theorem rF (R:List Q2)(j:Nat):(R.drop 1).getD j (0,1)=R.getD (j+1) (0,1):=by
 rw[getD_eq_getElem?_getD,getElem?_drop,Nat.add_comm 1 j,getD_eq_getElem?_getD]
theorem Iy (M:List (List Q2))(i j:Nat):gQ ((M.drop 1).map (List.drop 1)) i j=gQ M (i+1) (j+1):=by
 have e:((M.drop 1).map (List.drop 1)).getD i []=(M.getD (i+1) []).drop 1:=by
  rw[getD_eq_getElem?_getD,getElem?_map,getElem?_drop,Nat.add_comm 1 i,getD_eq_getElem?_getD]
  cases M[i+1]?<;>rfl
 unfold gQ;rw[e,rF]
theorem Kg {M:List (List Q2)}{w n:Nat}(b:MxB M w w n):MxB ((M.drop 1).map (List.drop 1)) (w - 1) (w - 1) n:=by
 refine⟨by rw[length_map,length_drop,b.h],fun ps hp=>?_,fun ps hp p hp'=>?_⟩
 ·obtain⟨qs,hq,rfl⟩:=mem_map.mp hp;rw[length_drop,b.w _ (mem_of_mem_drop hq)]
 ·obtain⟨qs,hq,rfl⟩:=mem_map.mp hp;exact b.l _ (mem_of_mem_drop hq) _ (mem_of_mem_drop hp')
theorem Md {R:List Q2}{w n:Nat}(b:LnB R w n):LnB (R.drop 1) (w - 1) n:=⟨by rw[length_drop,b.w],fun p hp=>b.l p (mem_of_mem_drop hp)⟩
theorem Uc (w:Nat):MxB (replicate w (replicate w (0,1))) w w 1:=by
 refine⟨length_replicate,fun ps hp=>?_,fun ps hp p hp'=>?_⟩
 ·rw[eq_of_mem_replicate hp,length_replicate]
 ·rw[eq_of_mem_replicate hp] at hp';rw[eq_of_mem_replicate hp'];exact⟨⟨by decide,by decide⟩,⟨show (0:Nat) < 2 ^ 1 by decide,show (1:Nat) < 2 ^ 1 by decide⟩⟩
theorem oZ (w j:Nat):(replicate w ((0,1):Q2)).getD j (0,1)=(0,1):=by
 rw[getD_eq_getElem?_getD]
 cases e:(replicate w ((0,1):Q2))[j]? with
 |none=>rfl
 |some p=>exact eq_of_mem_replicate (mem_of_getElem? e)
theorem Li (w i j:Nat):gQ (replicate w (replicate w (0,1))) i j=(0,1):=by
 have e:(replicate w (replicate w ((0,1):Q2))).getD i []=[]\/(replicate w (replicate w ((0,1):Q2))).getD i []=replicate w (0,1):=by
  rw[getD_eq_getElem?_getD]
  cases e:(replicate w (replicate w ((0,1):Q2)))[i]? with
  |none=>exact .inl rfl
  |some ps=>exact .inr (eq_of_mem_replicate (mem_of_getElem? e))
 unfold gQ;rcases e with e | e
 ·rw[e];rfl
 ·rw[e];exact oZ w j
theorem yL (w:Nat):LnB (replicate w (0,1)) w 1:=⟨length_replicate,fun p hp=>by
 rw[eq_of_mem_replicate hp];exact⟨⟨by decide,by decide⟩,⟨show (0:Nat) < 2 ^ 1 by decide,show (1:Nat) < 2 ^ 1 by decide⟩⟩⟩
theorem Oj {ds:List RD}(i:Nat):cJ (ds.take i)<=cJ ds:=by
 have h:cJ ds=cJ (ds.take i)+cJ (ds.drop i):=by
  unfold cJ jA;rw[<- List.length_append,<- filter_append,take_append_drop]
 lia
theorem Dt:(["row"]:List Str).Nodup:=by decide +kernel
theorem uM:(["line","width"]:List Str).Nodup:=by decide +kernel
theorem Rs:(["line"]:List Str).Nodup:=by decide +kernel
theorem Fqs.drop1 {K:Frag}{H:Hp}:∀{xs:List V} {ps:List Q2},Fqs K H xs ps->Fqs K H (xs.drop 1) (ps.drop 1)
 |_,_,.nil=>.nil
 |_,_,.cons _ q=>q
abbrev Yz:Stmt:=top 61
theorem mD:aQ ["net","rows","many","width","matrix","right","held","row"] ["net"] (aH Yz):=sK9 rfl rfl rfl rfl (by decide +kernel)
theorem Zd {dV:Value}(F:aU K "equations" "equations" Yz dV f fd){CN:Addr}(NTx:NT K mg CN)(T:RT K mg CR CK)(ml:mg "len"=none)(mr:mg "range"=none){aN:Addr}(fN:∀H,Fq K H aN (0,1))(mNO:mI9 mg "NOUGHT" aN)(GW:∀k,aM P w K mg base CX0 1 (fW k) (fdW k) ["self"] (jC k))(bW:∀k,aL K (fdW k) ["self"] [])(mW:∀k,fR K (CK k) "word" (fW k)){gRo:Addr}{gdRo:FuncData}(GRo:aM P w K mg base CX0 4 gRo gdRo ["self"] (lZ CN K CK))(bRo:aL K gdRo ["self"] [])(mRo:fR K CN "rows" gRo){gMa:Addr}{gdMa:FuncData}(GMa:aM P w K mg base CX0 1 gMa gdMa ["self"] (kL CN K))(bMa:aL K gdMa ["self"] [])(mMa:fR K CN "many" gMa)(G1:aM P w K mg base CX0 6 g1 gd1 ["matrix","row"] (Bh K CK))(b1:aL K gd1 ["matrix","row"] [])(k1:kI9 K g1)(m1:mI9 mg "enter_piece" g1)(G2:aM P w K mg base CX0 5 g2 gd2 ["right","row"] (tN K CK))(b2:aL K gd2 ["right","row"] [])(k2:kI9 K g2)(m2:mI9 mg "enter_push" g2)(G3:aM P w K mg base CX0 6 g3 gd3 ["matrix","right","row","column"] (Ap K CK))(b3:aL K gd3 ["matrix","right","row","column"] [])(k3:kI9 K g3)(m3:mI9 mg "enter_hold" g3) :
  aM P w K mg base CX 7 f fd ["net"] (Ds CN K):=by
 refine F.ok mD (fun vs H Q E h=>?_) fun cdv A outer s H vs Q E hr h=>?_
 ·obtain⟨_,_,_,_,_,rfl,_⟩:=h;rfl
 obtain⟨n,l,m,kb,ds,rfl,nt,hK,hm1,hm20,h40,hbig,q⟩:=h;have r1:=hr.mono (show 1<=6 by lia);have r4:=hr.mono (show 4<=6 by lia);have r5:=hr.mono (show 5<=6 by lia);refine⟨_,(aB (aR (i:=1) mD.nd rfl (Or.inl rfl) (dH (pv 0) NTx.cl mRo GRo r4 bRo .nil aK))
  (aB (aR (i:=2) mD.nd rfl (Or.inl rfl) (dH (pv 0) NTx.cl mMa GMa r1 bMa .nil aK))
  (aB (aR (i:=3) mD.nd rfl (Or.inr rfl) (aY eE (pv 2) (bO bG rfl ml PySem.boot_len (aA (eI (nl:=1) (fr:=[]) (Nc:=["row"]) (cl:=[]) rfl ⟨rfl,rfl,by decide +kernel,by decide +kernel,fun x c h=>(by cases h),dU rfl,rfl,fun i n h=>(by simp at h)⟩
    (cE (pv 1)) (fun C s3 H3 fp pins=>(aZ (i:=0) Dt rfl (Or.inl rfl))) (fun C s3 H3 fp pins=>(iW (bF fG (fF (pv 0) T.cl mW GW r1 bW .nil aK) cS (bH _))))
    (fun C s3 H3 fp pins=>(pv 0))) aC))))
  (aB (oJ (i:=4) (nl:=1) (fr:=[3]) (Nc:=["line","width"]) (cl:=[("width",s.heap.objs.size+1)]) mD.nd rfl rfl rfl ⟨rfl,rfl,by decide +kernel,by decide +kernel,fun x c h=>h,dU rfl,rfl,fun i n h=>match i,h with | 0,h=>by cases h;exact⟨3,rfl,rfl,rfl,rfl,.inl rfl⟩ | k+1,h=>by rw[show 1+(k+1)=k+2 by lia] at h;cases h⟩
    (fU rfl mr (aA (pv 3) aC)) (fun C s3 H3 fp pins=>(aZ (i:=0) uM rfl (Or.inl rfl))) (fun C s3 H3 fp pins=>fE)
    (fun C s3 H3 fp pins=>(aY Ci (cT (aA (cW (v:=.ref aN) rfl mNO rfl) aC)) (pv 1))) rfl)
  (aB (aR (i:=5) mD.nd rfl (Or.inl rfl) (aY Ci (cT (aA (cW (v:=.ref aN) rfl mNO rfl) aC)) (pv 3)))
  (aB (aR (i:=6) mD.nd rfl (Or.inl rfl) (pv 2))
  (aB (dB PassesOwn.never rfl (cE (pv 1)) (aZ (i:=7) mD.nd rfl (Or.inl rfl))
   (aF (cC (bF fG (fF (pv 7) T.cl mW GW r1 bW .nil aK) cS (bH _)) (aF (bN (aG G1 hr rfl m1 k1 b1 .nil aK (aA (pv 4) (aA (pv 7) aC))))) (aF (cC (bF fG (fF (pv 7) T.cl mW GW r1 bW .nil aK) cS (bH _)) (aF (bN (aG G2 r5 rfl m2 k2 b2 .nil aK (aA (pv 5) (aA (pv 7) aC))))) (aB (bN (aG G3 hr rfl m3 k3 b3 .nil aK (aA (pv 4) (aA (pv 5) (aA (pv 7) (aA (pv 6) aC))))))
  (aF (Nx (i:=6) mD.nd rfl (Or.inl rfl) aE Lq))))))))
  (aF (aV (eY (aA (eI (nl:=1) (fr:=[]) (Nc:=["line"]) (cl:=[]) rfl ⟨rfl,rfl,by decide +kernel,by decide +kernel,fun x c h=>(by cases h),dU rfl,rfl,fun i n h=>(by simp at h)⟩
    (cE (hJ iX (pv 4) (gV aE) mP)) (fun C s3 H3 fp pins=>(aZ (i:=0) Rs rfl (Or.inl rfl))) (fun C s3 H3 fp pins=>fE)
    (fun C s3 H3 fp pins=>(hJ (Jl (K:=K) rfl) (pv 0) (gV aE) mP))) (aA (hJ iX (pv 5) (gV aE) mP) aC)))))))))))),?_⟩
 obtain⟨dx,hn⟩:=nt.ob;refine⟨_,rfl,n,dx,_,rfl,hn,dA _ _ (by decide +kernel) (by decide +kernel),n,l,_,ds,rfl,nt,by lia,fun a xs H1 s1 na ea Rb=>?_⟩;have lxs:=Rb.length;obtain⟨dx1,hn1⟩:=(nt.same s1).ob;refine⟨_,rfl,n,dx1,_,rfl,hn1,dA _ _ (by decide +kernel) (by decide +kernel),n,l,_,ds,rfl,nt.same s1,?_⟩;refine⟨_,rfl,_,rfl,a,rfl,⟨_,SqL.of ea⟩,fun C0 hC0=>?_⟩;have sC0:=aI hC0 (.lst []);refine cZ (xs:=xs) (fun i zs H'=>aT H1 H'/\H' C0=some (.lst zs)/\zs.length=cJ (ds.take i)) ⟨sC0,aD,rfl⟩ (fun i zs H' h=>h.2.1) (fun i zs H' _ h=>h.1.seq (SqL.of ea)) ?_ ?_
 ·rintro i zs x H2 hx ⟨s2,e2,lz⟩ C hC;have hi:i < ds.length:=by
   have:=(List.getElem?_eq_some_iff.mp hx).1;lia
  obtain⟨⟨k0,u,v,p⟩,hd⟩:∃d,ds[i]?=some d:=⟨_,getElem?_eq_getElem hi⟩
  obtain⟨y,z,ey,rw,fz⟩:=Rb.at hd;have ex:x=.ref y:=by rw[ey] at hx;exact(Option.some.inj hx).symm
  subst ex;obtain⟨dr,hy⟩:=id (rw.same s2);have et:ds.take (i+1)=ds.take i++[(k0,u,v,p)]:=by rw[take_add_one,hd];rfl
  have lh:=Oj (ds:=ds) i;have lh2:cJ ds<=ds.length:=length_filter_le _ _;refine⟨dC.1,dC.2,?_⟩;refine⟨_,rfl,k0,y,dr,_,rfl,hy,(eU _ _ _ (by decide +kernel) (by decide +kernel) (by decide +kernel)),_,rfl,rfl,_,rfl,?_⟩
  by_cases hk:k0=.ho
  ·refine ifT (by show decide (V.str k0.wd=V.str Kd.ho.wd)=true;rw[dY];exact decide_eq_true hk) ⟨_,rfl,e2,bL (by lia),hC _ _ ⟨s2.change hC0,aD,?_⟩⟩;rw[et,kC,List.length_append,lz];show _+1=_+cQ k0;unfold cQ;rw[if_pos hk]
  ·refine ifF (by show decide (V.str k0.wd=V.str Kd.ho.wd)=false;rw[dY];exact decide_eq_false hk) (hC _ _ ⟨s2,e2,?_⟩);rw[et,kC,lz];show _=_+cQ k0;unfold cQ;rw[if_neg hk];rfl
 rintro zs0 H2 ⟨s2,e2,lz0⟩;rw[lxs,take_length] at lz0;refine⟨C0,zs0,rfl,.inl (SqL.of e2),_,_,rfl,rfl,?_⟩;obtain⟨W,hW⟩:∃W:Nat,W=m+cJ ds:=⟨_,rfl⟩
 have lh2:cJ ds<=ds.length:=length_filter_le _ _;have eW:(m:Int)+(zs0.length:Int)=(W:Int):=by rw[lz0,hW];lia
 show iM _ _ _ [some (.ref n),some (.ref a),some (.int (m:Int)),some (.int ((m:Int)+(zs0.length:Int))),none,none,none,none] H2;rw[eW];have hW60:W<=60:=by lia
 have hmW:m<=W:=by lia
 have s12:=s2;clear e2 sC0;refine⟨_,rfl,(W:Int),rfl,by lia,by lia,fun D hD=>?_⟩;rw[Int.toNat_natCast];have sD:=aI hD (.lst []);refine tJ (n:=W) (fun i zs H'=>aT H2 H'/\H' D=some (.lst zs)/\∃as:List Addr,zs=as.map V.ref/\as.length=i/\as.Nodup/\D∉as/\(∀b∈as,H2 b=none)/\∀b∈as,H' b=some (.lst (replicate W (.ref aN)))) ⟨sD,aD,[],rfl,rfl,nodup_nil,(by simp),(fun b hb=>by cases hb),(fun b hb=>by cases hb)⟩ (fun i zs H' h=>h.2.1) ?_ ?_
 ·rintro i zs H3 hi ⟨s3,e3,as,rfl,la,nd,nD,fr,al⟩ C hC;refine⟨dC.1,dC.2,fL ?_⟩;refine⟨zl9 1,fun l1 hl1=>?_⟩;have s4:=aI hl1 (.lst [.ref aN]);have e4:upd H3 l1 (.lst [.ref aN]) l1=some (.lst [.ref aN]):=aD;generalize upd H3 l1 (.lst [.ref aN])=H4 at s4 e4 ⊢;refine⟨_,rfl,l1,(W:Int),[.ref aN],rfl,rfl,e4,by lia,by lia,?_,fun b hb=>?_⟩
  ·rw[Int.toNat_natCast,sizeLine_eq];simp only[length_cons,length_nil];lia
  rw[Int.toNat_natCast,mB];have s5:=aI hb (.lst (replicate W (.ref aN)));have e5:upd H4 b (.lst (replicate W (.ref aN))) b=some (.lst (replicate W (.ref aN))):=aD;generalize upd H4 b (.lst (replicate W (.ref aN)))=H5 at s5 e5 ⊢;have s35:=s4.trans s5;have e35:=s35 _ _ e3;have nbD:b≠D:=Ne.symm (bC (s4 _ _ e3) hb);have nba:b∉as:=fun z=>by rw[s4 _ _ (al b z)] at hb;cases hb
  refine⟨e35,bL (by rw[length_map];lia),hC _ _ ⟨(s3.trans s35).change hD,aD,as++[b],by rw[map_append];rfl,by rw[List.length_append,la];rfl,?_,?_,fun c hc=>?_,fun c hc=>?_⟩⟩
  ·rw[nodup_append];refine⟨nd,by simp,fun x hx y hy z=>?_⟩;have:y=b:=by simpa using hy
   exact nba (by rw[<- this,<- z];exact hx)
  ·intro z;rcases mem_append.mp z with z | z
   ·exact nD z
   ·have:D=b:=by simpa using z
    exact nbD this.symm
  ·rcases mem_append.mp hc with z | z
   ·exact fr c z
   ·have:c=b:=by simpa using z
    rw[this];exact(s3.trans s4).free hb
  ·rcases mem_append.mp hc with z | z
   ·rw[aW (fun y=>nD (by rw[<- y];exact z))];exact s35 _ _ (al c z)
   ·have:c=b:=by simpa using z
    rw[this,aW nbD];exact e5
 rintro zs3 H3 ⟨s3,e3,as,rfl,la,nd,nD,fr,al⟩;have mx3:Mx K H3 D as (replicate W (replicate W (0,1))):=⟨e3,nd,nD,by rw[la,length_replicate],fun i b ps h1 h2=>by
  rw[eq_of_mem_replicate (mem_of_getElem? h2)];exact⟨_,al b (mem_of_getElem? h1),mG (fN _) W⟩⟩
 have nDH:H2 D=none:=hD;refine⟨zl9 1,fun l1 hl1=>?_⟩;have s4:=aI hl1 (.lst [.ref aN]);have e4:upd H3 l1 (.lst [.ref aN]) l1=some (.lst [.ref aN]):=aD;generalize upd H3 l1 (.lst [.ref aN])=H4 at s4 e4 ⊢;refine⟨_,rfl,l1,(W:Int),[.ref aN],rfl,rfl,e4,by lia,by lia,?_,fun R hR=>?_⟩
 ·rw[Int.toNat_natCast,sizeLine_eq];simp only[length_cons,length_nil];lia
 rw[Int.toNat_natCast,mB];have s5:=aI hR (.lst (replicate W (.ref aN)));have e5:upd H4 R (.lst (replicate W (.ref aN))) R=some (.lst (replicate W (.ref aN))):=aD;generalize upd H4 R (.lst (replicate W (.ref aN)))=H5 at s5 e5 ⊢;have s25:=s3.trans (s4.trans s5);have nRH:H2 R=none:=(s3.trans s4).free hR;have nRD:R≠D:=Ne.symm (bC ((s4) _ _ mx3.d) hR);have nRa:R∉as:=fun z=>by rw[s4 _ _ (al R z)] at hR;cases hR
 have mx5:=(mx3.same s4).same s5;have allN:∀b∈R :: as,H2 b=none:=fun b hb=>by
  rcases mem_cons.mp hb with z | z
  ·rw[z];exact nRH
  ·exact fr b z
 have F5:Fqs K H5 (replicate W (.ref aN)) (replicate W (0,1)):=mG (fN _) W;refine⟨_,rfl,?_⟩;have eaH:=s12 _ _ ea;have Rb2:=Rb.same s12;refine⟨_,rfl,a,rfl,⟨_,SqL.of (s25 _ _ eaH)⟩,?_⟩;refine dS (xs:=xs) (fun i σ H'=>aT H2 H'/\∃(M:List (List Q2)) (ys:List V) (rs:List Q2) (z7:Option V),σ=[some (.ref n),some (.ref a),some (.int (m:Int)),some (.int (W:Int)),some (.ref D),some (.ref R),some (.int ((m+cJ (ds.take i):Nat):Int)),z7]/\Mx K H' D as M/\MxB M W W (iK kb i+1)/\H' R=some (.lst ys)/\Fqs K H' ys rs/\LnB rs W (iK kb i+1)/\(∀x y,Mq.val (gQ M x y)=eqM m (ds.take i) x y)/\∀x,Mq.val (rs.getD x (0,1))=eqR m (ds.take i) x) ⟨s25,_,_,_,none,rfl,mx5,Uc W,e5,F5,yL W,fun x y=>by rw[Li,pQ];rfl,fun x=>by rw[oZ,pQ];rfl⟩ (fun i σ H' _ h=>h.1.seq (SqL.of eaH)) ?_ ?_
 ·rintro i x σ H6 hx ⟨s6,M,ys,rs,z7,rfl,mx,mb,eR,FR,lb,vM,vR⟩;have hi:i < ds.length:=by
   have:=(List.getElem?_eq_some_iff.mp hx).1;lia
  obtain⟨⟨k0,u,v,p⟩,hd⟩:∃d,ds[i]?=some d:=⟨_,getElem?_eq_getElem hi⟩
  obtain⟨y,z,ey,rw0,fz0⟩:=Rb2.at hd;have ex:x=.ref y:=by rw[ey] at hx;exact(Option.some.inj hx).symm
  subst ex;obtain⟨rd,bp⟩:=hK i _ hd;have lp:Low p:=rd.2.2.2.2.1;have bp:Bd (kb i) p:=bp;have ptm:cH (m:Int) u v:=⟨rd.1,rd.2.1,rd.2.2.1,rd.2.2.2.1⟩
  have ptW:cH (W:Int) u v:=⟨rd.1,by have:=rd.2.1;show u < (W:Int);have h2:u < (m:Int):=this;lia,rd.2.2.1,by have h2:v < (m:Int):=rd.2.2.2.1;show v < (W:Int);lia⟩
  have rw6:=rw0.same s6;have fz6:Fq K H6 z p:=s6.fq fz0;obtain⟨dr,hy⟩:=id rw6;have et:ds.take (i+1)=ds.take i++[(k0,u,v,p)]:=by rw[take_add_one,hd];rfl
  have hh:=Oj (ds:=ds) (i+1);rw[et,kC] at hh;have hh:cJ (ds.take i)+cQ k0<=cJ ds:=hh;have eN:iK kb (i+1)+1=(iK kb i+1)+(4*kb i+20):=by show iK kb i+(4*kb i+20)+1=_;lia
  have leN:iK kb i+(4*kb i+20)<=iK kb ds.length:=vV kb (i:=i+1) hi;have eM:∀x y,eqM m (ds.take (i+1)) x y=eqM m (ds.take i) x y+cM (k0,u,v,p) (m+cJ (ds.take i)) x y:=fun x y=>by rw[et,Bk]
  have eRr:∀x,eqR m (ds.take (i+1)) x=eqR m (ds.take i) x+cR (k0,u,v,p) (m+cJ (ds.take i)) x:=fun x=>by rw[et,Ah]
  have eH:cJ (ds.take (i+1))=cJ (ds.take i)+cQ k0:=by rw[et,kC]
  rw[eN,eH];have lst:=mx.lsts
  cases k0 with
  |pc=>
   have p0:0 < p.1:=rd.2.2.2.2.2.1 rfl;refine⟨_,rfl,Kd.pc,y,dr,_,rfl,hy,(eU _ _ _ (by decide +kernel) (by decide +kernel) (by decide +kernel)),_,rfl,rfl,_,rfl,ifT (by show decide (V.str Kd.pc.wd=V.str Kd.pc.wd)=true;rw[dY];rfl) ?_⟩;refine⟨_,rfl,_,rfl,D,y,z,as,M,(.pc,u,v,p),W,iK kb i+1,kb i,rfl,mx,mb,rw6,fz6,ptW,lp,p0,bp,by lia,fun H7 sx7 mx7=>?_⟩;obtain⟨mb7,v7⟩:=qa7 (d:=(.pc,u,v,p)) (h:=m+cJ (ds.take i)) mb ptm hmW rfl lp p0 bp;have eR7:=sx7 _ _ eR nRa;refine⟨SX.same s6 sx7 fr,_,ys,rs,_,rfl,mx7,mb7.mono (by lia),eR7,SX.fqs lst sx7 FR,lb.mono (by lia),fun x y=>by rw[v7,vM,eM],fun x=>?_⟩;rw[vR,eRr];show _=_+(0:Rat)
   rw[Rat.add_zero]
  |pu=>
   refine⟨_,rfl,Kd.pu,y,dr,_,rfl,hy,(eU _ _ _ (by decide +kernel) (by decide +kernel) (by decide +kernel)),_,rfl,rfl,_,rfl,ifF (by show decide (V.str Kd.pu.wd=V.str Kd.pc.wd)=false;rw[dY];rfl) ?_⟩;refine⟨_,rfl,Kd.pu,y,dr,_,rfl,hy,(eU _ _ _ (by decide +kernel) (by decide +kernel) (by decide +kernel)),_,rfl,rfl,_,rfl,ifT (by show decide (V.str Kd.pu.wd=V.str Kd.pu.wd)=true;rw[dY];rfl) ?_⟩;refine⟨_,rfl,_,rfl,R,y,z,ys,rs,(.pu,u,v,p),W,iK kb i+1,kb i,rfl,eR,FR,lb,rw6,fz6,ptW,lp,bp,by lia,fun ys' H7 sx7 eR7 F7=>?_⟩;obtain⟨lb7,v7⟩:=Us (d:=(.pu,u,v,p)) (h:=m+cJ (ds.take i)) lb ptm hmW rfl lp bp;have mx7:Mx K H7 D as M:=⟨sx7 _ _ mx.d (by simp;exact Ne.symm nRD),mx.n,mx.nd,mx.la,fun i' b ps h1 h2=>by
    obtain⟨ws,h,f⟩:=mx.r i' b ps h1 h2;refine⟨ws,sx7 _ _ h (by simp;exact fun z=>nRa (by rw[<- z];exact mem_of_getElem? h1)),SX.fqs (as:=[R]) (fun c hc=>?_) sx7 f⟩;have:c=R:=by simpa using hc
    exact⟨ys,by rw[this];exact eR⟩⟩
   refine⟨SX.same s6 sx7 (fun c hc=>by have:c=R:=(by simpa using hc);rw[this];exact nRH),M,ys',_,_,rfl,mx7,mb.mono (by lia),eR7,F7,lb7.mono (by lia),fun x y=>?_,fun x=>by rw[v7,vR,eRr]⟩;rw[vM,eM];show _=_+(0:Rat)
   rw[Rat.add_zero]
  |ho=>
   have hc1:cQ Kd.ho=1:=rfl;rw[hc1] at hh;have hcW:m+cJ (ds.take i) < W:=by lia
   refine⟨_,rfl,Kd.ho,y,dr,_,rfl,hy,(eU _ _ _ (by decide +kernel) (by decide +kernel) (by decide +kernel)),_,rfl,rfl,_,rfl,ifF (by show decide (V.str Kd.ho.wd=V.str Kd.pc.wd)=false;rw[dY];rfl) ?_⟩;refine⟨_,rfl,Kd.ho,y,dr,_,rfl,hy,(eU _ _ _ (by decide +kernel) (by decide +kernel) (by decide +kernel)),_,rfl,rfl,_,rfl,ifF (by show decide (V.str Kd.ho.wd=V.str Kd.pu.wd)=false;rw[dY];rfl) ?_⟩;refine⟨_,rfl,_,rfl,_,rfl,_,rfl,D,R,y,z,as,M,ys,rs,(.ho,u,v,p),W,iK kb i+1,m+cJ (ds.take i),rfl,mx,mb,eR,FR,lb.w,nRD,nRa,rw6,fz6,ptW,hcW,by lia,fun ys' H7 sx7 mx7 eR7 F7=>?_⟩;obtain⟨mb7,v7⟩:=qd9 (d:=(.ho,u,v,p)) mb ptm hmW hcW rfl;have z0:Mq.val (rs.getD (m+cJ (ds.take i)) (0,1))=0:=by
    rw[vR];exact vE (m:=m) _ _ _ (fun d hd'=>by
     obtain⟨i1,hi1⟩:=getElem?_of_mem (mem_of_mem_take hd');have:=(hK i1 d hi1).1;exact⟨this.1,this.2.1,this.2.2.1,this.2.2.2.1⟩) (Nat.le_refl _) (Nat.le_refl _)
   obtain⟨lb7,w7⟩:=qf3 (m:=m) (d:=(.ho,u,v,p)) lb hcW rfl lp bp z0;refine⟨_,rfl,_,_,rfl,rfl,?_⟩;refine⟨SX.same s6 sx7 allN,_,ys',_,some (.ref y),?_,mx7,mb7.mono (by lia),eR7,F7,lb7.mono (by lia),fun x y=>by rw[v7,vM,eM],fun x=>by rw[w7,vR,eRr]⟩;have e1:((m+cJ (ds.take i):Nat):Int)+1=((m+(cJ (ds.take i)+cQ Kd.ho):Nat):Int):=by rw[hc1];lia
   rw[<- e1];rfl
 rintro σ H6 ⟨s6,M,ys,rs,z7,rfl,mx,mb,eR,FR,lb,vM,vR⟩;rw[lxs] at mb lb vM vR;rw[take_length] at vM vR;refine⟨_,rfl,1,rfl,D,_,rfl,SqL.of mx.d,fun C hC=>?_⟩;rw[Gg];have s7:=aI hC (.lst ((as.map V.ref).drop 1));have e7:upd H6 C (.lst ((as.map V.ref).drop 1)) C=some (.lst ((as.map V.ref).drop 1)):=aD;generalize upd H6 C (.lst ((as.map V.ref).drop 1))=H7 at s7 e7 ⊢;have mx7:=mx.same s7;refine⟨C,rfl,⟨_,SqL.of e7⟩,fun P hP=>?_⟩;have sP:=aI hP (.lst []);refine cZ (xs:=(as.map V.ref).drop 1) (fun i zs H'=>aT H7 H'/\H' P=some (.lst zs)/\Fms K H7 H' zs (((M.drop 1).map (List.drop 1)).take i)/\∀x∈zs,x≠.ref P) ⟨sP,aD,⟨rfl,fun i x ps h=>by simp at h⟩,fun x hx=>by cases hx⟩ (fun i zs H' h=>h.2.1) (fun i zs H' _ h=>h.1.seq (SqL.of e7)) ?_ ?_
 ·rintro i zs x H8 hx ⟨s8,e8,fm,nP⟩ C' hC';rw[getElem?_drop,getElem?_map] at hx;obtain⟨b,hb,rfl⟩:=Option.map_eq_some_iff.mp hx;have bl':=(List.getElem?_eq_some_iff.mp hb).1;have hM1:1+i < M.length:=by rw[<- mx.la];exact bl'
  obtain⟨ws,hws,fws⟩:=(mx7.same s8).r (1+i) b M[1+i] hb (getElem?_eq_getElem hM1);have lz:=fm.l;rw[length_take,length_map,length_drop] at lz;have hM60:M.length<=60:=by rw[mb.h];exact hW60
  refine⟨dC.1,dC.2,fL ?_⟩;refine⟨_,rfl,1,rfl,b,_,rfl,SqL.of hws,fun c hc=>?_⟩;rw[Gg];have s9:=aI hc (.lst (ws.drop 1));have e9:upd H8 c (.lst (ws.drop 1)) c=some (.lst (ws.drop 1)):=aD;generalize upd H8 c (.lst (ws.drop 1))=H9 at s9 e9 ⊢;have e89:=s9 _ _ e8;have ncP:c≠P:=Ne.symm (bC e8 hc);refine⟨e89,bL (by lia),hC' _ _ ⟨(s8.trans s9).change hP,aD,⟨?_,fun j y ps h1 h2=>?_⟩,fun y hy=>?_⟩⟩
  ·rw[List.length_append,length_take,length_map,length_drop];simp only[length_cons,length_nil];lia
  ·have ee:((M.drop 1).map (List.drop 1))[i]?=some (M[1+i].drop 1):=by rw[getElem?_map,getElem?_drop,getElem?_eq_getElem hM1];rfl
   rw[take_add_one,ee] at h2
   by_cases hj:j < zs.length
   ·rw[getElem?_append_left hj] at h1;rw[getElem?_append_left (by rw[<- fm.l];exact hj)] at h2;obtain⟨a',xs',q1,q2,q3,q4⟩:=fm.r j y ps h1 h2;have na:a'≠P:=fun z=>nP y (mem_of_getElem? h1) (by rw[q1,z]);exact⟨a',xs',q1,q2,by rw[aW na];exact s9 _ _ q3,(q4.same s9).upd e89⟩
   ·rw[getElem?_append_right (by lia)] at h1;rw[getElem?_append_right (by rw[<- fm.l];lia),<- fm.l] at h2;have j0:j - zs.length=0:=by
     have:=(List.getElem?_eq_some_iff.mp h1).1;simp at this;lia
    rw[j0] at h1 h2;have h1:V.ref c=y:=by simpa using h1
    have h2:M[1+i].drop 1=ps:=by simpa using h2
    subst h1;rw[<- h2];exact⟨c,_,rfl,s8.free hc,by rw[aW ncP];exact e9,((Fqs.drop1 (fws.same s9))).upd e89⟩
  ·rcases mem_append.mp hy with z | z
   ·exact nP y z
   ·have:y=.ref c:=by simpa using z
    rw[this];exact fun z=>ncP (by injection z)
 rintro us H8 ⟨s8,e8,fm,nP⟩;rw[show ((as.map V.ref).drop 1).length=((M.drop 1).map (List.drop 1)).length by rw[length_drop,length_map,length_map,length_drop,mx.la],take_length] at fm;have s78:=s7.trans s8;have eR8:=s78 _ _ eR;refine⟨_,rfl,1,rfl,R,_,rfl,SqL.of eR8,fun r hr'=>?_⟩;rw[Gg];have s9:=aI hr' (.lst (ys.drop 1));have e9:upd H8 r (.lst (ys.drop 1)) r=some (.lst (ys.drop 1)):=aD;generalize upd H8 r (.lst (ys.drop 1))=H9 at s9 e9 ⊢;refine⟨zl9 2,fun t ht=>?_⟩;have sT:=aI ht (.tup [.ref P,.ref r]);have s9T:=s9.trans sT;have s0:aT H (upd H9 t (.tup [.ref P,.ref r])):=s1.trans (s12.trans (s6.trans (s78.trans s9T)));have s07:aT H H7:=s1.trans (s12.trans (s6.trans s7));have fl:∀c,H7 c=none->H c=none:=fun c h=>s07.free h;refine q t P r us (ys.drop 1) ((M.drop 1).map (List.drop 1)) (rs.drop 1) _ s0 aD (fl P hP) ((s07.trans s8).free hr') (s9T _ _ e8) (sT _ _ e9) ⟨fm.l,fun i x ps h1 h2=>?_⟩ (Fqs.drop1 (FR.same (s78.trans s9T))) (fun x hx=>⟨nP x hx,?_⟩) ⟨?_,?_,?_,?_⟩
 ·obtain⟨a',xs',q1,q2,q3,q4⟩:=fm.r i x ps h1 h2;exact⟨a',xs',q1,fl a' q2,s9T _ _ q3,q4.same s9T⟩
 ·intro z;obtain⟨i,hi⟩:=getElem?_of_mem hx;have il:i < ((M.drop 1).map (List.drop 1)).length:=by rw[<- fm.l];exact(List.getElem?_eq_some_iff.mp hi).1
  obtain⟨a',xs',q1,q2,q3,q4⟩:=fm.r i x _ hi (getElem?_eq_getElem il);rw[q1] at z;have:a'=r:=by injection z
  rw[<- this,q3] at hr'
  cases hr'
 ·have:=Kg mb
  rwa [show W - 1=m - 1+cJ ds by lia] at this
 ·have:=Md lb
  rwa [show W - 1=m - 1+cJ ds by lia] at this
 ·intro i j;rw[Iy];exact vM _ _
 ·intro i;rw[rF];exact vR _
theorem oM {ec:List (Str × Addr)}:∀(x:Str) (c:Addr),([]:List (Str × Addr)).lookup x=some c->ec.lookup x=some c:=fun _ _ h=>by cases h
theorem dR {ec cl:List (Str × Addr)}{a:Str}{d:Addr}(h:ec.lookup a=some d)(r:∀x c,cl.lookup x=some c->ec.lookup x=some c):∀x c,((a,d) :: cl).lookup x=some c->ec.lookup x=some c:=fun x c e=>by
 rw[lookup_cons] at e
 cases q:x == a with
 |true=>rw[q] at e;rw[eq_of_beq q,h];exact e
 |false=>rw[q] at e;exact r x c e
theorem gP {X:Cx}{K:Frag}(h:X.K=K):IxR X (Ui K):=by subst h;exact aX
theorem jV {X:Cx}{K:Frag}(h:X.K=K):IxR X (Zn K):=by subst h;exact bM
abbrev De:Stmt:=top 32
theorem qX:aQ ["rows","numbers","point","steps","number","row"] ["rows","numbers","point"] (aH De):=sK9 rfl rfl rfl rfl (by decide +kernel)
theorem Oo {dV:Value}(F:aU K "steps_from" "steps_from" De dV f fd)(T:RT K mg CR CK) :
  aM P w K mg base CX 1 f fd ["rows","numbers","point"] (Gw K CK):=by
 refine F.ok qX (fun vs H Q E h=>?_) fun cdv A outer s H vs Q E hr h=>?_
 ·obtain⟨_,_,_,_,_,_,rfl,_⟩:=h;rfl
 obtain⟨a,b,xs,ds,es,p,rfl,hA,Rb,hB,hE,h100,q⟩:=h;refine⟨_,(aB (aR (i:=3) qX.nd rfl (Or.inl rfl) (cT aC))
  (aB (dB PassesOwn.never rfl (cE (pv 1)) (aZ (i:=4) qX.nd rfl (Or.inl rfl))
   (aB (aR (i:=5) qX.nd rfl (Or.inl rfl) (aS bM (pv 0) (pv 4) (fun _ _=>rfl)))
  (aF (cC (bF fG (cI (pv 5) rfl) (pv 2) (bH _)) (aF (bN (pT PySem.F.plainAttrs_list PySem.F.slot_list_append PySem.F.type_list_append fK (pv 3) (aA (eY (aA (eY (aA (pv 4) (aA aE aC))) (aA (cI (pv 5) rfl) aC))) aC)))) (aF (cC (bF fG (cI (pv 5) rfl) (pv 2) (bH _)) (aF (bN (pT PySem.F.plainAttrs_list PySem.F.slot_list_append PySem.F.type_list_append fK (pv 3) (aA (eY (aA (eY (aA (pv 4) (aA (Gp yN aE) aC))) (aA (cI (pv 5) rfl) aC))) aC)))) bK))))))
  (aF (aV (pv 3))))),?_⟩
 refine⟨zl9 0,fun l hl=>?_⟩;have s1:=aI hl (.lst []);have e1:upd H l (.lst []) l=some (.lst []):=aD;generalize upd H l (.lst [])=H1 at s1 e1 ⊢;refine⟨_,rfl,b,rfl,⟨_,s1.seq hB⟩,?_⟩;refine dS (xs:=es.map fun (e:Br)=>V.int ((e.1:Nat):Int)) (fun i σ H'=>aT H H'/\∃(ys:List V) (z4 z5:Option V),σ=[some (.ref a),some (.ref b),some (.int (p:Int)),some (.ref l),z4,z5]/\H' l=some (.lst ys)/\Sds K H' ys (stF (es.take i) p)) ⟨s1,[],none,none,rfl,e1,.nil⟩ (fun i σ H' _ h=>h.1.seq hB) ?_ ?_
 ·rintro i x σ H2 hx ⟨s2,ys,z4,z5,rfl,e2,S2⟩;rw[getElem?_map] at hx;obtain⟨e,he,rfl⟩:=Option.map_eq_some_iff.mp hx;have hi:i < es.length:=(List.getElem?_eq_some_iff.mp he).1;obtain⟨⟨k,u,v,q'⟩,hd,eu,ev⟩:=hE e (mem_of_getElem? he);have eu:u=(e.2.1:Int):=eu;have ev:v=(e.2.2:Int):=ev;subst eu;subst ev;obtain⟨y,z,ey,rw0,fz⟩:=Rb.at hd;have rw2:=rw0.same s2;obtain⟨dx,hx2⟩:=id rw2;have at_:atI xs (e.1:Int)=some (.ref y):=bS ey;have ly:ys.length<=es.length:=by
   have h1:=S2.length;have h2:(stF (es.take i) p).length<=(es.take i).length:=length_filterMap_le _ _;rw[length_take] at h2;lia
  refine⟨_,rfl,_,rfl,a,xs,_,_,rfl,rfl,s2.seq hA,at_,?_⟩;refine⟨_,rfl,y,CK _,_,_,_,rfl,hx2,T.cl _,T.nS _,cY _ _ _,_,rfl,rfl,_,rfl,?_⟩
  by_cases c1:e.2.1=p
  ·have tk:stF (es.take (i+1)) p=stF (es.take i) p++[((e.1,1),e.2.2)]:=by
    unfold stF;rw[take_add_one,he,filterMap_append];show _++[e].filterMap _=_;rw[filterMap_cons,if_pos c1];rfl
   refine ifT (decide_eq_true (by rw[c1])) ?_;refine⟨_,rfl,.inl ⟨rfl,_,SqL.of e2⟩,_,rfl,zl9 2,fun u hu'=>?_⟩;have su:=aI hu' (.tup [.int (e.1:Int),.int (1)]);have eu:SqT K (upd H2 u (.tup [.int (e.1:Int),.int (1)])) u [.int (e.1:Int),.int (1)]:=SqT.of aD;generalize upd H2 u (.tup [.int (e.1:Int),.int (1)])=H3 at su eu ⊢;obtain⟨dx3,hx3⟩:=id (rw2.same su);refine⟨_,rfl,y,CK _,_,_,_,rfl,hx3,T.cl _,T.nG _,dP _ _ _,zl9 2,fun t ht=>?_⟩;rw[show (k,(e.2.1:Int),(e.2.2:Int),q').2.2.1=(e.2.2:Int) from rfl];have st:=aI ht (.tup [.ref u,.int (e.2.2:Int)]);have et:SqT K (upd H3 t (.tup [.ref u,.int (e.2.2:Int)])) t [.ref u,.int (e.2.2:Int)]:=SqT.of aD;generalize upd H3 t (.tup [.ref u,.int (e.2.2:Int)])=H4 at st et ⊢;have s24:=su.trans st;have e4:=s24 _ _ e2;refine⟨l,_,_,rfl,rfl,e4,bL (by lia),⟨(s2.trans s24).change hl,_,_,_,rfl,aD,?_⟩⟩;rw[tk];exact Sds.upd e4 ((S2.same s24).app (.cons et (st.seqT eu) .nil))
  ·refine ifF (decide_eq_false (fun z=>c1 (by have:(e.2.1:Int)=(p:Int):=(by injection z);lia))) ?_;refine⟨_,rfl,y,CK _,_,_,_,rfl,hx2,T.cl _,T.nG _,dP _ _ _,_,rfl,rfl,_,rfl,?_⟩
   by_cases c2:e.2.2=p
   ·have tk:stF (es.take (i+1)) p=stF (es.take i) p++[((e.1,-1),e.2.1)]:=by
     unfold stF;rw[take_add_one,he,filterMap_append];show _++[e].filterMap _=_;rw[filterMap_cons,if_neg c1,if_pos c2];rfl
    refine ifT (decide_eq_true (by rw[c2])) ?_;refine⟨_,rfl,.inl ⟨rfl,_,SqL.of e2⟩,_,rfl,_,rfl,zl9 2,fun u hu'=>?_⟩;have su:=aI hu' (.tup [.int (e.1:Int),.int (-1)]);have eu:SqT K (upd H2 u (.tup [.int (e.1:Int),.int (-1)])) u [.int (e.1:Int),.int (-1)]:=SqT.of aD;generalize upd H2 u (.tup [.int (e.1:Int),.int (-1)])=H3 at su eu ⊢;obtain⟨dx3,hx3⟩:=id (rw2.same su);refine⟨_,rfl,y,CK _,_,_,_,rfl,hx3,T.cl _,T.nS _,cY _ _ _,zl9 2,fun t ht=>?_⟩;rw[show (k,(e.2.1:Int),(e.2.2:Int),q').2.1=(e.2.1:Int) from rfl];have st:=aI ht (.tup [.ref u,.int (e.2.1:Int)]);have et:SqT K (upd H3 t (.tup [.ref u,.int (e.2.1:Int)])) t [.ref u,.int (e.2.1:Int)]:=SqT.of aD;generalize upd H3 t (.tup [.ref u,.int (e.2.1:Int)])=H4 at st et ⊢;have s24:=su.trans st;have e4:=s24 _ _ e2;refine⟨l,_,_,rfl,rfl,e4,bL (by lia),⟨(s2.trans s24).change hl,_,_,_,rfl,aD,?_⟩⟩;rw[tk];exact Sds.upd e4 ((S2.same s24).app (.cons et (st.seqT eu) .nil))
   ·have tk:stF (es.take (i+1)) p=stF (es.take i) p:=by
     unfold stF;rw[take_add_one,he,filterMap_append];show _++[e].filterMap _=_;rw[filterMap_cons,if_neg c1,if_neg c2];simp
    refine ifF (decide_eq_false (fun z=>c2 (by have:(e.2.2:Int)=(p:Int):=(by injection z);lia))) ⟨s2,ys,_,_,rfl,e2,?_⟩;rw[tk];exact S2
 rintro σ H2 ⟨s2,ys,z4,z5,rfl,e2,S2⟩;rw[length_map,take_length] at S2;exact⟨_,rfl,q l ys H2 s2 hl e2 S2⟩
theorem Xa {m:Nat}{es:List Br}{b:Nat}(hm:Ptm m es)(hb:b < m)(h20:m<=20){w:WS}(nd:(bX w).Nodup)(pt:∀x st,(x,st)∈w->∃pts,Pt es b st x pts/\∀y∈pts,y∈bX w){st:List Stp}{x:Nat}{pts:List Nat}(p:Pt es b st x pts)(k:∀y∈pts,y∈bX w):st.length<=20:=by
 have l:pts.length=st.length+1:=by
  induction p with
  |nil=>rfl
  |snoc h g n ih=>rw[List.length_append,List.length_append,ih fun y hy=>k y (mem_append_left _ hy)];rfl
 have nd':pts.Nodup:=by
  clear k l
  induction p with
  |nil=>simp
  |snoc h g n ih=>
   rw[nodup_append];refine⟨ih,by simp,fun x hx y hy z=>n ?_⟩;rw[mem_singleton] at hy;rw[<- hy,<- z];exact hx
 have:=Ew nd' fun y hy=>yF hm hb pt y (k y hy);lia
theorem Yi {es:List Br}{b p m j:Nat}{T:List (Stp × Nat)}{s:WS × List Nat}(hm:Ptm m es)(hb:b < m)(h20:m<=20)(h:WJ es b p [] s)(g:∀t∈T,mH es t.1 p t.2):((T.take j).foldl (inF p) s).2.length<=muF s:=by
 have:=yZ hm hb h20 (T.take j) [] h fun t ht=>g t (mem_of_mem_take ht);unfold muF at this ⊢;lia
def muW (σ:St)(H:Hp):Nat:=match σ with
 | [_,_,_,_,some (.ref D),some (.ref W),_,_]=>match H D,H W with
  |some (.dK kvs),some (.lst q)=>2*(20 - kvs.length)+q.length
  |_,_=>0
 |_=>0
theorem Py {H:Hp}{D W:Addr}{kvs:List (Key × V)}{q:List V}{a b c d e f:Option V}(h:H D=some (.dK kvs))(g:H W=some (.lst q)):muW [a,b,c,d,some (.ref D),some (.ref W),e,f] H=2*(20 - kvs.length)+q.length:=by
 show (match H D,H W with | some (.dK kvs),some (.lst q)=>2*(20 - kvs.length)+q.length | _,_=>0)=_;rw[h,g]
theorem Qa {q:List Nat}(h:q≠[]):(q.map fun (p:Nat)=>V.int (p:Int))[((q.map fun (p:Nat)=>V.int (p:Int))).length - 1]?=some (.int ((q.getLastD 0:Nat):Int))/\(q.map fun (p:Nat)=>V.int (p:Int)).dropLast=(q.dropLast.map fun (p:Nat)=>V.int (p:Int)):=by
 obtain⟨_,e⟩:=Gk h;generalize q.getLastD 0=x at e;generalize q.dropLast=r at e;subst e;rw[map_append];simp
abbrev Za:Stmt:=top 31
theorem zM:aQ ["rows","numbers","begin","end","ways","waiting","point","step"] ["rows","numbers","begin","end"] (aH Za):=sK9 rfl rfl rfl rfl (by decide +kernel)
theorem Yf {dV:Value}(F:aU K "way_along" "way_along" Za dV f fd)(ml:mg "len"=none)(G1:aM P w K mg base CX0 1 g1 gd1 ["rows","numbers","point"] (Gw K CK))(b1:aL K gd1 ["rows","numbers","point"] [])(k1:kI9 K g1)(m1:mI9 mg "steps_from" g1) :
  aM P w K mg base CX 2 f fd ["rows","numbers","begin","end"] (Vg K CK):=by
 refine F.ok zM (fun vs H Q E h=>?_) fun cdv A outer s H vs Q E hr h=>?_
 ·obtain⟨_,_,_,_,_,_,_,_,rfl,_⟩:=h;rfl
 obtain⟨a,b,xs,ds,es,m,f,t,rfl,hA,Rb,hB,hE,h100,hm,h20,hf,qN,qS⟩:=h;refine⟨_,(aB (aR (i:=4) zM.nd rfl (Or.inl rfl) (Gd (jU (pv 2) (cT aC) Ej) rfl rfl (by simp) (by decide)))
  (aB (aR (i:=5) zM.nd rfl (Or.inl rfl) (cT (aA (pv 2) aC)))
  (aB (rN PassesOwn.never (bF vZ (bO bG rfl ml PySem.boot_len (aA (pv 5) aC)) aE (bH _))
   (aB (aR (i:=6) zM.nd rfl (Or.inl rfl) (Yn PySem.F.plainAttrs_list PySem.F.slot_list_pop PySem.F.type_list_pop Ze (pv 5)))
   (aF (dB PassesOwn.never rfl (cE (aG G1 hr rfl m1 k1 b1 .nil aK (aA (pv 0) (aA (pv 1) (aA (pv 6) aC))))) (aZ (i:=7) zM.nd rfl (Or.inl rfl))
    (aF (cC (zF (Je (vC hr) (aS aX (pv 7) aE (fun _ _=>rfl)) (pv 4)))
     (aB (Qt (vC hr) (pv 4) (aS aX (pv 7) aE (fun _ _=>rfl)) (aY tG (jJ (vC hr) (pv 4) (pv 6) (fun _ _=>rfl)) (cT (aA (aS aX (pv 7) aE (fun _ _=>rfl)) aC))) rfl)
     (aF (bN (pT PySem.F.plainAttrs_list PySem.F.slot_list_append PySem.F.type_list_append fK (pv 5) (aA (aS aX (pv 7) aE (fun _ _=>rfl)) aC)))))
     bK))))))
  (aF (aV (Ke (vC hr) (pv 4) (pv 3) ⟨rfl,rfl,rfl,rfl⟩)))))),?_⟩
 refine fun D hD=>?_;have sD:=aI hD (.dK []);have eD:upd H D (.dK []) D=some (.dK []):=aD;generalize upd H D (.dK [])=H1 at sD eD ⊢;refine⟨_,rfl,zl9 0,fun L hL=>?_⟩;have nLD:L≠D:=Ne.symm (bC eD hL);have nL:H L=none:=sD.free hL;have sL:=aI hL (.lst []);have eL:upd H1 L (.lst []) L=some (.lst []):=aD;generalize upd H1 L (.lst [])=H2 at sL eL ⊢;refine⟨sL _ _ eD,[((Sum.inl (f:Int):Key),V.ref L)],rfl,by show 1<=15;decide,?_⟩;have s3:aT H (upd H2 D (.dK (iL [] [((Sum.inl (f:Int):Key),V.ref L)]))):=(sD.trans sL).change hD;have e3:upd H2 D (.dK (iL [] [((Sum.inl (f:Int):Key),V.ref L)])) D=some (.dK [((Sum.inl (f:Int):Key),V.ref L)]):=aD;have eL3:upd H2 D (.dK (iL [] [((Sum.inl (f:Int):Key),V.ref L)])) L=some (.lst []):=by rw[aW nLD];exact eL
 generalize upd H2 D (.dK (iL [] [((Sum.inl (f:Int):Key),V.ref L)]))=H3 at s3 e3 eL3 ⊢;refine⟨_,rfl,zl9 1,fun W hW=>?_⟩;have nLW:L≠W:=bC eL3 hW;have nDW:D≠W:=bC e3 hW;have nW:H W=none:=s3.free hW;have sW:=aI hW (.lst [.int (f:Int)]);have eW:upd H3 W (.lst [.int (f:Int)]) W=some (.lst [.int (f:Int)]):=aD;generalize upd H3 W (.lst [.int (f:Int)])=H4 at sW eW ⊢;have s4:=s3.trans sW;have w4:Wys K H W H4 [((Sum.inl (f:Int):Key),V.ref L)] (bY es f 0).1:=.cons nL nLW (sW _ _ eL3) .nil .nil;refine sQ (fun σ H'=>aT H H'/\∃(i:Nat) (kvs:List (Key × V)) (z6 z7:Option V),σ=[some (.ref a),some (.ref b),some (.int (f:Int)),some (.int (t:Int)),some (.ref D),some (.ref W),z6,z7]/\H' D=some (.dK kvs)/\H' W=some (.lst ((bY es f i).2.map fun (p:Nat)=>V.int (p:Int)))/\Wys K H W H' kvs (bY es f i).1/\i<=40) muW ⟨s4,0,_,none,none,rfl,sW _ _ e3,eW,w4,by lia⟩ ?_ ?_
 ·rintro σ H5 ⟨s5,i,kvs,z6,z7,rfl,e5,q5,w5,hi⟩;have lk:=w5.length;have wi:=jH es f i;have le20:=Pb hm hf wi.nd wi.pt;refine⟨_,rfl,W,_,rfl,.inl (SqL.of q5),_,_,rfl,rfl,_,rfl,?_⟩
  by_cases hq:(bY es f i).2=[]
  ·-- it ends
   rw[hq] at q5;refine ifF (by rw[hq];rfl) ?_;have e60:=Sq hq (by lia);refine⟨_,rfl,D,rfl,.inl ⟨kvs,.inl e5⟩,_,rfl,_,iO.k (k:=Sum.inl (t:Int)) e5,?_⟩
   by_cases c:t∈bX (bY es f i).1
   ·obtain⟨l,ys,st,ev,eg,nl,_,hl,f'⟩:=w5.some_ c;rw[ev];refine qS st ?_ l ys H5 s5 nl hl f';unfold sX;rw[e60];exact eg
   ·rw[(w5.none_ c).1];refine qN ?_ H5 s5;unfold sX;rw[e60];exact pO c
  ·have mu0:=Py (a:=some (.ref a)) (b:=some (.ref b)) (c:=some (.int (f:Int))) (d:=some (.int (t:Int))) (e:=z6) (f:=z7) e5 q5;have hi39:i+muF (bY es f i)<=39:=by
    rcases pC hm hf h20 i with z | z
    ·exact absurd z hq
    ·exact z
   have stp:bY es f (i+1)=(stF es ((bY es f i).2.getLastD 0)).foldl (inF ((bY es f i).2.getLastD 0)) ((bY es f i).1,(bY es f i).2.dropLast):=by
    show jK es (bY es f i)=_;unfold jK;rw[if_neg hq]
   have hV:=Fz hm hf h20 wi hq;have hV:muF (bY es f (i+1))+1<=muF (bY es f i):=hV;have wj0:=sS wi hq;have pk:=wj0.kp;obtain⟨ml1,ml2⟩:=Qa hq;generalize hp:(bY es f i).2.getLastD 0=p at *
   have ll:0 < ((bY es f i).2.map fun (p:Nat)=>V.int (p:Int)).length:=by rw[length_map];exact length_pos_iff.mpr hq
   refine ifT (by show decide (0 < ((((bY es f i).2.map fun (p:Nat)=>V.int (p:Int)).length:Nat):Int))=true;exact decide_eq_true (by lia)) ?_;refine⟨_,rfl,.inl ⟨rfl,_,SqL.of q5⟩,W,_,_,rfl,rfl,q5,ml1,?_⟩;rw[ml2];have s6:aT H (upd H5 W (.lst ((bY es f i).2.dropLast.map fun (p:Nat)=>V.int (p:Int)))):=s5.change nW;have e6:upd H5 W (.lst ((bY es f i).2.dropLast.map fun (p:Nat)=>V.int (p:Int))) D=some (.dK kvs):=by rw[aW nDW];exact e5
   have q6:upd H5 W (.lst ((bY es f i).2.dropLast.map fun (p:Nat)=>V.int (p:Int))) W=some (.lst ((bY es f i).2.dropLast.map fun (p:Nat)=>V.int (p:Int))):=aD;have w6:=w5.updW (o:=.lst ((bY es f i).2.dropLast.map fun (p:Nat)=>V.int (p:Int))) q5;generalize upd H5 W (.lst ((bY es f i).2.dropLast.map fun (p:Nat)=>V.int (p:Int)))=H6 at s6 e6 q6 w6 ⊢;refine⟨_,rfl,_,rfl,_,rfl,a,b,xs,ds,es,p,rfl,s6.seq hA,Rb.same s6,s6.seq hB,hE,h100,fun l ys H7 s7 nl el S7=>?_⟩;have s07:=s6.trans s7;have nlW:l≠W:=Ne.symm (bC q6 nl);have nlD:l≠D:=Ne.symm (bC e6 nl);have nlH:H l=none:=s6.free nl;have lys:=S7.length;refine⟨l,rfl,⟨_,SqL.of el⟩,?_⟩;refine dS (xs:=ys) (fun j σ H'=>aT H H'/\H' l=some (.lst ys)/\Sds K H' ys (stF es p)/\∃(kvs:List (Key × V)) (z7:Option V),σ=[some (.ref a),some (.ref b),some (.int (f:Int)),some (.int (t:Int)),some (.ref D),some (.ref W),some (.int (p:Int)),z7]/\H' D=some (.dK kvs)/\H' W=some (.lst ((((stF es p).take j).foldl (inF p) ((bY es f i).1,(bY es f i).2.dropLast)).2.map fun (p:Nat)=>V.int (p:Int)))/\Wys K H W H' kvs (((stF es p).take j).foldl (inF p) ((bY es f i).1,(bY es f i).2.dropLast)).1) ⟨s07,el,S7,kvs,z7,rfl,s7 _ _ e6,s7 _ _ q6,w6.same s7⟩ (fun j σ H' _ h=>SqL.of h.2.1) ?_ ?_
   ·rintro j x σ H8 hx ⟨s8,el8,S8,kv8,z7',rfl,e8,q8,w8⟩;obtain⟨tt,u,s,rfl,es',hT,hU⟩:=S8.get hx;have hj:j < (stF es p).length:=(List.getElem?_eq_some_iff.mp es').1;have gs:mH es s.1 p s.2:=jP (mem_of_getElem? es');have wj:=xW ((stF es p).take j) [] wj0 fun z hz=>jP (mem_of_mem_take hz);have fold1:((stF es p).take (j+1)).foldl (inF p) ((bY es f i).1,(bY es f i).2.dropLast)=inF p (((stF es p).take j).foldl (inF p) ((bY es f i).1,(bY es f i).2.dropLast)) s:=by
     rw[take_add_one,es',foldl_append];rfl
    rw[fold1];have wj':=Ft wj gs;have le8:=Pb hm hf wj.nd wj.pt;have lS:=Yi hm hf h20 wj0 (j:=j) (T:=stF es p) (fun z hz=>jP hz);have mb:=Be hq;generalize ((stF es p).take j).foldl (inF p) ((bY es f i).1,(bY es f i).2.dropLast)=S at q8 w8 wj wj' le8 lS ⊢;have lS2:S.2.length<=100:=by lia
    have lk8:=w8.length;obtain⟨⟨sn,sw⟩,sx⟩:=s;have hT:SqT K H8 tt [.ref u,.int (sx:Int)]:=hT;refine⟨_,rfl,tt,_,1,_,rfl,rfl,hT,rfl,_,rfl,D,_,rfl,iO.k (k:=Sum.inl (sx:Int)) e8,_,rfl,?_⟩
    by_cases c:sx∈bX S.1
    ·refine ifF (by rw[w8.isSome,decide_eq_true c];rfl) ⟨s8,el8,S8,kv8,_,rfl,e8,?_,?_⟩
     ·show H8 W=some (.lst ((inF p S ((sn,sw),sx)).2.map fun (p:Nat)=>V.int (p:Int)));unfold inF;rw[if_pos c];exact q8
     ·show Wys K H W H8 kv8 (inF p S ((sn,sw),sx)).1;unfold inF;rw[if_pos c];exact w8
    ·refine ifT (by rw[w8.isSome,decide_eq_false c];rfl) ?_;obtain⟨ap,xp,sp,ev,eg,nap,nwp,hap,fp⟩:=w8.some_ wj.kp;have lsp:=fp.length;have lsp2:sp.length<=20:=by
      obtain⟨pts,pt1,pt2⟩:=wj.pt p sp (gA eg);exact Xa hm hf h20 wj.nd wj.pt pt1 pt2
     refine⟨_,rfl,_,rfl,D,.ref ap,rfl,(by have:=iO.k (k:=Sum.inl (p:Int)) e8;rw[ev] at this;exact this),?_⟩;refine⟨_,rfl,tt,_,0,_,rfl,rfl,hT,rfl,zl9 1,fun L1 hL1=>?_⟩;have s9:=aI hL1 (.lst [.ref u]);have e9:upd H8 L1 (.lst [.ref u]) L1=some (.lst [.ref u]):=aD;generalize upd H8 L1 (.lst [.ref u])=H9 at s9 e9 ⊢;refine⟨ap,L1,_,_,rfl,rfl,s9 _ _ hap,e9,by rw[sizeLine_eq];simp only[length_cons,length_nil];lia,fun C hC=>?_⟩;have nC8:H8 C=none:=s9.free hC;have sA:=aI hC (.lst (xp++[.ref u]));have eA:upd H9 C (.lst (xp++[.ref u])) C=some (.lst (xp++[.ref u])):=aD;generalize upd H9 C (.lst (xp++[.ref u]))=HA at sA eA ⊢;have s8A:=s9.trans sA;have nCW:C≠W:=Ne.symm (bC q8 nC8);have nCD:C≠D:=Ne.symm (bC e8 nC8);have eDA:=s8A _ _ e8;refine⟨_,rfl,_,rfl,tt,_,1,_,rfl,rfl,s8A.seqT hT,rfl,D,_,rfl,Qf.k (k:=Sum.inl (sx:Int)) eDA (by rw[sizeLine_eq];lia),?_⟩;have put:jW kv8 (Sum.inl (sx:Int)) (.ref C)=kv8++[(Sum.inl (sx:Int),.ref C)]:=by unfold jW;rw[if_neg (by rw[(w8.none_ c).2];simp)]
     rw[put];have eB:upd HA D (.dK (kv8++[(Sum.inl (sx:Int),.ref C)])) D=some (.dK (kv8++[(Sum.inl (sx:Int),.ref C)])):=aD;have qB:upd HA D (.dK (kv8++[(Sum.inl (sx:Int),.ref C)])) W=some (.lst (S.2.map fun (p:Nat)=>V.int (p:Int))):=by rw[aW (Ne.symm nDW)];exact s8A _ _ q8
     have sB:aT H (upd HA D (.dK (kv8++[(Sum.inl (sx:Int),.ref C)]))):=(s8.trans s8A).change hD;have wB:Wys K H W (upd HA D (.dK (kv8++[(Sum.inl (sx:Int),.ref C)]))) (kv8++[(Sum.inl (sx:Int),.ref C)]) (S.1++[(sx,sp++[(sn,sw)])]):=
      Wys.snoc (s8.free nC8) nCW (by rw[aW nCD];exact eA) (((fp.same s8A).app (.cons (s8A.seqT hU) .nil)).updD eDA) ((w8.same s8A).updD eDA)
     have elB:upd HA D (.dK (kv8++[(Sum.inl (sx:Int),.ref C)])) l=some (.lst ys):=by rw[aW nlD];exact s8A _ _ el8
     have SB:=(S8.same s8A).updD (o:=.dK (kv8++[(Sum.inl (sx:Int),.ref C)])) eDA;have hTB:=SqT.updD (o:=.dK (kv8++[(Sum.inl (sx:Int),.ref C)])) (s8A.seqT hT) eDA;generalize upd HA D (.dK (kv8++[(Sum.inl (sx:Int),.ref C)]))=HB at eB qB sB wB elB SB hTB ⊢;refine⟨_,rfl,.inl ⟨rfl,_,SqL.of qB⟩,_,rfl,tt,_,1,_,rfl,rfl,hTB,rfl,W,_,_,rfl,rfl,qB,bL (by rw[length_map];lia),?_⟩;have inE:inF p S ((sn,sw),sx)=(S.1++[(sx,sp++[(sn,sw)])],S.2++[sx]):=by
      unfold inF;rw[if_neg c,eg];rfl
     rw[inE];refine⟨sB.change nW,by rw[aW nlW];exact elB,SB.upd qB,_,_,rfl,by rw[aW nDW];exact eB,?_,wB.updW qB⟩;rw[aD,map_append];rfl
   ·rintro σ H8 ⟨s8,el8,S8,kv8,z7',rfl,e8,q8,w8⟩;rw[lys,take_length,<- stp] at q8 w8;have lk8:=w8.length;refine⟨⟨s8,i+1,kv8,_,_,rfl,e8,q8,w8,by lia⟩,?_⟩;rw[mu0,Py e8 q8,length_map,length_map,lk,lk8];unfold muF at hV;lia
 ·rintro σ H Q Q' mono ⟨v,h1,p',ys,h2,h3,i,j,h4,h5,k,h6,h7⟩;exact⟨v,h1,p',ys,h2,h3,i,j,h4,h5,k,h6,mono _ _ h7⟩
theorem Ve {ds:List RD}{i:Nat}{d:RD}(h:ds[i]?=some d):(skl ds)[i]?=some (d.1,d.2.1.toNat,d.2.2.1.toNat):=by unfold skl;rw[getElem?_map,h];rfl
theorem Pa (ds:List RD):(skl ds).length=ds.length:=by unfold skl;rw[length_map]
theorem qb8 {m:Nat}{ds:List RD}(pt:∀d∈ds,cH (m:Int) d.2.1 d.2.2.1):∀d∈skl ds,d.2.1 < m/\d.2.2 < m:=fun d hd=>by
 obtain⟨e,he,rfl⟩:=mem_map.mp hd;obtain⟨i0,i1,j0,j1⟩:=pt e he;exact⟨by show e.2.1.toNat < m;lia,by show e.2.2.1.toNat < m;lia⟩
theorem Ra {W:Kd->Bool}{m n:Nat}{ds:List RD}{s:RS}(pt:∀d∈ds,cH (m:Int) d.2.1 d.2.2.1)(h:RI W (skl ds) m n s):Yg ds s.1:=fun e he=>by
 obtain⟨k,hk⟩:=h.at_ e he;have hl:e.1 < ds.length:=by have:=(List.getElem?_eq_some_iff.mp hk).1;rwa [Pa] at this
 have hd:ds[e.1]?=some ds[e.1]:=getElem?_eq_getElem hl;rw[Ve hd] at hk;obtain⟨i0,i1,j0,j1⟩:=pt _ (mem_of_getElem? hd);refine⟨_,hd,?_,?_⟩
 ·have:ds[e.1].2.1.toNat=e.2.1:=by injection hk with z;injection z with _ z;injection z
  lia
 ·have:ds[e.1].2.2.1.toNat=e.2.2:=by injection hk with z;injection z with _ z;injection z
  lia
theorem Kn {W:Kd->Bool}{sk:List Sk}:∀n,(eQ W sk n).1.length<=n
 |0=>Nat.le_refl _
 |n+1=>by
  have ih:=Kn (W:=W) (sk:=sk) n
  cases h:sk[n]? with
  |none=>show (match sk[n]? with | none=>eQ W sk n | some d=>iD W (eQ W sk n) n d).1.length<=n+1;rw[h];show (eQ W sk n).1.length<=n+1;lia
  |some d=>
   rw[iC h];generalize eQ W sk n=s at ih;unfold iD;split
   ·split
    ·show (s.1++[(n,d.2.1,d.2.2)]).length<=n+1;rw[List.length_append];simp only[length_cons,length_nil];lia
    ·show s.1.length<=n+1;lia
   ·lia
def WdA (K:Frag)(H:Hp)(v:V)(W:Kd->Bool):Prop:=∃(p:Addr) (ws:List V),v=.ref p/\(SqL K H p ws\/SqT K H p ws)/\ws.all lH=true/\∀k:Kd,inV (.str k.wd) ws=W k
theorem WdA.same {K:Frag}{H H':Hp}{v:V}{W:Kd->Bool}(e:aT H H')(h:WdA K H v W):WdA K H' v W:=by
 obtain⟨p,ws,h1,h2,h3⟩:=h;refine⟨p,ws,h1,?_,h3⟩;rcases h2 with z | z
 ·exact .inl (e.seq z)
 ·exact .inr (e.seqT z)
theorem Zw (k:Kd):inV (.str k.wd) [.str "piece",.str "hold"]=decide (k≠.pu):=by cases k<;>decide
abbrev gK:Stmt:=top 30
theorem iI:aQ ["net","words","wanted","rows","branches","found","number","row","back"] ["net","words"] (aH gK):=sK9 rfl rfl rfl rfl (by decide +kernel)
theorem Nj {dV:Value}(F:aU K "rings" "rings" gK dV f fd){CN aJ:Addr}(NTx:NT K mg CN)(T:RT K mg CR CK)(men:mg "enumerate"=none)(fJ:∀H,SqT K H aJ [.str "piece",.str "hold"])(mJO:mI9 mg "JOINING_WORDS" aJ)(GW:∀k,aM P w K mg base CX0 1 (fW k) (fdW k) ["self"] (jC k))(bW:∀k,aL K (fdW k) ["self"] [])(mW:∀k,fR K (CK k) "word" (fW k)){gRo:Addr}{gdRo:FuncData}(GRo:aM P w K mg base CX0 4 gRo gdRo ["self"] (lZ CN K CK))(bRo:aL K gdRo ["self"] [])(mRo:fR K CN "rows" gRo)(G1:aM P w K mg base CX0 2 g1 gd1 ["rows","numbers","begin","end"] (Vg K CK))(b1:aL K gd1 ["rows","numbers","begin","end"] [])(k1:kI9 K g1)(m1:mI9 mg "way_along" g1) :
  aM P w K mg base CX 5 f fd ["net","words"] (Fj CN K):=by
 refine F.ok iI (fun vs H Q E h=>?_) fun cdv A outer s H vs Q E hr h=>?_
 ·obtain⟨_,_,_,_,_,_,rfl,_⟩:=h;rfl
 obtain⟨n,l,v,m,ds,W,rfl,nt,pt,h20,h40,hW,q⟩:=h;have r1:=hr.mono (show 1<=4 by lia);have r2:=hr.mono (show 2<=4 by lia);refine⟨_,(aB (aR (i:=2) iI.nd rfl (Or.inl rfl) (rC (zF (Dr (pv 1))) (cW (v:=.ref aJ) rfl mJO rfl) (pv 1)))
  (aB (aR (i:=3) iI.nd rfl (Or.inl rfl) (dH (pv 0) NTx.cl mRo GRo hr bRo .nil aK))
  (aB (aR (i:=4) iI.nd rfl (Or.inl rfl) (cT aC))
  (aB (aR (i:=5) iI.nd rfl (Or.inl rfl) (cT aC))
  (aB (dB PassesOwn.never rfl (mU rfl men rfl (aA (pv 3) aC)) (iY rfl (cK (aZ (i:=6) iI.nd rfl (Or.inl rfl)) (cK (aZ (i:=7) iI.nd rfl (Or.inl rfl)) gR)))
   (aF (cC (bF wQ (fF (pv 7) T.cl mW GW r1 bW .nil aK) (pv 2) rfl) (aB (aR (i:=8) iI.nd rfl (Or.inl rfl) (aG G1 r2 rfl m1 k1 b1 .nil aK (aA (pv 3) (aA (pv 4) (aA (cI (pv 7) rfl) (aA (cI (pv 7) rfl) aC))))))
  (aF (cC (zF (Dr (pv 8))) (aF (bN (pT PySem.F.plainAttrs_list PySem.F.slot_list_append PySem.F.type_list_append fK (pv 4) (aA (pv 6) aC)))) (aF (bN (pT PySem.F.plainAttrs_list PySem.F.slot_list_append PySem.F.type_list_append fK (pv 5) (aA (aY tG (cT (aA (eY (aA (pv 6) (aA aE aC))) aC)) (pv 8)) aC))))))) bK)))
  (aF (aV (pv 5)))))))),?_⟩
 refine iG (fun σ' H'=>H'=H/\∃wv,σ'=[some (.ref n),some v,some wv,none,none,none,none,none,none]/\WdA K H wv W) (fun X hX=>?_) ?_
 ·cases hW with
  |non=>exact⟨_,rfl,_,rfl,ifT rfl (hX _ _ ⟨rfl,_,rfl,aJ,_,rfl,.inr (fJ H),rfl,Zw⟩)⟩
  | @seq a ws h f=>exact⟨_,rfl,_,rfl,ifF rfl ⟨_,rfl,hX _ _ ⟨rfl,_,rfl,a,_,rfl,.inl h,f,fun _=>rfl⟩⟩⟩
 rintro σ' H' ⟨hH',wv,rfl,hw⟩;subst hH';obtain⟨dx,hn⟩:=nt.ob;refine⟨_,rfl,n,dx,_,rfl,hn,dA _ _ (by decide +kernel) (by decide +kernel),n,l,_,ds,rfl,nt,by lia,fun a xs H1 s1 na ea Rb=>?_⟩;have lxs:=Rb.length;refine⟨zl9 0,fun B hB=>?_⟩;have nB:H' B=none:=s1.free hB;have sB:=aI hB (.lst []);have eB:upd H1 B (.lst []) B=some (.lst []):=aD;generalize upd H1 B (.lst [])=H2 at sB eB ⊢;refine⟨zl9 0,fun F hF=>?_⟩;have nF:H' F=none:=(s1.trans sB).free hF;have nBF:B≠F:=bC eB hF;have sF:=aI hF (.lst []);have eF:upd H2 F (.lst []) F=some (.lst []):=aD;generalize upd H2 F (.lst [])=H3 at sF eF ⊢;have s3:=s1.trans (sB.trans sF);have ea3:=(sB.trans sF) _ _ ea;have naB:a≠B:=bC ea hB;have naF:a≠F:=bC (sB _ _ ea) hF;have sk:=Pa ds;have slt:=qb8 pt;have s13:=sB.trans sF;refine⟨_,rfl,a,rfl,⟨_,SqL.of ea3⟩,?_⟩;have nB1:H1 B=none:=hB;have nF1:H1 F=none:=sB.free hF;refine Bn (xs:=xs) (fun i σ HH=>aT H1 HH/\∃(us:List V) (z6 z7 z8:Option V),σ=[some (.ref n),some v,some wv,some (.ref a),some (.ref B),some (.ref F),z6,z7,z8]/\HH B=some (.lst ((eQ W (skl ds) i).1.map fun (e:Br)=>V.int ((e.1:Nat):Int)))/\HH F=some (.lst us)/\Rgs K H' HH us ((eQ W (skl ds) i).2.map (·.2))/\∀x∈us,x≠.ref F/\x≠.ref B) ⟨s13,[],none,none,none,rfl,sF _ _ eB,eF,.nil,fun x hx=>(by cases hx)⟩ (fun i σ HH _ h=>h.1.seq (SqL.of ea)) ?_ ?_
 ·rintro i x σ H4 T2 hx ⟨s4,us,z6,z7,z8,rfl,eB4,eF4,G4,nx4⟩ hT;have hi:i < ds.length:=by
   have:=(List.getElem?_eq_some_iff.mp hx).1;lia
  obtain⟨⟨k0,u,v0,p0⟩,hd⟩:∃d,ds[i]?=some d:=⟨_,getElem?_eq_getElem hi⟩
  obtain⟨y,z,ey,rw0,fz0⟩:=Rb.at hd;have ex:x=.ref y:=by rw[ey] at hx;exact(Option.some.inj hx).symm
  subst ex;obtain⟨u0,u1,v1,v2⟩:cH (m:Int) u v0:=pt _ (mem_of_getElem? hd);obtain⟨uN,rfl⟩:∃n:Nat,u=(n:Int):=⟨u.toNat,by lia⟩
  obtain⟨vN,rfl⟩:∃n:Nat,v0=(n:Int):=⟨v0.toNat,by lia⟩
  have skd:(skl ds)[i]?=some (k0,uN,vN):=by
   have:=Ve hd
   rwa [show ((k0,(uN:Int),(vN:Int),p0):RD).2.1.toNat=uN from Int.toNat_natCast uN,show ((k0,(uN:Int),(vN:Int),p0):RD).2.2.1.toNat=vN from Int.toNat_natCast vN] at this
  have ri:=rK (W:=W) slt i (by lia);have bo:=Ra pt ri;have bl':=Kn (W:=W) (sk:=skl ds) i;have gl:=G4.l;rw[length_map] at gl;have rl:=ri.rl;have succ:=iC (W:=W) skd;generalize eQ W (skl ds) i=S at eB4 G4 ri bo bl' gl rl succ;have sT:=aI hT (.tup [.int (i:Int),.ref y]);refine⟨T2,_,rfl,SqT.of aD,rfl,_,_,rfl,_,_,rfl,rfl,?_⟩;have nT1:H1 T2=none:=s4.free hT;generalize upd H4 T2 (.tup [.int (i:Int),.ref y])=H5 at sT ⊢;have s5:=s4.trans sT;have eB5:=sT _ _ eB4;have eF5:=sT _ _ eF4;have G5:=G4.same sT;obtain⟨dr,hy⟩:=id (rw0.same s5);obtain⟨pw,ws,ew,hws,fl,hinv⟩:=hw.same (s1.trans s5);refine⟨_,rfl,k0,y,dr,_,rfl,hy,(eU _ _ _ (by decide +kernel) (by decide +kernel) (by decide +kernel)),_,rfl,_,rfl,pw,ws,ew,hws,rfl,fl,_,rfl,?_⟩;have hin:inV (.str k0.wd) ws=W k0:=hinv k0
  by_cases hk:W k0=true
  ·refine ifT (by show (if false=true then _ else inV (V.str k0.wd) ws)=true;rw[if_neg (by decide),hin];exact hk) ?_;refine⟨_,rfl,_,rfl,_,rfl,y,CK _,_,_,_,rfl,hy,T.cl _,T.nG _,dP _ _ _,_,rfl,y,CK _,_,_,_,rfl,hy,T.cl _,T.nS _,cY _ _ _,a,B,xs,ds,S.1,m,vN,uN,rfl,s5.seq (SqL.of ea),Rb.same s5,SqL.of eB5,bo,by lia,ri.pt,h20,by lia,fun hnone H6 s6=>?_,fun st hst l' ys H6 s6 nl el S6=>?_⟩
   ·refine⟨_,rfl,_,rfl,ifT rfl ?_⟩;have eB6:=s6 _ _ eB5;have s06:=s5.trans s6;refine⟨_,rfl,.inl ⟨rfl,_,SqL.of eB6⟩,_,rfl,B,_,_,rfl,rfl,eB6,bL (by rw[length_map];lia),?_⟩;have eS:iD W S i (k0,uN,vN)=(S.1++[(i,uN,vN)],S.2):=by
     unfold iD;rw[if_pos hk,hnone]
    rw[succ,eS];refine⟨s06.change nB1,us,_,_,_,rfl,?_,by rw[aW (Ne.symm nBF)];exact s6 _ _ eF5,(G5.same s6).updO eB6 (fun x hx=>(nx4 x hx).2),nx4⟩;rw[aD,map_append];rfl
   ·refine⟨_,rfl,_,rfl,ifF rfl ?_⟩;have eF6:=s6 _ _ eF5;have s06:=s5.trans s6;refine⟨_,rfl,.inl ⟨rfl,_,SqL.of eF6⟩,_,rfl,zl9 2,fun t ht=>?_⟩;have st7:=aI ht (.tup [.int (i:Int),.int 1]);have et:SqT K (upd H6 t (.tup [.int (i:Int),.int 1])) t [.int (i:Int),.int 1]:=SqT.of aD;generalize upd H6 t (.tup [.int (i:Int),.int 1])=H7 at st7 et ⊢;refine⟨zl9 1,fun L1 hL1=>?_⟩;have s8:=aI hL1 (.lst [.ref t]);have e8:upd H7 L1 (.lst [.ref t]) L1=some (.lst [.ref t]):=aD;generalize upd H7 L1 (.lst [.ref t])=H8 at s8 e8 ⊢;have lst':=wF ri.pt (show vN < m by lia) hst;have lys:=S6.length;refine⟨_,rfl,L1,l',_,_,rfl,rfl,e8,(st7.trans s8) _ _ el,by rw[sizeLine_eq];simp only[length_cons,length_nil];lia,fun C hC=>?_⟩;have nC8:H8 C=none:=hC;have s9:=aI hC (.lst ([.ref t]++ys));have e9:upd H8 C (.lst ([.ref t]++ys)) C=some (.lst ([.ref t]++ys)):=aD;generalize upd H8 C (.lst ([.ref t]++ys))=H9 at s9 e9 ⊢;have s69:=st7.trans (s8.trans s9);have eF9:=s69 _ _ eF6;have s09:=s06.trans s69;have nCF:C≠F:=Ne.symm (bC ((st7.trans s8) _ _ eF6) nC8);have nCB:C≠B:=Ne.symm (bC ((st7.trans s8) _ _ (s6 _ _ eB5)) nC8);refine⟨F,_,_,rfl,rfl,eF9,bL (by lia),?_⟩;have eS:iD W S i (k0,uN,vN)=(S.1,S.2++[(i,(i,1) :: st)]):=by
     unfold iD;rw[if_pos hk,hst]
    rw[succ,eS];have SC:Sts K H9 ([.ref t]++ys) ((i,1) :: st):=.cons ((s8.trans s9).seqT et) (S6.same s69);refine⟨s09.change nF1,us++[.ref C],_,_,_,rfl,by rw[aW nBF];exact s69 _ _ (s6 _ _ eB5),aD,?_,fun x hx=>?_⟩
    ·rw[map_append];have G9:=((G5.same s6).same s69).snoc (((s1.trans s06).trans (st7.trans s8)).free nC8) e9 SC;refine G9.updO eF9 fun x hx=>?_;rcases mem_append.mp hx with z | z
     ·exact(nx4 x z).1
     ·have:x=.ref C:=by simpa using z
      rw[this];exact fun z=>nCF (by injection z)
    ·rcases mem_append.mp hx with z | z
     ·exact nx4 x z
     ·have:x=.ref C:=by simpa using z
      rw[this];exact⟨fun z=>nCF (by injection z),fun z=>nCB (by injection z)⟩
  ·refine ifF (by show (if false=true then _ else inV (V.str k0.wd) ws)=false;rw[if_neg (by decide),hin];simpa using hk) ?_;have eS:iD W S i (k0,uN,vN)=S:=by
    unfold iD;rw[if_neg hk]
   rw[succ,eS];exact⟨s5,us,_,_,_,rfl,eB5,eF5,G5,nx4⟩
 rintro σ H4 ⟨s4,us,z6,z7,z8,rfl,eB4,eF4,G4,nx4⟩;rw[lxs] at G4;exact⟨_,rfl,q F us H4 (s1.trans s4) nF eF4 G4 fun x hx=>(nx4 x hx).1⟩
abbrev oY:Stmt:=fH (top 36) 1
theorem Dm:aQ ["self"] ["self"] (aH oY):=sK9 rfl rfl rfl rfl (by decide +kernel)
theorem Bg {dV:Value}(F:aU K "joins" "Piece.joins" oY dV f fd):aM P w K mg base CX 1 f fd ["self"] (mV .pc):=by
 refine F.ok Dm (fun vs H Q E h=>?_) fun cdv A outer s H vs Q E hr h=>?_
 ·obtain⟨_,rfl,_⟩:=h;rfl
 obtain⟨x,rfl,q⟩:=h;exact⟨_,(aF (aV iH)),q⟩
abbrev oX:Stmt:=fH (top 37) 1
theorem Dk:aQ ["self"] ["self"] (aH oX):=sK9 rfl rfl rfl rfl (by decide +kernel)
theorem Ab {dV:Value}(F:aU K "joins" "Push.joins" oX dV f fd):aM P w K mg base CX 1 f fd ["self"] (mV .pu):=by
 refine F.ok Dk (fun vs H Q E h=>?_) fun cdv A outer s H vs Q E hr h=>?_
 ·obtain⟨_,rfl,_⟩:=h;rfl
 obtain⟨x,rfl,q⟩:=h;exact⟨_,(aF (aV iH)),q⟩
abbrev pK:Stmt:=fH (top 38) 1
theorem By:aQ ["self"] ["self"] (aH pK):=sK9 rfl rfl rfl rfl (by decide +kernel)
theorem Ac {dV:Value}(F:aU K "joins" "Hold.joins" pK dV f fd):aM P w K mg base CX 1 f fd ["self"] (mV .ho):=by
 refine F.ok By (fun vs H Q E h=>?_) fun cdv A outer s H vs Q E hr h=>?_
 ·obtain⟨_,rfl,_⟩:=h;rfl
 obtain⟨x,rfl,q⟩:=h;exact⟨_,(aF (aV iH)),q⟩
def rS (K:Frag)(CK:Kd->Addr):Sp:=fun vs H Q _=>∃(a x:Addr) (ms:List Int) (k:Kd) (s g:Nat) (z:V),vs=[.ref a,.ref x]/\SqL K H a (ms.map V.int)/\Rw CK H x k (.int (s:Int)) (.int (g:Int)) z/\s < ms.length/\g < ms.length/\ms.length<=100/\∀l H',aT H H'->H l=none->H' l=some (.lst ((jn ms s g).map V.int))->Q (.ref l) H'
def Eu (CN:Addr)(K:Frag):Sp:=fun vs H Q _=>∃(n l:Addr) (m:Nat) (ds:List RD),vs=[.ref n]/\eO CN K H n l (m:Int) ds/\(∀d∈ds,cH (m:Int) d.2.1 d.2.2.1)/\m<=20/\ds.length<=100/\∀l' H',aT H H'->H l'=none->H' l'=some (.lst ((mks m ds).map V.int))->Q (.ref l') H'
def Pj (m:Nat)(ds:List RD):List Int:=((List.range m).filter fun p=>decide (mk m ds p≠mk m ds 0)).map fun (p:Nat)=>(p:Int)
def Fp (CN:Addr)(K:Frag):Sp:=fun vs H Q _=>∃(n l:Addr) (m:Nat) (ds:List RD),vs=[.ref n]/\eO CN K H n l (m:Int) ds/\(∀d∈ds,cH (m:Int) d.2.1 d.2.2.1)/\1<=m/\m<=20/\ds.length<=100/\∀l' H',aT H H'->H l'=none->H' l'=some (.lst ((Pj m ds).map V.int))->Q (.ref l') H'
theorem mI:(["mark","lost","kept"]:List Str).Nodup:=by decide +kernel
abbrev xZ:Stmt:=top 29
theorem rO:aQ ["marks","row","kept","lost"] ["marks","row"] (aH xZ):=sK9 rfl rfl rfl rfl (by decide +kernel)
theorem Jb {dV:Value}(F:aU K "joined" "joined" xZ dV f fd)(T:RT K mg CR CK) :
  aM P w K mg base CX 1 f fd ["marks","row"] (rS K CK):=by
 refine F.ok rO (fun vs H Q E h=>?_) fun cdv A outer s H vs Q E hr h=>?_
 ·obtain⟨_,_,_,_,_,_,_,rfl,_⟩:=h;rfl
 obtain⟨a,x,ms,k,s0,g0,z,rfl,hS,rw,hs,hg,h100,q⟩:=h;refine⟨_,(aB (aR (i:=2) rO.nd rfl (Or.inr rfl) (aS bM (pv 0) (cI (pv 1) rfl) (fun _ _=>rfl)))
  (aB (aR (i:=3) rO.nd rfl (Or.inr rfl) (aS bM (pv 0) (cI (pv 1) rfl) (fun _ _=>rfl)))
  (aF (aV (eI (nl:=1) (fr:=[3,2]) (Nc:=["mark","lost","kept"]) (cl:=[("lost",s.heap.objs.size+2),("kept",s.heap.objs.size+1)]) rfl ⟨rfl,rfl,by decide +kernel,by decide +kernel,(dR rfl (dR rfl (oM))),dU rfl,rfl,fun i n h=>match i,h with | 0,h=>by cases h;exact⟨3,rfl,rfl,rfl,rfl,.inl rfl⟩ | 1,h=>by cases h;exact⟨2,rfl,rfl,rfl,rfl,.inl rfl⟩ | k+2,h=>by rw[show 1+(k+2)=k+3 by lia] at h;cases h⟩
    (cE (pv 0)) (fun C s3 H3 fp pins=>(aZ (i:=0) mI rfl (Or.inl rfl))) (fun C s3 H3 fp pins=>fE)
    (fun C s3 H3 fp pins=>(rC (bF fG (pv 0) (pv 1) (bH _)) (pv 2) (pv 0)))))))),?_⟩
 obtain⟨dx,hx⟩:=id rw;have gi:∀{j:Nat},j < ms.length->atI (ms.map V.int) (j:Int)=some (.int (ms.getD j 0)):=fun h=>bS (by rw[getElem?_map,getElem?_eq_getElem h,getD_eq_getElem?_getD,getElem?_eq_getElem h];rfl);refine⟨_,rfl,_,rfl,x,CK _,_,_,_,rfl,hx,T.cl _,T.nS _,cY _ _ _,a,_,_,_,rfl,rfl,hS,gi hs,?_⟩;refine⟨_,rfl,_,rfl,x,CK _,_,_,_,rfl,hx,T.cl _,T.nG _,dP _ _ _,a,_,_,_,rfl,rfl,hS,gi hg,?_⟩;refine⟨_,rfl,a,rfl,⟨_,hS⟩,fun D hD=>?_⟩;have sD:=aI hD (.lst []);refine cZ (xs:=ms.map V.int) (fun i zs H'=>aT H H'/\H' D=some (.lst zs)/\zs=((jn ms s0 g0).take i).map V.int) ⟨sD,aD,rfl⟩ (fun i zs H' h=>h.2.1) (fun i zs H' _ h=>h.1.seq hS) ?_ ?_
 ·rintro i zs x H1 hx' ⟨s1,e1,rfl⟩ C hC;rw[getElem?_map] at hx';obtain⟨c,hc,rfl⟩:=Option.map_eq_some_iff.mp hx';have hi:i < ms.length:=(List.getElem?_eq_some_iff.mp hc).1;have ej:(jn ms s0 g0)[i]?=some (if c=ms.getD g0 0 then ms.getD s0 0 else c):=by unfold jn;rw[getElem?_map,hc];rfl
  have lj:(jn ms s0 g0).length=ms.length:=by unfold jn;rw[length_map]
  refine⟨dC.1,dC.2,fL ?_⟩;refine⟨_,rfl,_,rfl,rfl,_,rfl,?_⟩
  by_cases h:c=ms.getD g0 0
  ·rw[if_pos h] at ej;refine ifT (decide_eq_true (by rw[h])) ⟨_,rfl,e1,bL (by rw[length_map,length_take];lia),hC _ _ ⟨s1.change hD,aD,?_⟩⟩;rw[take_add_one,ej,map_append];rfl
  ·rw[if_neg h] at ej;refine ifF (decide_eq_false (fun z=>h (by injection z))) ⟨_,rfl,e1,bL (by rw[length_map,length_take];lia),hC _ _ ⟨s1.change hD,aD,?_⟩⟩;rw[take_add_one,ej,map_append];rfl
 ·rintro zs H1 ⟨s1,e1,rfl⟩;have lj:(jn ms s0 g0).length=ms.length:=by unfold jn;rw[length_map]
  rw[length_map,<- lj,take_length] at e1;exact q D H1 s1 hD e1
abbrev Cd:Stmt:=top 28
theorem qH:aQ ["net","marks","row"] ["net"] (aH Cd):=sK9 rfl rfl rfl rfl (by decide +kernel)
theorem Nw {dV:Value}(F:aU K "marks_of" "marks_of" Cd dV f fd){CN:Addr}(mli:mg "list"=none)(mra:mg "range"=none)(NTx:NT K mg CN)(T:RT K mg CR CK){fJ:Kd->Addr}{fdJ:Kd->FuncData}(GJ:∀k,aM P w K mg base CX0 1 (fJ k) (fdJ k) ["self"] (mV k))(bJ:∀k,aL K (fdJ k) ["self"] [])(mJ:∀k,fR K (CK k) "joins" (fJ k)){gMa:Addr}{gdMa:FuncData}(GMa:aM P w K mg base CX0 1 gMa gdMa ["self"] (kL CN K))(bMa:aL K gdMa ["self"] [])(mMa:fR K CN "many" gMa){gRo:Addr}{gdRo:FuncData}(GRo:aM P w K mg base CX0 4 gRo gdRo ["self"] (lZ CN K CK))(bRo:aL K gdRo ["self"] [])(mRo:fR K CN "rows" gRo)(G1:aM P w K mg base CX0 1 g1 gd1 ["marks","row"] (rS K CK))(b1:aL K gd1 ["marks","row"] [])(k1:kI9 K g1)(m1:mI9 mg "joined" g1) :
  aM P w K mg base CX 5 f fd ["net"] (Eu CN K):=by
 refine F.ok qH (fun vs H Q E h=>?_) fun cdv A outer s H vs Q E hr h=>?_
 ·obtain⟨_,_,_,_,rfl,_⟩:=h;rfl
 obtain⟨n,l,m,ds,rfl,nt,pt,hm,h100,q⟩:=h;have r1:=hr.mono (show 1<=4 by lia);refine⟨_,(aB (aR (i:=1) qH.nd rfl (Or.inl rfl) (oN rfl rfl mli rfl mra (aA (dH (pv 0) NTx.cl mMa GMa r1 bMa .nil aK) aC)))
  (aB (dB PassesOwn.never rfl (cE (dH (pv 0) NTx.cl mRo GRo hr bRo .nil aK)) (aZ (i:=2) qH.nd rfl (Or.inl rfl))
   (aF (cC (eG (fF (pv 2) T.cl mJ GJ r1 bJ .nil aK)) (aF (aR (i:=1) qH.nd rfl (Or.inl rfl) (aG G1 r1 rfl m1 k1 b1 .nil aK (aA (pv 1) (aA (pv 2) aC))))) bK)))
  (aF (aV (pv 1))))),?_⟩
 obtain⟨dx,hn⟩:=nt.ob;refine⟨_,rfl,n,dx,_,rfl,hn,dA _ _ (by decide +kernel) (by decide +kernel),n,l,_,ds,rfl,nt,m,rfl,by lia,fun D hD=>?_⟩;have sD:=aI hD (.lst ((List.range m).map fun (i:Nat)=>V.int (i:Int)));have eD:upd H D (.lst ((List.range m).map fun (i:Nat)=>V.int (i:Int))) D=some (.lst ((mks m (ds.take 0)).map V.int)):=by
  rw[aD];show some (HO.lst _)=some (HO.lst ((eJ m).map V.int));unfold eJ;rw[map_map];rfl
 generalize upd H D (.lst ((List.range m).map fun (i:Nat)=>V.int (i:Int)))=H1 at sD eD ⊢;refine⟨_,rfl,n,dx,_,rfl,sD _ _ hn,dA _ _ (by decide +kernel) (by decide +kernel),n,l,_,ds,rfl,nt.same sD,h100,fun a xs H2 s2 na ea Rb=>?_⟩;have lxs:=Rb.length;refine⟨a,rfl,⟨_,SqL.of ea⟩,?_⟩;refine dS (xs:=xs) (fun i σ H'=>aT H2 H'/\∃(c:Addr) (z:Option V),σ=[some (.ref n),some (.ref c),z]/\H c=none/\H' c=some (.lst ((mks m (ds.take i)).map V.int))) ⟨aT.refl _,D,none,rfl,hD,s2 _ _ eD⟩ (fun i σ H' _ h=>h.1.seq (SqL.of ea)) ?_ ?_
 ·rintro i x σ H3 hx ⟨s3,c,z,rfl,nc,ec⟩;have hi:i < ds.length:=by
   have:=(List.getElem?_eq_some_iff.mp hx).1;lia
  obtain⟨⟨k,u,v,p⟩,hd⟩:∃d,ds[i]?=some d:=⟨_,getElem?_eq_getElem hi⟩
  obtain⟨y,z',ey,rw,fz⟩:=Rb.at hd;have ex:x=.ref y:=by rw[ey] at hx;exact(Option.some.inj hx).symm
  subst ex;have rw3:=rw.same s3;obtain⟨dr,hy⟩:=id rw3;have et:ds.take (i+1)=ds.take i++[(k,u,v,p)]:=by rw[take_add_one,hd];rfl
  obtain⟨u0,u1,v0,v1⟩:cH (m:Int) u v:=pt _ (mem_of_getElem? hd);refine⟨_,rfl,k,y,dr,_,rfl,hy,(eU _ _ _ (by decide +kernel) (by decide +kernel) (by decide +kernel)),_,rfl,_,rfl,?_⟩
  by_cases hk:k=.pu
  ·refine ifF (decide_eq_false (fun z=>z hk)) ⟨s3,c,_,rfl,nc,?_⟩;rw[et,nY];unfold hV;rw[if_pos hk];exact ec
  ·refine ifT (decide_eq_true hk) ⟨_,rfl,_,rfl,c,y,mks m (ds.take i),k,u.toNat,v.toNat,.ref z',rfl,SqL.of ec,?_,by rw[mM];lia,by rw[mM];lia,by rw[mM];lia,fun c' H4 s4 nc' ec'=>⟨s3.trans s4,c',_,rfl,?_,?_⟩⟩
   ·rw[show ((u.toNat:Nat):Int)=u by lia,show ((v.toNat:Nat):Int)=v by lia];exact rw3
   ·exact((sD.trans s2).trans s3).free nc'
   ·rw[et,nY];unfold hV;rw[if_neg hk];exact ec'
 ·rintro σ H3 ⟨s3,c,z,rfl,nc,ec⟩;rw[show ds.take xs.length=ds by rw[lxs,take_length]] at ec;exact⟨_,rfl,q c H3 ((sD.trans s2).trans s3) nc ec⟩
theorem gO:(["point","mark","marks"]:List Str).Nodup:=by decide +kernel
abbrev Bx:Stmt:=top 27
theorem Es:aQ ["net","marks"] ["net"] (aH Bx):=sK9 rfl rfl rfl rfl (by decide +kernel)
theorem Ma {dV:Value}(F:aU K "floating" "floating" Bx dV f fd){CN:Addr}(men:mg "enumerate"=none)(G1:aM P w K mg base CX0 5 g1 gd1 ["net"] (Eu CN K))(b1:aL K gd1 ["net"] [])(k1:kI9 K g1)(m1:mI9 mg "marks_of" g1) :
  aM P w K mg base CX 6 f fd ["net"] (Fp CN K):=by
 refine F.ok Es (fun vs H Q E h=>?_) fun cdv A outer s H vs Q E hr h=>?_
 ·obtain⟨_,_,_,_,rfl,_⟩:=h;rfl
 obtain⟨n,l,m,ds,rfl,nt,pt,h1,hm,h100,q⟩:=h;refine⟨_,(aB (aR (i:=1) Es.nd rfl (Or.inr rfl) (aG G1 hr rfl m1 k1 b1 .nil aK (aA (pv 0) aC)))
  (aF (aV (eI (nl:=2) (fr:=[1]) (Nc:=["point","mark","marks"]) (cl:=[("marks",s.heap.objs.size+1)]) (g:=(Jr K 2 (jQ (iS 0) (jQ (iS 1) Jx)))) rfl ⟨rfl,rfl,by decide +kernel,by decide +kernel,fun x c h=>h,dU rfl,rfl,fun i n h=>match i,h with | 0,h=>by cases h;exact⟨1,rfl,rfl,rfl,rfl,.inl rfl⟩ | k+1,h=>by rw[show 2+(k+1)=k+3 by lia] at h;cases h⟩
    (mU rfl men rfl (aA (pv 1) aC)) (fun C s3 H3 fp pins=>(iY rfl (cK (aZ (i:=0) gO rfl (Or.inl rfl)) (cK (aZ (i:=1) gO rfl (Or.inl rfl)) gR)))) (fun C s3 H3 fp pins=>(iW (bF jX (pv 1) (aS (jV (K:=K) rfl) (pv 2) aE (fun _ _=>rfl)) (bH _))))
    (fun C s3 H3 fp pins=>(pv 0)))))),?_⟩
 refine⟨_,rfl,n,l,m,ds,rfl,nt,pt,hm,h100,fun M H1 s1 nM eM=>?_⟩;have mlen:=mM m ds;have hS:SqL K H1 M ((mks m ds).map V.int):=SqL.of eM;refine⟨_,rfl,M,rfl,⟨_,hS⟩,fun D hD=>?_⟩;have sD:=aI hD (.lst []);refine pG (xs:=(mks m ds).map V.int) (fun i zs H'=>aT H1 H'/\H' D=some (.lst zs)/\zs=(((List.range i).filter fun p=>decide (mk m ds p≠mk m ds 0)).map fun (p:Nat)=>V.int (p:Int))) ⟨sD,aD,rfl⟩ (fun i zs H' h=>h.2.1) (fun i zs H' _ h=>h.1.seq hS) ?_ ?_
 ·rintro i zs x H2 T2 hx ⟨s2,e2,rfl⟩ hT C hC;rw[getElem?_map] at hx;obtain⟨c,hc,rfl⟩:=Option.map_eq_some_iff.mp hx;have hi:i < m:=by have:=(List.getElem?_eq_some_iff.mp hc).1;lia
  have ec:c=mk m ds i:=by unfold mk;rw[getD_eq_getElem?_getD,hc];rfl
  have g0:atI ((mks m ds).map V.int) 0=some (.int (mk m ds 0)):=bS (j:=0) (by unfold mk;rw[getElem?_map,getElem?_eq_getElem (by lia),getD_eq_getElem?_getD,getElem?_eq_getElem (by lia)];rfl);have ll:(((List.range i).filter fun p=>decide (mk m ds p≠mk m ds 0)).map fun (p:Nat)=>V.int (p:Int)).length<=20:=by
   rw[length_map];have:=length_filter_le (fun p=>decide (mk m ds p≠mk m ds 0)) (List.range i);rw[length_range] at this;lia
  have sT:=aI hT (.tup [.int (i:Int),.int c]);refine⟨T2,_,rfl,SqT.of aD,rfl,_,_,rfl,_,_,rfl,rfl,lG.1,lG.2,?_⟩;generalize upd H2 T2 (.tup [.int (i:Int),.int c])=H3 at sT ⊢;have s3:=s2.trans sT;have e3:=sT _ _ e2;refine⟨_,rfl,_,rfl,M,_,_,_,rfl,rfl,s3.seq hS,g0,rfl,_,rfl,?_⟩;subst ec
  by_cases h:mk m ds i=mk m ds 0
  ·refine ifF (by rw[h];simp) (hC _ _ ⟨s3,e3,?_⟩);rw[range_succ,filter_append,filter_cons_of_neg (by simp[h])];simp
  ·refine ifT (by simp[h]) ⟨_,rfl,e3,bL (by lia),hC _ _ ⟨s3.change hD,aD,?_⟩⟩;rw[range_succ,filter_append,filter_cons_of_pos (by simp[h]),map_append];rfl
 ·rintro zs H2 ⟨s2,e2,rfl⟩;refine q D H2 (s1.trans s2) (s1.free hD) ?_;rw[length_map,mlen] at e2;rw[e2];unfold Pj;rw[map_map];rfl
open Shp
theorem uT:(["one","bottom"]:List Str).Nodup:=by decide +kernel
abbrev sIW:Stmt:=top 52
theorem Ug:aQ ["some","bottom","one"] ["some"] (aH sIW):=sK9 rfl rfl rfl rfl (by decide +kernel)
theorem Zs {dV:Value}(F:aU K "in_wholes" "in_wholes" sIW dV f fd)(G1:aM P w K mg base CX0 1 g1 gd1 ["one","other"] Qq)(b1:aL K gd1 ["one","other"] [])(k1:kI9 K g1)(m1:mI9 mg "greatest_common" g1) :
  aM P w K mg base CX 2 f fd ["some"] (Ox K):=by
 refine F.ok Ug (fun vs H Q E h=>?_) fun cdv A outer s H vs Q E hr h=>?_
 ·obtain⟨_,_,_,_,rfl,_⟩:=h;rfl
 obtain⟨a,xs,ps,n,rfl,hS,hF,hP,hB,h100,hn,q⟩:=h;refine⟨_,(aB (aR (i:=1) Ug.nd rfl (Or.inr rfl) aE)
  (aB (dB PassesOwn.never rfl (cE (pv 0)) (aZ (i:=2) Ug.nd rfl (Or.inl rfl))
   (aF (aR (i:=1) Ug.nd rfl (Or.inr rfl) (aY cD (aY iB (pv 1) (aG G1 hr rfl m1 k1 b1 .nil aK (aA (pv 1) (aA (aS aX (pv 2) aE (fun _ _=>rfl)) aC)))) (aS aX (pv 2) aE (fun _ _=>rfl))))))
  (aF (aV (eY (aA (eI (nl:=1) (fr:=[1]) (Nc:=["one","bottom"]) (cl:=[("bottom",s.heap.objs.size+1)]) rfl ⟨rfl,rfl,by decide +kernel,by decide +kernel,fun x c h=>h,dU rfl,rfl,fun i n h=>match i,h with | 0,h=>by cases h;exact⟨1,rfl,rfl,rfl,rfl,.inl rfl⟩ | k+1,h=>by rw[show 1+(k+1)=k+2 by lia] at h;cases h⟩
    (cE (pv 0)) (fun C s3 H3 fp pins=>(aZ (i:=0) uT rfl (Or.inl rfl))) (fun C s3 H3 fp pins=>fE)
    (fun C s3 H3 fp pins=>(aY cD (aS (gP (K:=K) rfl) (pv 0) aE (fun _ _=>rfl)) (aY iB (pv 1) (aS (gP (K:=K) rfl) (pv 0) aE (fun _ _=>rfl)))))) (aA (pv 1) aC))))))),?_⟩
 have lx:=hF.length;refine⟨_,rfl,a,rfl,⟨_,hS⟩,?_⟩;refine dS (xs:=xs) (fun i σ H'=>H'=H/\i<=ps.length/\∃z,σ=[some (.ref a),some (.int (cU (ps.take i))),z]) ⟨rfl,Nat.zero_le _,none,rfl⟩ (fun i σ H' _ h=>by rw[h.1];exact hS) ?_ ?_
 ·rintro i x σ H' hx ⟨rfl,hi,z,rfl⟩;obtain⟨u,p,rfl,ep,fu⟩:=hF.get hx;have hi':i < ps.length:=(List.getElem?_eq_some_iff.mp ep).1;obtain⟨f1,f2,_⟩:=lQ hP hB i hi;have mono:=Nat.mul_le_mul_left n hi;have hp:=hP p (mem_of_getElem? ep);have pb:=(hB p (mem_of_getElem? ep)).b;have g0:gc (cU (ps.take i)) p.2≠0:=by have:=Mq.rW (a:=cU (ps.take i)) (show p.2≠0 by lia);lia
  have gb:Mq.B n (gc (cU (ps.take i)) p.2):=by
   have:=Bz (t:=cU (ps.take i)) (show p.2≠0 by lia);rw[Qn (by lia)] at this;exact pb.le this
  have qb:Mq.B (1+n*i) (Int.fdiv (cU (ps.take i)) (gc (cU (ps.take i)) p.2)):=by
   have d1:gc (cU (ps.take i)) p.2 ∣ cU (ps.take i):=by unfold gc;exact Int.gcd_dvd_left ..
   obtain⟨k,hk⟩:=d1;have:=Mq.iE g0 hk;rw[eK g0 hk];exact f2.le this
  refine⟨_,rfl,_,rfl,cN rfl fu ⟨_,_,rfl,fC g0 gb (by lia) (cN rfl fu (cF qb pb (by lia) (by lia) ?_))⟩⟩;refine⟨rfl,hi',some (.ref u),?_⟩;rw[Mq.kS ep];rfl
 rintro σ H' ⟨rfl,_,z,rfl⟩;rw[lx,take_length];obtain⟨f1,f2,f3⟩:=lQ hP hB ps.length (Nat.le_refl _);rw[take_length] at f1 f2 f3;refine⟨_,rfl,a,rfl,⟨_,hS⟩,fun D hD=>?_⟩;have sD:=aI hD (.lst []);refine cZ (xs:=xs) (fun i zs H1=>aT H' H1/\H1 D=some (.lst zs)/\zs=((ps.take i).map (uS (cU ps))).map V.int) ⟨sD,aD,rfl⟩ (fun i zs H1 h=>h.2.1) (fun i zs H1 _ h=>h.1.seq hS) ?_ ?_
 ·rintro i zs x H1 hx ⟨s1,e1,rfl⟩ C hC;obtain⟨u,p,rfl,ep,fu⟩:=hF.get hx;have hi':i < ps.length:=(List.getElem?_eq_some_iff.mp ep).1;have mem:=mem_of_getElem? ep;have hp:=hP p mem;obtain⟨k,hk⟩:=f3 p mem;have fu1:=s1.fq fu;have kb:Mq.B (1+n*ps.length) (Int.fdiv (cU ps) p.2):=by
   have e:=eK (show p.2≠0 by lia) (show cU ps=p.2*k by rw[hk,Int.mul_comm]);rw[e];refine f2.le ?_;rw[hk,Int.natAbs_mul];exact Nat.le_mul_of_pos_right _ (by lia)
  refine⟨dC.1,dC.2,fL ?_⟩;refine dW rfl fu1 ⟨_,rfl,cN rfl fu1 (fC (show p.2≠0 by lia) (hB p mem).b (by lia) (cF (hB p mem).a kb (by lia) (by lia) ?_))⟩;refine⟨e1,bL (by rw[length_map,length_map,length_take];lia),hC _ _ ⟨s1.change hD,aD,?_⟩⟩;rw[take_add_one,ep,map_append,map_append];rfl
 rintro zs H1 ⟨s1,e1,rfl⟩;rw[lx,take_length] at e1;refine⟨_,rfl,zl9 2,fun t ht=>?_⟩;have s2:=aI ht (.tup [.ref D,.int (cU ps)]);exact q t D _ (s1.trans s2) hD (SqT.of aD) (s2 _ _ e1)
abbrev Wa:Stmt:=top 56
theorem Uy:aQ ["rows","rank","column","place"] ["rows","rank","column"] (aH Wa):=sK9 rfl rfl rfl rfl (by decide +kernel)
theorem Yb {dV:Value}(F:aU K "pivot_place" "pivot_place" Wa dV f fd)(ml:mg "len"=none)(mr:mg "range"=none) :
  aM P w K mg base CX 1 f fd ["rows","rank","column"] (Uz K):=by
 refine F.ok Uy (fun vs H Q E h=>?_) fun cdv A outer s H vs Q E hr h=>?_
 ·obtain⟨_,_,_,_,_,_,_,_,rfl,_⟩:=h;rfl
 obtain⟨l,D,zs,R,r,c,m,w',rfl,hS,hI,hm,hw,hc,hr',h100,q1,q2⟩:=h;refine⟨_,(aB (dB PassesOwn.never rfl (vD rfl mr (aA (pv 1) (aA (bO bG rfl ml PySem.boot_len (aA (pv 0) aC)) aC))) (aZ (i:=3) Uy.nd rfl (Or.inl rfl))
   (aF (cC (bF jX (aS bM (aS bM (pv 0) (pv 3) (fun _ _=>rfl)) (pv 2) (fun _ _=>rfl)) aE (bH _)) (aF (aV (pv 3))) bK)))
  (aF (aV Xe))),?_⟩
 have lz:=hI.length;obtain⟨k,hk⟩:∃k,m=r+k:=⟨m - r,by lia⟩
 refine⟨_,rfl,_,rfl,l,zs,rfl,.inl hS,(r:Int),(zs.length:Int),rfl,⟨by lia,by lia,by lia,by lia⟩,?_⟩;rw[show ((zs.length:Int) - (r:Int)).toNat=k by lia];refine fV (lo:=(r:Int)) (n:=k) (fun i σ H'=>H'=H/\(∀j,r<=j->j < r+i->Mq.ent R j c=0)/\∃z,σ=[some (.ref l),some (.int (r:Int)),some (.int (c:Int)),z]) ⟨rfl,fun j h1 h2=>absurd h1 (by lia),none,rfl⟩ ?_ ?_
 ·rintro i σ H' hi ⟨rfl,hz,z,rfl⟩;obtain⟨u,eu,nu,hu⟩:=hI.at (i:=r+i) (by lia);have eu':atI zs ((r:Int)+(i:Int))=some (.ref u):=by have:=bS eu;rwa [Int.natCast_add] at this
  have ec:=bS (jG (l:=R.getD (r+i) []) (i:=c) (by rw[hw _ (by lia)];exact hc));refine⟨_,rfl,_,rfl,l,zs,_,_,rfl,rfl,hS,eu',_,rfl,u,_,_,_,rfl,rfl,SqL.of hu,ec,rfl,_,rfl,qC (fun e=>?_) (fun e=>?_)⟩
  ·refine⟨_,rfl,?_⟩;have ne:Mq.ent R (r+i) c≠0:=fun z=>by
    have z':(R.getD (r+i) []).getD c 0=0:=z;rw[z'] at e;simp at e
   have:=q1 (r+i) (by lia) (by lia) ne
   rwa [Int.natCast_add] at this
  ·refine⟨rfl,fun j h1 h2=>?_,_,rfl⟩
   by_cases hj:j=r+i
   ·rw[hj];simp at e;exact e
   ·exact hz j h1 (by lia)
 ·rintro σ H' ⟨rfl,hz,z,rfl⟩;exact q2 fun i h1 h2=>hz i h1 (by lia)
theorem dQ:(["here","above","own","other","divisor"]:List Str).Nodup:=by decide +kernel
abbrev Wm:Stmt:=top 58
theorem Nt:aQ ["row","upper","column","divisor","own","other"] ["row","upper","column","divisor"] (aH Wm):=sK9 rfl rfl rfl rfl (by decide +kernel)
theorem Zg {dV:Value}(F:aU K "cleared" "cleared" Wm dV f fd)(mz:mg "zip"=none) :
  aM P w K mg base CX 1 f fd ["row","upper","column","divisor"] (uV K):=by
 refine F.ok Nt (fun vs H Q E h=>?_) fun cdv A outer s H vs Q E hr h=>?_
 ·obtain⟨_,_,_,_,_,_,_,rfl,_⟩:=h;rfl
 obtain⟨u,v,row,upper,c,n,dv,rfl,hu,hv,hl,h100,hc,hd,b1,b2,bd,hn,q⟩:=h;refine⟨_,(aB (aR (i:=4) Nt.nd rfl (Or.inr rfl) (aS bM (pv 1) (pv 2) (fun _ _=>rfl)))
  (aB (aR (i:=5) Nt.nd rfl (Or.inr rfl) (aS bM (pv 0) (pv 2) (fun _ _=>rfl)))
  (aF (aV (eI (nl:=2) (fr:=[4,5,3]) (Nc:=["here","above","own","other","divisor"]) (cl:=[("own",s.heap.objs.size+2),("other",s.heap.objs.size+3),("divisor",s.heap.objs.size+1)]) (g:=(Jr K 2 (jQ (iS 0) (jQ (iS 1) Jx)))) rfl ⟨rfl,rfl,by decide +kernel,by decide +kernel,(dR rfl (dR rfl (dR rfl (oM)))),dU rfl,rfl,fun i n h=>match i,h with | 0,h=>by cases h;exact⟨4,rfl,rfl,rfl,rfl,.inl rfl⟩ | 1,h=>by cases h;exact⟨5,rfl,rfl,rfl,rfl,.inl rfl⟩ | 2,h=>by cases h;exact⟨3,rfl,rfl,rfl,rfl,.inl rfl⟩ | k+3,h=>by rw[show 2+(k+3)=k+5 by lia] at h;cases h⟩
    (Ms rfl mz rfl (aA (pv 0) (aA (pv 1) aC))) (fun C s3 H3 fp pins=>(iY rfl (cK (aZ (i:=0) dQ rfl (Or.inl rfl)) (cK (aZ (i:=1) dQ rfl (Or.inl rfl)) gR)))) (fun C s3 H3 fp pins=>fE)
    (fun C s3 H3 fp pins=>(aY iB (aY jY (aY cD (pv 2) (pv 0)) (aY cD (pv 3) (pv 1))) (pv 4)))))))),?_⟩
 have e1:=bS (jG (l:=upper) (i:=c) (by lia));have e2:=bS (jG (l:=row) (i:=c) (by lia));refine⟨_,rfl,_,rfl,v,_,_,_,rfl,rfl,hv,e1,?_⟩;refine⟨_,rfl,_,rfl,u,_,_,_,rfl,rfl,hu,e2,?_⟩;refine⟨_,rfl,_,rfl,u,v,rfl,⟨_,hu⟩,⟨_,hv⟩,fun D hD=>?_⟩;have sD:=aI hD (.lst []);refine Am (xs:=row.map V.int) (ys:=upper.map V.int) (fun i zs H'=>aT H H'/\H' D=some (.lst zs)/\zs=((fP upper row c dv).take i).map V.int) ⟨sD,aD,rfl⟩ (fun i zs H' h=>h.2.1) (fun i zs H' _ h=>⟨h.1.seq hu,h.1.seq hv⟩) ?_ ?_
 ·rintro i zs x y H1 T1 ex ey ⟨s1,e1',rfl⟩ hT C hC;have hi:i < row.length:=by have:=(List.getElem?_eq_some_iff.mp ex).1;simpa using this
  have ex':x=.int (row.getD i 0):=by rw[jG hi] at ex;cases ex;rfl
  have ey':y=.int (upper.getD i 0):=by rw[jG (by lia)] at ey;cases ey;rfl
  subst ex' ey';have sT:=aI hT (.tup [.int (row.getD i 0),.int (upper.getD i 0)]);refine⟨T1,_,rfl,SqT.of aD,rfl,_,_,rfl,_,_,rfl,rfl,lG.1,lG.2,fL ?_⟩;have mm:Mq.B (n+n+1) (upper.getD c 0*row.getD i 0 - row.getD c 0*upper.getD i 0):=Mq.B.sub ((b2 c).mul (b1 i)) ((b1 c).mul (b2 i));refine⟨_,rfl,_,rfl,cF (b2 c) (b1 i) (by lia) (by lia) ⟨_,rfl,_,rfl,cF (b1 c) (b2 i) (by lia) (by lia) ⟨_,_,rfl,rfl,_,rfl,fC hd bd (by lia) ?_⟩⟩⟩;have ll:(fP upper row c dv).length=row.length:=by unfold fP;rw[length_zipWith];lia
  have eA:=sT _ _ e1';refine⟨eA,bL (by rw[length_map,length_take];lia),hC _ _ ⟨(s1.trans sT).change hD,aD,?_⟩⟩;have eg:(fP upper row c dv)[i]?=some (Int.fdiv (upper.getD c 0*row.getD i 0 - row.getD c 0*upper.getD i 0) dv):=by
   unfold fP;rw[getElem?_zipWith,kN hi,kN (show i < upper.length by lia)]
  rw[take_add_one,eg,map_append];rfl
 rintro zs H1 ⟨s1,e1',rfl⟩;have ll:(fP upper row c dv).length=row.length:=by unfold fP;rw[length_zipWith];lia
 rw[length_map,length_map,take_of_length_le (by rw[ll];lia)] at e1';exact q D H1 s1 hD e1'
theorem cV:(["place","row","upper","rank","divisor","column"]:List Str).Nodup:=by decide +kernel
abbrev tV:Stmt:=top 57
theorem vB:aQ ["rows","rank","column","divisor","upper"] ["rows","rank","column","divisor"] (aH tV):=sK9 rfl rfl rfl rfl (by decide +kernel)
theorem Da {dV:Value}(F:aU K "cleared_rows" "cleared_rows" tV dV f fd)(men:mg "enumerate"=none)(G1:aM P w K mg base CX0 1 g1 gd1 ["row","upper","column","divisor"] (uV K))(b1:aL K gd1 ["row","upper","column","divisor"] [])(k1:kI9 K g1)(m1:mI9 mg "cleared" g1) :
  aM P w K mg base CX 2 f fd ["rows","rank","column","divisor"] (wI K):=by
 refine F.ok vB (fun vs H Q E h=>?_) fun cdv A outer s H vs Q E hr h=>?_
 ·obtain⟨_,_,_,_,_,_,_,_,_,_,rfl,_⟩:=h;rfl
 obtain⟨l,D0,zs,R,r,c,m,w',n,dv,rfl,hS,hI,hm,hw,hc,hw100,hr',h100,hd,hB,bd,hn,q⟩:=h;refine⟨_,(aB (aR (i:=4) vB.nd rfl (Or.inr rfl) (aS bM (pv 0) (pv 1) (fun _ _=>rfl)))
  (aF (aV (eI (nl:=2) (fr:=[4,1,3,2]) (Nc:=["place","row","upper","rank","divisor","column"]) (cl:=[("upper",s.heap.objs.size+4),("rank",s.heap.objs.size+1),("divisor",s.heap.objs.size+3),("column",s.heap.objs.size+2)]) (g:=(Jr K 2 (jQ (iS 0) (jQ (iS 1) Jx)))) rfl ⟨rfl,rfl,by decide +kernel,by decide +kernel,(dR rfl (dR rfl (dR rfl (dR rfl (oM))))),dU rfl,rfl,fun i n h=>match i,h with | 0,h=>by cases h;exact⟨4,rfl,rfl,rfl,rfl,.inl rfl⟩ | 1,h=>by cases h;exact⟨1,rfl,rfl,rfl,rfl,.inl rfl⟩ | 2,h=>by cases h;exact⟨3,rfl,rfl,rfl,rfl,.inl rfl⟩ | 3,h=>by cases h;exact⟨2,rfl,rfl,rfl,rfl,.inl rfl⟩ | k+4,h=>by rw[show 2+(k+4)=k+6 by lia] at h;cases h⟩
    (mU rfl men rfl (aA (pv 0) aC)) (fun C s3 H3 fp pins=>(iY rfl (cK (aZ (i:=0) cV rfl (Or.inl rfl)) (cK (aZ (i:=1) cV rfl (Or.inl rfl)) gR)))) (fun C s3 H3 fp pins=>fE)
    (fun C s3 H3 fp pins=>(rC (bF fG (pv 0) (pv 3) (bH _)) (pv 1) (aG G1 hr rfl m1 k1 b1 .nil aK (aA (pv 1) (aA (pv 2) (aA (pv 5) (aA (pv 4) aC))))))))))),?_⟩
 have lz:=hI.length;obtain⟨v,ev,nv,hv⟩:=hI.at (i:=r) (by lia);refine⟨_,rfl,_,rfl,l,zs,_,_,rfl,rfl,hS,bS ev,?_⟩;refine⟨_,rfl,l,rfl,⟨_,hS⟩,fun D hD=>?_⟩;have sD:=aI hD (.lst []);have ll:=Mq.Gi R r c dv;refine pG (xs:=zs) (fun i ys H'=>aT H H'/\H' D=some (.lst ys)/\Imx D H' ys ((cB R r c dv).take i)) ⟨sD,aD,.nil⟩ (fun i ys H' h=>h.2.1) (fun i ys H' _ h=>h.1.seq hS) ?_ ?_
 ·rintro i ys x H1 T1 ex ⟨s1,e1,I1⟩ hT C hC;have hi:i < m:=by have:=(List.getElem?_eq_some_iff.mp ex).1;lia
  obtain⟨u,eu,nu,hu⟩:=hI.at (i:=i) (by lia);have exu:x=.ref u:=by rw[eu] at ex;cases ex;rfl
  subst exu;have lI:=I1.length;rw[length_take] at lI;have cg:=mY (R:=R) (i:=i) (by lia) r c dv;have cs:(cB R r c dv).take (i+1)=(cB R r c dv).take i++[(cB R r c dv).getD i []]:=by
   rw[take_add_one,getD_eq_getElem?_getD,getElem?_eq_getElem (show i < (cB R r c dv).length by lia)];rfl
  have sT:=aI hT (.tup [.int (i:Int),.ref u]);have uD:∀{x:Addr} {o:HO},H x=some o->x≠D:=fun h z=>by rw[z,hD] at h;cases h
  refine⟨T1,_,rfl,SqT.of aD,rfl,_,_,rfl,_,_,rfl,rfl,lG.1,lG.2,fL ?_⟩;generalize upd H1 T1 (.tup [.int (i:Int),.ref u])=H2 at sT ⊢;have sA:=s1.trans sT;have eA:=sT _ _ e1;refine⟨_,rfl,_,rfl,rfl,_,rfl,qC (fun e=>?_) (fun e=>?_)⟩
  ·have ei:i=r:=by simp at e;lia
   refine⟨_,rfl,eA,bL (by lia),hC _ _ ⟨sA.change hD,aD,?_⟩⟩;rw[cs,cg,if_pos ei];exact((I1.same sT).app (.cons (uD hu) (sA _ _ hu) .nil)).upd
  ·have ei:i≠r:=by simp at e;lia
   refine⟨_,rfl,_,rfl,_,rfl,_,rfl,u,v,R.getD i [],R.getD r [],c,n,dv,rfl,SqL.of (sA _ _ hu),SqL.of (sA _ _ hv),by rw[hw i hi,hw r hr'],by rw[hw i hi];exact hw100,by rw[hw i hi];exact hc,hd,fun j=>hB i j,fun j=>hB r j,bd,hn,fun l3 H3 s3 n3 e3=>?_⟩;have eB:=s3 _ _ eA;have n3':l3≠D:=fun z=>by rw[z,eA] at n3;cases n3
   refine⟨eB,bL (by lia),hC _ _ ⟨(sA.trans s3).change hD,aD,?_⟩⟩;rw[cs,cg,if_neg ei];exact((I1.same (sT.trans s3)).app (.cons n3' e3 .nil)).upd
 rintro ys H1 ⟨s1,e1,I1⟩;rw[lz,take_of_length_le (by lia)] at I1;exact q D ys H1 s1 hD e1 I1
abbrev Kv:Stmt:=top 55
theorem gM:aQ ["rows","width","rank","pivot","sign","column","place","lifted"] ["rows","width"] (aH Kv):=sK9 rfl rfl rfl rfl (by decide +kernel)
theorem Rq {dV:Value}(F:aU K "eliminated" "eliminated" Kv dV f fd)(mr:mg "range"=none)(mli:mg "list"=none)(G1:aM P w K mg base CX0 1 g1 gd1 ["rows","rank","column"] (Uz K))(b1:aL K gd1 ["rows","rank","column"] [])(k1:kI9 K g1)(m1:mI9 mg "pivot_place" g1)(G2:aM P w K mg base CX0 2 g2 gd2 ["rows","rank","column","divisor"] (wI K))(b2:aL K gd2 ["rows","rank","column","divisor"] [])(k2:kI9 K g2)(m2:mI9 mg "cleared_rows" g2) :
  aM P w K mg base CX 3 f fd ["rows","width"] (wZ K):=by
 refine F.ok gM (fun vs H Q E h=>?_) fun cdv A outer s H vs Q E hr h=>?_
 ·obtain⟨_,_,_,_,_,_,_,_,rfl,_⟩:=h;rfl
 obtain⟨l,D0,zs,R,m,w',n,Pr,rfl,hS,hI,hm,hw,hmw,hw100,hB,hn1,hn,hm31,hPr,hSt,q⟩:=h;have r1:=hr.mono (show 1<=2 by lia);refine⟨_,(aB (aR (i:=0) gM.nd rfl (Or.inl rfl) (Ju wY rfl mli PyProof.Rows.boot_list (aA (pv 0) aC)))
  (aB (aR (i:=2) gM.nd rfl (Or.inl rfl) aE)
  (aB (aR (i:=3) gM.nd rfl (Or.inl rfl) aE)
  (aB (aR (i:=4) gM.nd rfl (Or.inl rfl) aE)
  (aB (dB PassesOwn.never rfl (fU rfl mr (aA (pv 1) aC)) (aZ (i:=5) gM.nd rfl (Or.inl rfl))
   (aB (aR (i:=6) gM.nd rfl (Or.inl rfl) (aG G1 r1 rfl m1 k1 b1 .nil aK (aA (pv 0) (aA (pv 2) (aA (pv 5) aC)))))
  (aB (cC (zF (Dr (pv 6))) (aF zZ) bK)
  (aB (cC (bF jX (pv 6) (pv 2) (bH _)) (aB (aR (i:=7) gM.nd rfl (Or.inl rfl) (aS bM (pv 0) (pv 6) (fun _ _=>rfl)))
  (aB (tF (aS bM (pv 0) (pv 2) (fun _ _=>rfl)) (yI (pv 0) (pv 6) mX))
  (aB (tF (pv 7) (yI (pv 0) (pv 2) mX))
  (aF (aR (i:=4) gM.nd rfl (Or.inl rfl) (Gp yN (pv 4))))))) bK)
  (aB (aR (i:=0) gM.nd rfl (Or.inl rfl) (aG G2 hr rfl m2 k2 b2 .nil aK (aA (pv 0) (aA (pv 2) (aA (pv 5) (aA (pv 3) aC))))))
  (aB (aR (i:=3) gM.nd rfl (Or.inl rfl) (aS bM (aS bM (pv 0) (pv 2) (fun _ _=>rfl)) (pv 5) (fun _ _=>rfl)))
  (aF (Nx (i:=2) gM.nd rfl (Or.inl rfl) aE Lq))))))))
  (aF (aV (Gd (jU cS (pv 0) (jU cS (pv 2) (jU cS (pv 3) (jU cS (pv 4) Ej)))) rfl rfl (by simp) (by decide))))))))),?_⟩
 refine⟨_,rfl,l,zs,rfl,.inl hS,fun l0 hl0=>?_⟩;have s0:=aI hl0 (.lst zs);have e0:upd H l0 (.lst zs) l0=some (.lst zs):=aD;generalize upd H l0 (.lst zs)=H0 at s0 e0 ⊢;refine⟨_,rfl,(m:Int),rfl,by lia,by lia,?_⟩;rw[Int.toNat_natCast];have b1:Mq.B n 1:=by
  show 1 < 2 ^ n;exact Nat.one_lt_two_pow (by lia)
 refine fV (lo:=0) (n:=m) (fun i σ H'=>aT H H'/\∃(lR:Addr) (zs':List V) (R':List (List Int)) (rank:Nat) (pivot sign:Int) (z5 z6 z7:Option V),σ=[some (.ref lR),some (.int (m:Int)),some (.int (rank:Int)),some (.int pivot),some (.int sign),z5,z6,z7]/\H lR=none/\H' lR=some (.lst zs')/\Imx lR H' zs' R'/\SI m w' (Mq.at2 R) R' rank i pivot sign/\Mq.SB n m R' rank i pivot/\Pr R') ⟨s0,l0,zs,R,0,1,1,none,none,none,rfl,hl0,e0,(hI.other hl0).same s0,.start hm hw,.start hB,hPr⟩ ?_ ?_
 ·rintro i σ H1 hi ⟨s1,lR,zs',R',rank,pivot,sign,z5,z6,z7,rfl,nR,eR,I1,S1,sb,p1⟩;rw[Int.zero_add];obtain⟨bR,bP⟩:=sb.bd5 S1 hm31;obtain⟨A1,c1,B1,_⟩:=S1.bar;have rm:=B1.rm;have rc:=B1.rc;have dn:pivot≠0:=fun z=>B1.dne (by rw[z];simp);clear B1;refine⟨_,rfl,_,rfl,_,rfl,lR,lR,zs',R',rank,i,m,w',rfl,SqL.of eR,I1,S1.len,S1.wid,by lia,rm,by lia,fun p h1 h2 ne=>?_,fun hz=>?_⟩
  ·refine⟨_,rfl,_,rfl,fB ?_⟩;have hrm:rank < m:=by lia
   refine(fun (hrest:∀(sg:Int) (z:Option V) (Hx:Hp) (zs2:List V) (R2:List (List Int)),aT H Hx->Hx lR=some (.lst zs2)->Imx lR Hx zs2 R2->SI m w' (Mq.at2 R) R2 rank i pivot sg->Mq.ent R2 rank i≠0->Mq.SB n m R2 rank i pivot->Pr R2->W.KIN.Hid ((?T:Int->Option V->Hp->Prop) sg z Hx))=>?main) ?rest
   case main=>
    refine⟨_,rfl,_,rfl,rfl,_,rfl,qC (fun e=>?c1) (fun e=>?c2)⟩
    case c1=>
     have npr:p≠rank:=by simp at e;lia
     obtain⟨up,eup,nup,hup⟩:=I1.at (i:=p) (by rw[S1.len];lia);obtain⟨ur,eur,nur,hur⟩:=I1.at (i:=rank) (by rw[S1.len];lia);have lz:zs'.length=m:=I1.length.trans S1.len;refine⟨_,rfl,_,rfl,lR,zs',_,_,rfl,rfl,SqL.of eR,bS eup,?_⟩;refine⟨_,rfl,_,rfl,lR,zs',_,_,rfl,rfl,SqL.of eR,bS eur,_,rfl,_,rfl,lR,zs',_,p,rfl,rfl,eR,qZ (by lia),?_⟩;have e2:upd H1 lR (.lst (zs'.set p (.ref ur))) lR=some (.lst (zs'.set p (.ref ur))):=aD;have I2:=(Imx.set nur hur p I1).upd (o:=.lst (zs'.set p (.ref ur)));have s2:aT H (upd H1 lR (.lst (zs'.set p (.ref ur)))):=s1.change nR;have hup2:upd H1 lR (.lst (zs'.set p (.ref ur))) up=some (.lst ((R'.getD p []).map V.int)):=by rw[aW nup];exact hup
     generalize upd H1 lR (.lst (zs'.set p (.ref ur)))=H2 at e2 I2 s2 hup2 ⊢;refine⟨_,rfl,_,rfl,_,rfl,lR,_,_,rank,rfl,rfl,e2,qZ (by rw[length_set];lia),?_⟩;have e3:upd H2 lR (.lst ((zs'.set p (.ref ur)).set rank (.ref up))) lR=some (.lst ((zs'.set p (.ref ur)).set rank (.ref up))):=aD;have I3:=(Imx.set nup hup2 rank I2).upd (o:=.lst ((zs'.set p (.ref ur)).set rank (.ref up)));have s3:aT H (upd H2 lR (.lst ((zs'.set p (.ref ur)).set rank (.ref up)))):=s2.change nR;generalize upd H2 lR (.lst ((zs'.set p (.ref ur)).set rank (.ref up)))=H3 at e3 I3 s3 ⊢;refine⟨_,rfl,_,rfl,?_⟩;show iM _ _ _ [some (.ref lR),some (.int (m:Int)),some (.int (rank:Int)),some (.int pivot),some (.int (-sign)),some (.int (i:Int)),some (.int (p:Int)),some (.ref up)] H3;have S3:=S1.swap (p:=p) (by lia) h2;have bR3:=sb.swap S1 (p:=p) (by lia) h2;have ne3:Mq.ent (eX R' p rank) rank i≠0:=by
      unfold Mq.ent;rw[yG (by rw[S1.len];lia) (by rw[S1.len];lia)];have:Mq.sw p rank rank=p:=by unfold Mq.sw;rw[if_pos rfl]
      rw[this];exact ne
     have I3':Imx lR H3 ((zs'.set p (.ref ur)).set rank (.ref up)) (eX R' p rank):=I3;clear I3 hup2;have p3:=hSt.sw _ _ _ _ _ _ S1 (show rank < p by lia) h2 p1;generalize -sign=sg at S3 ⊢;generalize some (V.ref up)=zz at ⊢;exact(hrest sg zz H3 _ _ s3 e3 I3' S3 ne3 bR3 p3).out
    case c2=>
     have epr:p=rank:=by simp at e;lia
     show iM _ _ _ [some (.ref lR),some (.int (m:Int)),some (.int (rank:Int)),some (.int pivot),some (.int sign),some (.int (i:Int)),some (.int (p:Int)),z7] H1;exact(hrest sign z7 H1 _ _ s1 eR I1 S1 (by rw[<- epr];exact ne) sb p1).out
   case rest=>
   intro sg z Hx zs2 R2 sx ex Ix Sx nx bx px;refine⟨?_⟩;have bxx:=bx.bd5 Sx hm31;refine⟨_,rfl,_,rfl,_,rfl,_,rfl,lR,lR,zs2,R2,rank,i,m,w',bw n m,pivot,rfl,SqL.of ex,Ix,Sx.len,Sx.wid,by lia,hw100,hrm,by lia,dn,bxx.1,bxx.2,hn,fun l3 zs3 H3 s3 n3 e3 I3=>?_⟩;have S3:=Sx.clear hrm (by lia) nx;have b3:=bx.clear Sx hrm (by lia) nx;obtain⟨u,eu,nu,hu⟩:=I3.at (i:=rank) (by rw[S3.len];lia);have ec:=bS (jG (l:=(cB R2 rank i pivot).getD rank []) (i:=i) (by rw[S3.wid _ hrm];lia));refine⟨_,rfl,_,rfl,l3,zs3,_,_,rfl,rfl,SqL.of e3,bS eu,_,rfl,u,_,_,_,rfl,rfl,SqL.of hu,ec,?_⟩;refine⟨_,rfl,_,_,rfl,rfl,?_⟩;have ev:((cB R2 rank i pivot).getD rank []).getD i 0=Mq.ent R2 rank i:=by rw[mY (by rw[Sx.len];lia),if_pos rfl];rfl
   refine⟨sx.trans s3,l3,zs3,_,rank+1,Mq.ent R2 rank i,sg,some (.int (i:Int)),some (.int (p:Int)),z,?_,sx.free n3,e3,I3,S3,b3,hSt.cl _ _ _ _ _ Sx hrm (by lia) nx px⟩;rw[ev];rfl
  ·refine⟨_,rfl,_,rfl,fL ?_⟩;exact⟨s1,lR,zs',R',rank,pivot,sign,_,_,_,rfl,nR,eR,I1,S1.skip hz,sb.skip hz,p1⟩
 ·rintro σ H1 ⟨s1,lR,zs',R',rank,pivot,sign,z5,z6,z7,rfl,nR,eR,I1,S1,sb,p1⟩;obtain⟨bR,bP⟩:=sb.bd5 S1 hm31;obtain⟨A1,c1,B1,_⟩:=S1.bar;have rm:=B1.rm;intro d hd;have nd:lR≠d:=fun z=>by rw[z,hd] at eR;cases eR
  refine⟨_,rfl,_,rfl,_,rfl,_,rfl,aD,[(.inr "rows",.ref lR),(.inr "rank",.int (rank:Int)),(.inr "pivot",.int pivot),(.inr "sign",.int sign)],rfl,by show 4<=15;decide,?_⟩;have sd:aT H1 (upd (upd H1 d (.dK [])) d (Nz lR rank pivot sign)):=(aI hd _).change hd;exact q d lR zs' R' rank pivot sign _ (s1.trans sd) (s1.free hd) nR aD (sd _ _ eR) (I1.same sd) S1 bR bP p1
theorem pX:(["row","side"]:List Str).Nodup:=by decide +kernel
theorem pZ:(["row","many","end"]:List Str).Nodup:=by decide +kernel
abbrev zD:Stmt:=top 50
theorem mZ:aQ ["matrix","right","many","rows","end"] ["matrix","right"] (aH zD):=sK9 rfl rfl rfl rfl (by decide +kernel)
theorem Hv {dV:Value}(F:aU K "solved" "solved" zD dV f fd)(ml:mg "len"=none)(mz:mg "zip"=none)(G1:aM P w K mg base CX0 2 g1 gd1 ["some"] (Ox K))(b1:aL K gd1 ["some"] [])(k1:kI9 K g1)(m1:mI9 mg "in_wholes" g1)(G2:aM P w K mg base CX0 3 g2 gd2 ["rows","width"] (wZ K))(b2:aL K gd2 ["rows","width"] [])(k2:kI9 K g2)(m2:mI9 mg "eliminated" g2)(G3:aM P w K mg base CX0 2 g3 gd3 ["top","bottom"] gJ)(b3:aL K gd3 ["top","bottom"] [])(k3:kI9 K g3)(m3:mI9 mg "fraction" g3) :
  aM P w K mg base CX 5 f fd ["matrix","right"] (vI K):=by
 refine F.ok mZ (fun vs H Q E h=>?_) fun cdv A outer s H vs Q E hr h=>?_
 ·obtain⟨_,_,_,_,_,_,_,_,_,_,rfl,_⟩:=h;rfl
 obtain⟨g,bR,D0,H00,us,bs,X,qs,k,n,rfl,hU,hX,hB,hQ,ql,qL,qB,xP,xB,x4,hk,hBd,hn1,hnb,hz0,q⟩:=h;have hu:=vC hr;have r3:=hr.mono (show 3<=4 by lia);have r2:=hr.mono (show 2<=4 by lia);refine⟨_,(aB (aR (i:=2) mZ.nd rfl (Or.inr rfl) (bO bG rfl ml PySem.boot_len (aA (pv 0) aC)))
  (aB (oJ (i:=3) (nl:=2) (fr:=[]) (Nc:=["row","side"]) (cl:=[]) (g:=(Jr K 2 (jQ (iS 0) (jQ (iS 1) Jx)))) mZ.nd rfl rfl rfl ⟨rfl,rfl,by decide +kernel,by decide +kernel,fun x c h=>(by cases h),dU rfl,rfl,fun i n h=>(by simp at h)⟩
    (Ms rfl mz rfl (aA (pv 0) (aA (pv 1) aC))) (fun C s3 H3 fp pins=>(iY rfl (cK (aZ (i:=0) pX rfl (Or.inl rfl)) (cK (aZ (i:=1) pX rfl (Or.inl rfl)) gR)))) (fun C s3 H3 fp pins=>fE)
    (fun C s3 H3 fp pins=>(aS (gP (K:=K) rfl) (aG G1 r2 rfl m1 k1 b1 .nil aK (aA (aY tG (pv 0) (cT (aA (pv 1) aC))) aC)) aE (fun _ _=>rfl))) rfl)
  (aB (aR (i:=4) mZ.nd rfl (Or.inr rfl) (aG G2 r3 rfl m2 k2 b2 .nil aK (aA (pv 3) (aA (pv 2) aC))))
  (aB (cC (bF tH (jJ hu (pv 4) cS (fun _ _=>rfl)) (pv 2) (bH _)) (aF eT) bK)
  (aF (aV (eI (nl:=1) (fr:=[2,4]) (Nc:=["row","many","end"]) (cl:=[("many",s.heap.objs.size+1),("end",s.heap.objs.size+2)]) rfl ⟨rfl,rfl,by decide +kernel,by decide +kernel,(dR rfl (dR rfl (oM))),dU rfl,rfl,fun i n h=>match i,h with | 0,h=>by cases h;exact⟨2,rfl,rfl,rfl,rfl,.inl rfl⟩ | 1,h=>by cases h;exact⟨4,rfl,rfl,rfl,rfl,.inl rfl⟩ | k+2,h=>by rw[show 1+(k+2)=k+3 by lia] at h;cases h⟩
    (cE (jJ hu (pv 4) cS (fun _ _=>rfl))) (fun C s3 H3 fp pins=>(aZ (i:=0) pZ rfl (Or.inl rfl))) (fun C s3 H3 fp pins=>fE)
    (fun C s3 H3 fp pins=>(aG G3 r2 rfl m3 k3 b3 .nil aK (aA (aS (jV (K:=K) rfl) (pv 0) (pv 1) (fun _ _=>rfl)) (aA (jJ hu (pv 2) cS (fun _ _=>rfl)) aC))))))))))),?_⟩
 have lu:=hX.length;have lb:=hQ.length;have hw:∀row∈X,row.length=X.length:=fun row h=>(xB row h).2;have qP:=qL.pos;have lA:=Ao ql;refine⟨_,rfl,g,us,rfl,.inl hU,?_⟩;refine⟨_,rfl,_,rfl,g,bR,rfl,⟨_,hU⟩,⟨_,hB⟩,fun D hD=>?_⟩;have sD:=aI hD (.lst []);refine Am (xs:=us) (ys:=bs) (fun i zs H'=>aT H H'/\H' D=some (.lst zs)/\Imx D H' zs ((gL X qs).take i)) ⟨sD,aD,.nil⟩ (fun i zs H' h=>h.2.1) (fun i zs H' _ h=>⟨h.1.seq hU,h.1.seq hB⟩) ?_ ?_
 ·rintro i zs x y H1 T1 ex ey ⟨s1,e1,I1⟩ hT C hC;obtain⟨u,ys,row,rfl,er,_,_,hu',fu⟩:=hX.get ex;obtain⟨v,qv,rfl,eq,fv⟩:=hQ.get ey;have hi:i < X.length:=(List.getElem?_eq_some_iff.mp er).1;have mem:=mem_of_getElem? er;have memq:=mem_of_getElem? eq;obtain⟨rb,rl⟩:=xB row mem;have lys:=fu.length;have sT:=aI hT (.tup [.ref u,.ref v]);refine⟨T1,_,rfl,SqT.of aD,rfl,_,_,rfl,_,_,rfl,rfl,lG.1,lG.2,fL ?_⟩;generalize upd H1 T1 (.tup [.ref u,.ref v])=H2 at sT ⊢;have s2:=s1.trans sT;refine⟨_,rfl,_,rfl,zl9 1,fun lo hlo=>?_⟩;have s3:=aI hlo (.lst [.ref v]);have e3:upd H2 lo (.lst [.ref v]) lo=some (.lst [.ref v]):=aD;generalize upd H2 lo (.lst [.ref v])=H3 at s3 e3 ⊢;have s03:=s2.trans s3;refine⟨u,lo,_,_,rfl,rfl,s03 _ _ hu',e3,Nat.le_of_lt (bL (by simp only[length_cons,length_nil];lia)),fun p hp=>?_⟩;have s4:=aI hp (.lst (ys++[.ref v]));have e4:upd H3 p (.lst (ys++[.ref v])) p=some (.lst (ys++[.ref v])):=aD;generalize upd H3 p (.lst (ys++[.ref v]))=H4 at s4 e4 ⊢;have s04:=s03.trans s4;have s14:=sT.trans (s3.trans s4);refine⟨p,_,row++[qv],k,rfl,SqL.of e4,(fu.same s04).app (.cons (s04.fq fv) .nil),fun z hz=>?_,fun z hz=>?_,by rw[List.length_append];simp only[length_cons,length_nil];lia,by rw[List.length_append,rl];simp only[length_cons,length_nil];rw[show X.length+(0+1)=X.length+1 by lia];lia,fun t l H5 s5 nl ht hl=>?_⟩
  ·rcases mem_append.mp hz with z1 | z1
   ·exact xP row mem z z1
   ·have:z=qv:=by simpa using z1
    rw[this];exact qP qv memq
  ·rcases mem_append.mp hz with z1 | z1
   ·exact rb z z1
   ·have:z=qv:=by simpa using z1
    rw[this];exact qB qv memq
  have s15:=s14.trans s5;have e5:=s15 _ _ e1;have ne:l≠D:=fun z=>by rw[z,s14 _ _ e1] at nl;cases nl
  have lz:=I1.length;rw[length_take,lA] at lz;refine⟨t,_,_,_,rfl,rfl,ht,rfl,e5,bL (by lia),hC _ _ ⟨(s1.trans s15).change hD,aD,?_⟩⟩;have ee:(gL X qs).take (i+1)=(gL X qs).take i++[iw (row++[qv])]:=by
   rw[take_add_one];unfold gL jO;rw[getElem?_map,getElem?_zipWith,er,eq];rfl
  rw[ee];exact((I1.same s15).app (.cons ne hl .nil)).upd
 rintro zs H1 ⟨s1,e1,I1⟩;rw[show min us.length bs.length=(gL X qs).length by lia,take_length] at I1;have bits4:bw n X.length<=9000:=Nat.le_trans hnb (by decide);have wA:∀i,i < X.length->((gL X qs).getD i []).length=X.length+1:=fun i hi=>by
  rw[sU ql hi,pH,List.length_append,hw _ (mem_of_getElem? (uK hi))];rfl
 refine⟨_,rfl,_,rfl,D,D,zs,gL X qs,X.length,X.length+1,n,fun R=>Mq.KI X.length (Mq.at2 (gL X qs)) R/\Mq.KJ X.length (Mq.at2 (gL X qs)) R,by rw[lu];rfl,SqL.of e1,I1,lA,wA,by lia,by lia,hBd,hn1,by lia,by lia,⟨fun Φ _ hz=>hz,fun Φ _ hz=>hz⟩,Ls,fun d lE zE R' rank pivot sign H2 s2 nd nlE ed el IE SE bE bp LE=>?_⟩;obtain⟨g1',g2',g3',g4'⟩:=rL ed;have s02:=s1.trans s2;have wr:=Ng xP qP ql hw SE;refine⟨_,rfl,d,_,rfl,g2',_,rfl,_,_,rfl,rfl,_,rfl,qC (fun e=>?_) (fun e=>?_)⟩
 ·-- lame
  have hr':rank < X.length:=by simp at e;lia
  have hz:wgt X=0:=by
   rcases wr with z | z
   ·exact z.2
   ·lia
  exact absurd hz hz0
 ·-- whole
  have hr':rank=X.length:=by
   rcases wr with z | z
   ·simp at e;lia
   ·exact z.1
  have hz:wgt X≠0:=by
   rcases wr with z | z
   ·lia
   ·exact z.2
  subst hr';have dn:=SE.dne;have pn:pivot≠0:=fun z=>dn (by rw[z];simp);have lzE:=IE.length;rw[SE.len] at lzE;refine⟨_,rfl,d,_,rfl,g1',lE,rfl,⟨_,SqL.of el⟩,fun D2 hD2=>?_⟩;have sD2:=aI hD2 (.lst []);refine cZ (xs:=zE) (fun i ws H'=>aT H2 H'/\H' D2=some (.lst ws)/\Fqs K H' ws ((List.range i).map fun i=>red (Mq.ent R' i X.length) pivot)) ⟨sD2,aD,.nil⟩ (fun i ws H' h=>h.2.1) (fun i ws H' _ h=>h.1.seq (SqL.of el)) ?_ ?_
  ·rintro i ws x H3 hx ⟨s3,e3,F3⟩ C hC;have hi:i < X.length:=by have:=(List.getElem?_eq_some_iff.mp hx).1;lia
   obtain⟨u,eu,nu,hu2⟩:=IE.at (i:=i) (by rw[SE.len];exact hi);have exu:x=.ref u:=by rw[eu] at hx;cases hx;rfl
   subst exu;have wid:=SE.wid i hi;have lz:=F3.length;rw[length_map,length_range] at lz;have ea:=bS (jG (l:=R'.getD i []) (i:=X.length) (by lia));rw[<- lu] at ea;refine⟨dC.1,dC.2,fL ?_⟩;refine⟨_,rfl,_,rfl,u,_,_,_,rfl,rfl,SqL.of (s3 _ _ hu2),ea,?_⟩;rw[lu];refine⟨_,rfl,d,_,rfl,rL (s3 _ _ ed) |>.2.2.1,_,_,bw n X.length,rfl,pn,bp,bits4,fun r H4 s4 e4=>?_⟩;have eD:=s4 _ _ e3;refine⟨eD,bL (by lia),hC _ _ ⟨(s3.trans s4).change hD2,aD,?_⟩⟩;rw[range_succ,map_append];exact((F3.same s4).app (.cons (Fq.of e4) .nil)).upd eD
  rintro ws H3 ⟨s3,e3,F3⟩;rw[lzE] at F3;have gd:∀j,j < X.length->((List.range X.length).map fun i=>red (Mq.ent R' i X.length) pivot).getD j Mq.z0=red (Mq.ent R' j X.length) pivot:=fun j hj=>by
   rw[getD_eq_getElem?_getD,getElem?_map,getElem?_range hj];rfl
  refine q D2 ws _ H3 (s02.trans s3) (s02.free hD2) e3 F3 ⟨⟨by simp,fun p hp=>?_,fun p hp=>?_,fun i hi=>?_⟩,fun v hv j hj=>?_⟩ (Qp pn bp fun p hp=>by obtain⟨i,hi,rfl⟩:=mem_map.mp hp;exact⟨_,bE i X.length,rfl⟩)
  ·obtain⟨i,_,rfl⟩:=mem_map.mp hp;exact gE pn
  ·obtain⟨i,hi,rfl⟩:=mem_map.mp hp;have le:=lP (t:=Mq.ent R' i X.length) pn;exact⟨((bE i X.length).le le.1).mono bits4,(bp.le le.2).mono bits4⟩
  ·rw[<- Xp xP qP ql hw LE.1 SE hi];refine aP fun j hj=>?_;rw[gd j hj,iJ pn];rfl
  ·rw[gd j hj,iJ pn,<- Zc xP qP ql hw LE.2 SE hv hj];rfl
abbrev wHo:Kd->Bool:=fun k=>inV (.str k.wd) [.str "hold"]
def Vb (CN:Addr)(K:Frag):Sp:=fun vs H Q _=>∃(n l:Addr) (m:Nat) (ds:List RD),vs=[.ref n]/\eO CN K H n l (m:Int) ds/\(∀d∈ds,cH (m:Int) d.2.1 d.2.2.1)/\1<=m/\m<=20/\ds.length<=40/\(eQ wHo (skl ds) ds.length).2=[]/\Pj m ds=[]/\∀H',aT H H'->Q .non H'
abbrev Wg:Stmt:=top 67
theorem Kc:aQ ["net","held","points"] ["net"] (aH Wg):=sK9 rfl rfl rfl rfl (by decide +kernel)
theorem Wn {dV:Value}(F:aU K "refuse_unanswered" "refuse_unanswered" Wg dV f fd){CN:Addr}(ml:mg "len"=none)(G1:aM P w K mg base CX0 5 g1 gd1 ["net","words"] (Fj CN K))(b1:aL K gd1 ["net","words"] [])(k1:kI9 K g1)(m1:mI9 mg "rings" g1)(G2:aM P w K mg base CX0 6 g2 gd2 ["net"] (Fp CN K))(b2:aL K gd2 ["net"] [])(k2:kI9 K g2)(m2:mI9 mg "floating" g2) :
  aM P w K mg base CX 7 f fd ["net"] (Vb CN K):=by
 refine F.ok Kc (fun vs H Q E h=>?_) fun cdv A outer s H vs Q E hr h=>?_
 ·obtain⟨_,_,_,_,rfl,_⟩:=h;rfl
 obtain⟨n,l,m,ds,rfl,nt,pt,mo,m20,h40,hR,hF,q⟩:=h;have r5:=hr.mono (show 5<=6 by lia);refine⟨_,(aB (aR (i:=1) Kc.nd rfl (Or.inl rfl) (aG G1 r5 rfl m1 k1 b1 .nil aK (aA (pv 0) (aA (cT (aA cS aC)) aC))))
  (aB (cC (bF vZ (bO bG rfl ml PySem.boot_len (aA (pv 1) aC)) aE (bH _)) (aF eT) bK)
  (aB (aR (i:=2) Kc.nd rfl (Or.inl rfl) (aG G2 hr rfl m2 k2 b2 .nil aK (aA (pv 0) aC)))
  (aF (cC (bF vZ (bO bG rfl ml PySem.boot_len (aA (pv 2) aC)) aE (bH _)) (aF eT) bK))))),?_⟩
 refine⟨_,rfl,zl9 1,fun L hL=>?_⟩;have s1:=aI hL (.lst [.str "hold"]);have e1:upd H L (.lst [.str "hold"]) L=some (.lst [.str "hold"]):=aD;generalize upd H L (.lst [.str "hold"])=H1 at s1 e1 ⊢;refine⟨n,l,.ref L,m,ds,wHo,rfl,nt.same s1,pt,m20,h40,.seq (SqL.of e1) rfl,fun r us H2 s2 nr er G nx=>?_⟩;rw[hR] at G;have lu:us=[]:=eq_nil_of_length_eq_zero (by have:=G.l;simpa using this);subst lu;refine⟨_,rfl,r,_,rfl,.inl (SqL.of er),_,_,rfl,rfl,_,rfl,L2.ifF rfl ?_⟩;have s02:=s1.trans s2;refine⟨_,rfl,n,l,m,ds,rfl,nt.same s02,pt,mo,m20,by lia,fun l' H3 s3 nl e3=>?_⟩;rw[hF] at e3;refine⟨_,rfl,l',_,rfl,.inl (SqL.of e3),_,_,rfl,rfl,_,rfl,L2.ifF rfl ?_⟩;exact q H3 (s02.trans s3)
theorem Fy {K:Frag}{H0 H:Hp}{D:Addr}:∀{us:List V} {X:List (List Q2)},Fms K H0 H us X->(∀x∈us,x≠.ref D)->Fmd K H0 D H us X
 | [],[],_,_=>.nil
 | [],_ :: _,h,_=>by have:=h.l;simp at this
 |_ :: _,[],h,_=>by have:=h.l;simp at this
 |x :: us,ps :: X,h,n=>by
  obtain⟨a,xs,rfl,n0,h1,h2⟩:=h.r 0 x ps rfl rfl;exact .cons n0 (fun z=>n _ (mem_cons_self ..) (by rw[z])) h1 h2 (Fy ⟨by have:=h.l;simpa using this,fun i y qs e1 e2=>h.r (i+1) y qs (by simpa using e1) (by simpa using e2)⟩ fun y hy=>n y (mem_cons_of_mem _ hy))
theorem Zj (xs:List V)(k:Nat):kW xs none (some (k:Int))=xs.take k:=by
 unfold kW;have h1:HT.sIx xs.length 0 none=0:=rfl;have h2:HT.sIx xs.length xs.length (some (k:Int))=min k xs.length:=by simp[HT.sIx];lia
 rw[h1,h2,drop_zero,Nat.sub_zero,take_eq_take_iff];lia
theorem Fqs.take {K:Frag}{H:Hp}:∀(k:Nat) {xs:List V} {ps:List Q2},Fqs K H xs ps->Fqs K H (xs.take k) (ps.take k)
 |0,_,_,h=>.nil
 |_+1,_,_,.nil=>.nil
 |k+1,_,_,.cons f q=>.cons f (Fqs.take k q)
theorem Tr (k:Kd):wHo k=true↔k=.ho:=by
 cases k
 ·exact⟨fun h=>absurd h (by decide +kernel),fun h=>by cases h⟩
 ·exact⟨fun h=>absurd h (by decide +kernel),fun h=>by cases h⟩
 ·exact⟨fun _=>rfl,fun _=>by decide +kernel⟩
theorem Tq {m:Nat}{ds:List RD}(o:Nof m ds):Pj m ds=[]:=by
 unfold Pj;rw[filter_eq_nil_iff.mpr fun p hp=>?_]
 ·rfl
 ·have pm:=mem_range.mp hp;rw[(zV o.pt pm (by have:=o.m1;lia)).mpr (o.cn p pm).symm];simp
theorem Uf {H:Hp}{x dx C:Addr}(hx:H x=none)(hd:H dx=none):aT H (upd (upd H dx (.own x)) x (.ins C dx [])):=fun b o h=>by
 have n1:b≠x:=fun z=>by rw[z,hx] at h;cases h
 have n2:b≠dx:=fun z=>by rw[z,hd] at h;cases h
 rw[aW n1,aW n2];exact h
abbrev Wi:Stmt:=top 81
theorem qb2:aQ ["net","matrix","right"] ["net","matrix","right"] (aH Wi):=sK9 rfl rfl rfl rfl (by decide +kernel)
theorem Xd {dV:Value}(F:aU K "heights_by" "heights_by" Wi dV f fd){CN:Addr}(NTx:NT K mg CN){aN:Addr}(fN:∀H,Fq K H aN (0,1))(mNO:mI9 mg "NOUGHT" aN){gMa:Addr}{gdMa:FuncData}(GMa:aM P w K mg base CX0 1 gMa gdMa ["self"] (kL CN K))(bMa:aL K gdMa ["self"] [])(mMa:fR K CN "many" gMa)(G1:aM P w K mg base CX0 5 g1 gd1 ["matrix","right"] (vI K))(b1:aL K gd1 ["matrix","right"] [])(k1:kI9 K g1)(m1:mI9 mg "solved" g1) :
  aM P w K mg base CX 6 f fd ["net","matrix","right"] (Va CN K):=by
 refine F.ok qb2 (fun vs H Q E h=>?_) fun cdv A outer s H vs Q E hr h=>?_
 ·obtain⟨_,_,_,_,_,_,_,_,_,_,_,_,_,_,_,_,rfl,_⟩:=h;rfl
 obtain⟨n,l,g,r,D,H0,m,b,N,L,ds,us,ys,X,Y,qs,rfl,nt,hg,FX,EO,EB,hr0,FQ,lq,h01,q⟩:=h;have r1:=hr.mono (show 1<=5 by lia);refine⟨_,(aF (aV (aY tG (cT (aA (cW (v:=.ref aN) rfl mNO rfl) aC)) (hJ iX (aG G1 hr rfl m1 k1 b1 .nil aK (aA (pv 1) (aA (pv 2) aC))) mP (gV (aY jY (dH (pv 0) NTx.cl mMa GMa r1 bMa .nil aK) aE)))))),?_⟩;have lX:X.length=wd m ds:=EO.x.h;have lw:wd m ds=m - 1+cJ ds:=rfl;have mo:=EB.o.m1;have w26:=EB.w26;refine⟨zl9 1,fun L1 hL1=>?_⟩;have s1:=aI hL1 (.lst [.ref aN]);have e1:upd H L1 (.lst [.ref aN]) L1=some (.lst [.ref aN]):=aD;generalize upd H L1 (.lst [.ref aN])=H1 at s1 e1 ⊢;refine⟨_,rfl,_,rfl,g,r,D,H0,us,ys,X,qs,b,b,rfl,s1.seq hg,FX.same s1,s1.seq hr0,FQ.same s1,lq,fun p hp=>(h01 p hp).1,fun p hp=>(h01 p hp).bd EB.b1,EqB.pos EO,fun row hr=>⟨fun p hp=>((EB.cell EO row hr).1 p hp).1,(EB.cell EO row hr).2⟩,by lia,by rw[lX];exact EB.hb,Rz (EqB.pos EO) (fun p hp=>(h01 p hp).1.pos) lq (fun row hr p hp=>((EB.cell EO row hr).1 p hp).2) (fun p hp=>(h01 p hp).ov EB.L1 EB.LB) EB.L1,EB.b1,by rw[lX];exact Nat.le_trans EB.hbw (by decide),EB.wgt EO,fun kn zk ps H2 s2 nkn ekn Fk SU OV=>?_⟩;rw[lX] at OV;have s02:=s1.trans s2;obtain⟨dn,hn⟩:=(nt.same s02).ob;have lps:ps.length=X.length:=SU.len;have lzk:=Fk.length;refine⟨_,rfl,n,dn,_,rfl,hn,dA _ _ (by decide +kernel) (by decide +kernel),n,l,_,ds,rfl,nt.same s02,_,_,rfl,rfl,?_⟩;have em:(m:Int) - 1=((m - 1:Nat):Int):=by lia
 refine⟨_,rfl,kn,zk,rfl,SqL.of ekn,fun S hS=>?_⟩;rw[em,Zj];have s3:=aI hS (.lst (zk.take (m - 1)));have e3:upd H2 S (.lst (zk.take (m - 1))) S=some (.lst (zk.take (m - 1))):=aD;generalize upd H2 S (.lst (zk.take (m - 1)))=H3 at s3 e3 ⊢;refine⟨L1,S,_,_,rfl,rfl,(s2.trans s3) _ _ e1,e3,Nat.le_of_lt (bL (by rw[length_take];simp only[length_cons,length_nil];lia)),fun V1 hV1=>?_⟩;have s4:=aI hV1 (.lst ([.ref aN]++zk.take (m - 1)));have e4:upd H3 V1 (.lst ([.ref aN]++zk.take (m - 1))) V1=some (.lst ([.ref aN]++zk.take (m - 1))):=aD;generalize upd H3 V1 (.lst ([.ref aN]++zk.take (m - 1)))=H4 at s4 e4 ⊢;exact q V1 _ ps H4 (s02.trans (s3.trans s4)) e4 (.cons (fN _) (Fqs.take _ (Fk.same (s3.trans s4)))) SU OV
theorem qf4 (s g x:Nat):- dl s g x*Mq.val (1,1)=un g x - un s x:=by
 rw[Ge];unfold dl un
 by_cases a:s=x<;>by_cases b:g=x
 ·rw[if_pos a,if_pos b,if_pos b.symm,if_pos a.symm];grind
 ·rw[if_pos a,if_neg b,if_neg (fun z=>b z.symm),if_pos a.symm];grind
 ·rw[if_neg a,if_pos b,if_pos b.symm,if_neg (fun z=>a z.symm)];grind
 ·rw[if_neg a,if_neg b,if_neg (fun z=>b z.symm),if_neg (fun z=>a z.symm)];grind
theorem Yl (g s x:Nat):∃a:Int,a.natAbs<=1/\un g x - un s x=(a:Rat) / ((1:Int):Rat):=by
 have one:((1:Int):Rat)=1:=rfl;unfold un
 by_cases a:x=g<;>by_cases b:x=s
 ·exact⟨0,by decide,by rw[if_pos a,if_pos b,one,show ((0:Int):Rat)=0 by rfl];grind⟩
 ·exact⟨1,by decide,by rw[if_pos a,if_neg b,one];grind⟩
 ·exact⟨-1,by decide,by rw[if_neg a,if_pos b,one,show ((-1:Int):Rat)=-1 by rfl];grind⟩
 ·exact⟨0,by decide,by rw[if_neg a,if_neg b,one,show ((0:Int):Rat)=0 by rfl];grind⟩
abbrev Yh:Stmt:=top 80
theorem Od:aQ ["net","start","goal","matrix","right"] ["net","start","goal"] (aH Yh):=sK9 rfl rfl rfl rfl (by decide +kernel)
theorem Ws {dV:Value}(F:aU K "pushed_heights" "pushed_heights" Yh dV f fd){CN:Addr}(T:RT K mg CR CK)(ml:mg "len"=none){aN aO:Addr}(fN:∀H,Fq K H aN (0,1))(mNO:mI9 mg "NOUGHT" aN)(fO:∀H,Fq K H aO (1,1))(mON:mI9 mg "ONE" aO){gI:Addr}{gdI:FuncData}(GI:aM P w K mg base CX0 1 gI gdI ["self","start","goal","size"] (wU CK))(bI:aL K gdI ["self","start","goal","size"] [])(MK:∀k,Mk K (CK k) gI)(G1:aM P w K mg base CX0 7 g1 gd1 ["net"] (Ds CN K))(b1:aL K gd1 ["net"] [])(k1:kI9 K g1)(m1:mI9 mg "equations" g1)(G2:aM P w K mg base CX0 5 g2 gd2 ["right","row"] (tN K CK))(b2:aL K gd2 ["right","row"] [])(k2:kI9 K g2)(m2:mI9 mg "enter_push" g2)(G3:aM P w K mg base CX0 6 g3 gd3 ["net","matrix","right"] (Va CN K))(b3:aL K gd3 ["net","matrix","right"] [])(k3:kI9 K g3)(m3:mI9 mg "heights_by" g3) :
  aM P w K mg base CX 8 f fd ["net","start","goal"] (Uw CN K):=by
 refine F.ok Od (fun vs H Q E h=>?_) fun cdv A outer s H vs Q E hr h=>?_
 ·obtain⟨_,_,_,_,_,_,_,_,_,rfl,_⟩:=h;rfl
 obtain⟨n,l,m,b,kb,L,ds,s,g,rfl,NB,hs,hg,q⟩:=h;have r2:=hr.mono (show 2<=7 by lia);have r5:=hr.mono (show 5<=7 by lia);have r6:=hr.mono (show 6<=7 by lia);have r7:=hr;refine⟨_,(aB (aR (i:=3) Od.nd rfl (Or.inl rfl) (aS aX (aG G1 r7 rfl m1 k1 b1 .nil aK (aA (pv 0) aC)) aE (fun _ _=>rfl)))
  (aB (aR (i:=4) Od.nd rfl (Or.inl rfl) (aY Ci (cT (aA (cW (v:=.ref aN) rfl mNO rfl) aC)) (aY eE (bO bG rfl ml PySem.boot_len (aA (pv 3) aC)) aE)))
  (aB (bN (aG G2 r5 rfl m2 k2 b2 .nil aK (aA (pv 4) (aA (mS (MK .pu) GI r2 rfl (T.mK .pu) bI .nil aK (aA (pv 1) (aA (pv 2) (aA (cW (v:=.ref aO) rfl mON rfl) aC)))) aC))))
  (aF (aV (aG G3 r6 rfl m3 k3 b3 .nil aK (aA (pv 0) (aA (pv 3) (aA (hJ iX (pv 4) (gV aE) mP) aC))))))))),?_⟩
 have EB:=NB.eb;have mo:=EB.o.m1;have w26:=EB.w26;refine⟨_,rfl,n,l,m,kb,ds,rfl,NB.nt,NB.ok,mo,NB.m20,NB.h40,NB.cu,fun tt p r us ys X Y H1 s1 et np nr ep er FM FY nx EO=>?_⟩;have lX:X.length=wd m ds:=EO.x.h;have lus:=FM.l;refine⟨tt,_,0,_,rfl,rfl,SqT.of et,rfl,?_⟩;obtain⟨W,hW⟩:∃W,W=wd m ds:=⟨_,rfl⟩
 rw[<- hW] at w26;have lusW:us.length=W:=by rw[lus,lX,hW]
 refine⟨zl9 1,fun l1 hl1=>?_⟩;have s2:=aI hl1 (.lst [.ref aN]);have e2:upd H1 l1 (.lst [.ref aN]) l1=some (.lst [.ref aN]):=aD;generalize upd H1 l1 (.lst [.ref aN])=H2 at s2 e2 ⊢;have eW:(us.length:Int)+1=((W+1:Nat):Int):=by lia
 refine⟨_,rfl,p,us,rfl,.inl (SqL.of (s2 _ _ ep)),_,_,rfl,rfl,l1,_,[.ref aN],rfl,rfl,e2,by lia,by lia,?_,fun Rr hR=>?_⟩
 ·rw[eW,Int.toNat_natCast,sizeLine_eq];simp only[length_cons,length_nil];lia
 rw[eW,Int.toNat_natCast,mB];have nR1:H1 Rr=none:=s2.free hR;have s3:=aI hR (.lst (replicate (W+1) (.ref aN)));have e3:upd H2 Rr (.lst (replicate (W+1) (.ref aN))) Rr=some (.lst (replicate (W+1) (.ref aN))):=aD;generalize upd H2 Rr (.lst (replicate (W+1) (.ref aN)))=H3 at s3 e3 ⊢;refine⟨_,rfl,_,rfl,_,rfl,fun x dx hx hdx nxd=>?_⟩;refine⟨x,dx,.pu,_,_,_,rfl,aD,rfl,?_⟩;have s4:aT H3 (upd (upd (upd H3 dx (.own x)) x (.ins (CK .pu) dx [])) x (.ins (CK .pu) dx (iQ (.int (s:Int)) (.int (g:Int)) (.ref aO)))):=(Uf (C:=CK .pu) hx hdx).change hx;have rw4:Rw CK (upd (upd (upd H3 dx (.own x)) x (.ins (CK .pu) dx [])) x (.ins (CK .pu) dx (iQ (.int (s:Int)) (.int (g:Int)) (.ref aO)))) x .pu (.int (s:Int)) (.int (g:Int)) (.ref aO):=⟨dx,aD⟩
 generalize upd (upd (upd H3 dx (.own x)) x (.ins (CK .pu) dx [])) x (.ins (CK .pu) dx (iQ (.int (s:Int)) (.int (g:Int)) (.ref aO)))=H4 at s4 rw4 ⊢;have ptW:cH ((W+1:Nat):Int) (s:Int) (g:Int):=by
  unfold wd at hW;exact⟨by lia,by lia,by lia,by lia⟩
 have ptm:cH (m:Int) (s:Int) (g:Int):=⟨by lia,by lia,by lia,by lia⟩
 refine⟨Rr,x,aO,_,replicate (W+1) (0,1),(.pu,(s:Int),(g:Int),(1,1)),W+1,1,1,rfl,s4 _ _ e3,mG (fN _) (W+1),yL (W+1),rw4,fO _,ptW,gD,fY,by lia,fun ys' H5 sx5 eR5 F5=>?_⟩;obtain⟨lb5,v5⟩:=Us (d:=(.pu,(s:Int),(g:Int),(1,1))) (h:=0) (m:=m) (yL (W+1)) ptm (by unfold wd at hW;lia) rfl gD fY;have s15:aT H1 H5:=SX.same (s2.trans (s3.trans s4)) sx5 (fun c hc=>by rw[mem_singleton.mp hc];exact nR1);generalize pR (replicate (W+1) (0,1)) (.pu,(s:Int),(g:Int),(1,1))=rs at F5 lb5 v5;have v6:∀k,Mq.val (rs.getD k (0,1))=un g k - un s k:=fun k=>by
  rw[v5,oZ,pQ,<- qf4 s g k];show 0 + - dl ((s:Int)).toNat ((g:Int)).toNat k*Mq.val (1,1)=_;rw[Int.toNat_natCast,Int.toNat_natCast];grind
 have lrs:=lb5.w;refine⟨_,rfl,_,rfl,_,rfl,1,rfl,Rr,_,rfl,SqL.of eR5,fun S hS=>?_⟩;rw[Gg];have s6:=aI hS (.lst (ys'.drop 1));have e6:upd H5 S (.lst (ys'.drop 1)) S=some (.lst (ys'.drop 1)):=aD;generalize upd H5 S (.lst (ys'.drop 1))=H6 at s6 e6 ⊢;have s16:=s15.trans s6;have s06:=s1.trans s16;have gd:∀k,(rs.drop 1).getD k (0,1)=rs.getD (k+1) (0,1):=fun k=>by rw[getD_eq_getElem?_getD,getElem?_drop,Nat.add_comm,<- getD_eq_getElem?_getD]
 refine⟨n,l,p,S,p,H,m,b,_,L,ds,us,_,X,Y,rs.drop 1,rfl,NB.nt.same s06,SqL.of (s16 _ _ ep),(Fy FM (fun x hx=>(nx x hx).1)).same s16,EO,EB,SqL.of e6,Fqs.drop1 (F5.same s6),by rw[length_drop,lrs,lX,<- hW];lia,fun pq hpq=>?_,fun t zs ps H7 s7 e7 F7 SU OV=>?_⟩
 ·obtain⟨k,hk⟩:=getElem?_of_mem hpq;rw[getElem?_drop] at hk;have lo:=(lb5.l pq (mem_of_getElem? hk)).1;have ev:=v6 (1+k);rw[getD_eq_getElem?_getD,hk] at ev;obtain⟨a0,ha0,ea⟩:=Yl g s (1+k);obtain⟨d1,t1⟩:=As lo (show (1:Int)<=1 by decide) (ev.trans ea);have:=Int.le_of_dvd (by decide) d1;have:=lo.pos;exact⟨lo,by lia,by lia⟩
 ·have lps:ps.length=X.length:=SU.len;have lm:m - 1<=ps.length:=by rw[lps,lX];unfold wd;lia
  refine q t zs (lvS m ps) (uP ps) H7 (s06.trans s7) e7 F7 (Qx mo lm) (Ts SU.low) (Zk OV) (EqB.sol EO SU fun i hi=>?_) (fun k hk=>Ro lm hk);show Mq.val ((rs.drop 1).getD i (0,1))=_;rw[gd,v6]
abbrev Xh:Stmt:=top 79
theorem Uv:aQ ["net","a","b","heights"] ["net","a","b"] (aH Xh):=sK9 rfl rfl rfl rfl (by decide +kernel)
theorem Xv {dV:Value}(F:aU K "between" "between" Xh dV f fd){CN:Addr}(NTx:NT K mg CN){gMa:Addr}{gdMa:FuncData}(GMa:aM P w K mg base CX0 1 gMa gdMa ["self"] (kL CN K))(bMa:aL K gdMa ["self"] [])(mMa:fR K CN "many" gMa)(G1:aM P w K mg base CX0 3 g1 gd1 ["some","many"] (Rc K))(b1:aL K gd1 ["some","many"] [])(k1:kI9 K g1)(m1:mI9 mg "refuse_points" g1)(G2:aM P w K mg base CX0 7 g2 gd2 ["net"] (Vb CN K))(b2:aL K gd2 ["net"] [])(k2:kI9 K g2)(m2:mI9 mg "refuse_unanswered" g2)(G3:aM P w K mg base CX0 8 g3 gd3 ["net","start","goal"] (Uw CN K))(b3:aL K gd3 ["net","start","goal"] [])(k3:kI9 K g3)(m3:mI9 mg "pushed_heights" g3)(G4:aM P w K mg base CX0 3 g4 gd4 ["one","other"] (iT K Mq.minus))(b4:aL K gd4 ["one","other"] [])(k4:kI9 K g4)(m4:mI9 mg "minus" g4) :
  aM P w K mg base CX 9 f fd ["net","a","b"] (Nl CN K):=by
 refine F.ok Uv (fun vs H Q E h=>?_) fun cdv A outer s H vs Q E hr h=>?_
 ·obtain⟨_,_,_,_,_,_,_,_,_,rfl,_⟩:=h;rfl
 obtain⟨n,l,m,b,kb,L,ds,x,y,rfl,NB,hx,hy,q⟩:=h;have r1:=hr.mono (show 1<=8 by lia);have r3:=hr.mono (show 3<=8 by lia);have r7:=hr.mono (show 7<=8 by lia);refine⟨_,(aB (bN (aG G1 r3 rfl m1 k1 b1 .nil aK (aA (cT (aA (pv 1) (aA (pv 2) aC))) (aA (dH (pv 0) NTx.cl mMa GMa r1 bMa .nil aK) aC))))
  (aB (bN (aG G2 r7 rfl m2 k2 b2 .nil aK (aA (pv 0) aC)))
  (aB (aR (i:=3) Uv.nd rfl (Or.inl rfl) (aG G3 hr rfl m3 k3 b3 .nil aK (aA (pv 0) (aA (pv 2) (aA (pv 1) aC)))))
  (aF (aV (aG G4 r3 rfl m4 k4 b4 .nil aK (aA (aS bM (pv 3) (pv 1) (fun _ _=>rfl)) (aA (aS bM (pv 3) (pv 2) (fun _ _=>rfl)) aC)))))))),?_⟩
 have EB:=NB.eb;have mo:=EB.o.m1;have m20:=NB.m20;have hbw:=EB.hbw;refine⟨_,rfl,_,rfl,zl9 2,fun L1 hL1=>?_⟩;have s1:=aI hL1 (.lst [.int (x:Int),.int (y:Int)]);have e1:upd H L1 (.lst [.int (x:Int),.int (y:Int)]) L1=some (.lst [.int (x:Int),.int (y:Int)]):=aD;generalize upd H L1 (.lst [.int (x:Int),.int (y:Int)])=H1 at s1 e1 ⊢;obtain⟨dn,hn⟩:=(NB.nt.same s1).ob;refine⟨_,rfl,n,dn,_,rfl,hn,dA _ _ (by decide +kernel) (by decide +kernel),n,l,_,ds,rfl,NB.nt.same s1,?_⟩;refine⟨L1,(x:Int),(y:Int),_,rfl,SqL.of e1,by lia,by lia,by lia,by lia,fun H2 s2=>?_⟩;have s02:=s1.trans s2;refine⟨_,rfl,n,l,m,ds,rfl,NB.nt.same s02,EB.o.pt,mo,m20,NB.h40,vP Tr EB.o.pt m20 EB.o.fr _ (Nat.le_refl _),Tq EB.o,fun H3 s3=>?_⟩;have s03:=s02.trans s3;refine⟨_,rfl,_,rfl,_,rfl,n,l,m,b,kb,L,ds,y,x,rfl,NB.same s03,hy,hx,fun t zs hp v H4 s4 e4 F4 lh low OV SB hv=>?_⟩;have ax:=zY (ps:=hp) (j:=x) (by lia);have ay:=zY (ps:=hp) (j:=y) (by lia);obtain⟨w1,ew1,fw1⟩:=F4.at ax;obtain⟨w2,ew2,fw2⟩:=F4.at ay;have mx:=mem_of_getElem? ax;have my:=mem_of_getElem? ay;obtain⟨bm,b1,b2⟩:=L2.Ovr.minus OV low mx my;have l1:=low _ mx;have l2:=low _ my;refine⟨_,rfl,_,rfl,t,zs,_,_,rfl,rfl,SqL.of e4,bS ew1,_,rfl,_,rfl,t,zs,_,_,rfl,rfl,SqL.of e4,bS ew2,?_⟩;exact⟨w1,w2,_,_,_,_,rfl,fw1,fw2,l1.pos,l2.pos,b1,b2,by lia,fun r H5 s5 e5=>q r _ v H5 (s03.trans (s4.trans s5)) (Fq.of e5) (pI l1.pos l2.pos) bm SB (by rw[pB l1.pos l2.pos,hv x hx,hv y hy])⟩
abbrev yP:Stmt:=top 51
theorem iP:aQ ["matrix","rows","end","bottom","row"] ["matrix"] (aH yP):=sK9 rfl rfl rfl rfl (by decide +kernel)
theorem Jj {dV:Value}(F:aU K "weight" "weight" yP dV f fd){aN:Addr}(fN:∀H,Fq K H aN (0,1))(mNO:mI9 mg "NOUGHT" aN)(ml:mg "len"=none)(G1:aM P w K mg base CX0 2 g1 gd1 ["some"] (Ox K))(b1:aL K gd1 ["some"] [])(k1:kI9 K g1)(m1:mI9 mg "in_wholes" g1)(G2:aM P w K mg base CX0 3 g2 gd2 ["rows","width"] (wZ K))(b2:aL K gd2 ["rows","width"] [])(k2:kI9 K g2)(m2:mI9 mg "eliminated" g2)(G3:aM P w K mg base CX0 2 g3 gd3 ["top","bottom"] gJ)(b3:aL K gd3 ["top","bottom"] [])(k3:kI9 K g3)(m3:mI9 mg "fraction" g3) :
  aM P w K mg base CX 4 f fd ["matrix"] (vQ K):=by
 refine F.ok iP (fun vs H Q E h=>?_) fun cdv A outer s H vs Q E hr h=>?_
 ·obtain⟨_,_,_,_,rfl,_⟩:=h;rfl
 obtain⟨g,D0,us,X,rfl,hU,hX,wx,q⟩:=h;have r2:=hr.mono (show 2<=3 by lia);have hu:=vC hr;refine⟨_,(aB (oJ (i:=1) (nl:=1) (fr:=[]) (Nc:=["row"]) (cl:=[]) iP.nd rfl rfl rfl ⟨rfl,rfl,by decide +kernel,by decide +kernel,fun x c h=>(by cases h),dU rfl,rfl,fun i n h=>(by simp at h)⟩
    (cE (pv 0)) (fun C s3 H3 fp pins=>(aZ (i:=0) Dt rfl (Or.inl rfl))) (fun C s3 H3 fp pins=>fE)
    (fun C s3 H3 fp pins=>(aG G1 r2 rfl m1 k1 b1 .nil aK (aA (pv 0) aC))) rfl)
  (aB (aR (i:=2) iP.nd rfl (Or.inl rfl) (aG G2 hr rfl m2 k2 b2 .nil aK (aA (eI (nl:=1) (fr:=[]) (Nc:=["row"]) (cl:=[]) rfl ⟨rfl,rfl,by decide +kernel,by decide +kernel,fun x c h=>(by cases h),dU rfl,rfl,fun i n h=>(by simp at h)⟩
    (cE (pv 1)) (fun C s3 H3 fp pins=>(aZ (i:=0) Dt rfl (Or.inl rfl))) (fun C s3 H3 fp pins=>fE)
    (fun C s3 H3 fp pins=>(aS (gP (K:=K) rfl) (pv 0) aE (fun _ _=>rfl)))) (aA (bO bG rfl ml PySem.boot_len (aA (pv 0) aC)) aC))))
  (aB (cC (bF tH (jJ hu (pv 2) cS (fun _ _=>rfl)) (bO bG rfl ml PySem.boot_len (aA (pv 0) aC)) (bH _)) (aF (aV (cW (v:=.ref aN) rfl mNO rfl))) bK)
  (aB (aR (i:=3) iP.nd rfl (Or.inl rfl) aE)
  (aB (dB PassesOwn.never rfl (cE (pv 1)) (aZ (i:=4) iP.nd rfl (Or.inl rfl))
   (aF (aR (i:=3) iP.nd rfl (Or.inl rfl) (aY cD (pv 3) (aS aX (pv 4) aE (fun _ _=>rfl))))))
  (aF (aV (aG G3 r2 rfl m3 k3 b3 .nil aK (aA (aY cD (jJ hu (pv 2) cS (fun _ _=>rfl)) (jJ hu (pv 2) cS (fun _ _=>rfl))) (aA (pv 3) aC)))))))))),?_⟩
 have xP:=wx.p;have xB:=wx.b;have x4:=wx.n;have lu:=hX.length;have hw:∀row∈X,row.length=X.length:=fun row h=>(xB row h).2;have lB:∀row∈X,Mq.B 640 (cU row):=wx.l;refine⟨_,rfl,g,rfl,⟨_,hU⟩,fun D1 hD1=>?_⟩;have sD1:=aI hD1 (.lst []);refine cZ (xs:=us) (fun i zs H'=>aT H H'/\H' D1=some (.lst zs)/\Wmx K D1 H' zs ((X.take i).map wh)) ⟨sD1,aD,.nil⟩ (fun i zs H' h=>h.2.1) (fun i zs H' _ h=>h.1.seq hU) ?_ ?_
 ·rintro i zs x H1 hx ⟨s1,e1,W1⟩ C hC;obtain⟨u,ys,row,rfl,er,hu',fu⟩:=hX.get hx;have hi:i < X.length:=(List.getElem?_eq_some_iff.mp er).1;have mem:=mem_of_getElem? er;obtain⟨rb,rl⟩:=xB row mem;have lz:=W1.length;rw[length_map,length_take] at lz;refine⟨dC.1,dC.2,fL ?_⟩;refine⟨_,rfl,u,ys,row,640,rfl,s1.seq hu',fu.same s1,xP row mem,rb,by lia,by rw[rl];lia,fun t l H2 s2 nl ht hl=>?_⟩;have e2:=s2 _ _ e1;have ne:l≠D1:=fun z=>by rw[z,e1] at nl;cases nl
  refine⟨e2,bL (by lia),hC _ _ ⟨(s1.trans s2).change hD1,aD,?_⟩⟩;have ee:(X.take (i+1)).map wh=(X.take i).map wh++[wh row]:=by rw[take_add_one,er,map_append];rfl
  rw[ee];exact((W1.same s2).app (.cons ne ht hl .nil)).upd e2
 rintro zs1 H1 ⟨s1,e1,W1⟩;rw[lu,take_length] at W1;have lz1:=W1.length;rw[length_map] at lz1;refine⟨_,rfl,D1,rfl,⟨_,SqL.of e1⟩,fun D2 hD2=>?_⟩;have sD2:=aI hD2 (.lst []);refine cZ (xs:=zs1) (fun i zs H'=>aT H1 H'/\H' D2=some (.lst zs)/\Imx D2 H' zs ((X.map iw).take i)) ⟨sD2,aD,.nil⟩ (fun i zs H' h=>h.2.1) (fun i zs H' _ h=>h.1.seq (SqL.of e1)) ?_ ?_
 ·rintro i zs x H2 hx ⟨s2,e2,J2⟩ C hC;obtain⟨t,l,r,rfl,er,ht,hl⟩:=W1.get hx;obtain⟨row,erow,rfl⟩:∃row,X[i]?=some row/\r=wh row:=by
   rw[getElem?_map] at er
   cases e:X[i]? with
   |none=>rw[e] at er;cases er
   |some row=>rw[e] at er;cases er;exact⟨row,rfl,rfl⟩
  have lz:=J2.length;rw[length_take,length_map] at lz;have ne:l≠D2:=fun z=>by rw[z,hD2] at hl;cases hl
  refine⟨dC.1,dC.2,fL ?_⟩;refine⟨_,rfl,t,_,_,_,rfl,rfl,s2.seqT ht,rfl,?_⟩;refine⟨e2,bL (by lia),hC _ _ ⟨s2.change hD2,aD,?_⟩⟩;have ee:(X.map iw).take (i+1)=(X.map iw).take i++[iw row]:=by rw[take_add_one,getElem?_map,erow];rfl
  rw[ee];exact(J2.app (.cons ne (s2 _ _ hl) .nil)).upd
 rintro zs2 H2 ⟨s2,e2,J2⟩;rw[lz1,show X.length=(X.map iw).length by simp,take_length] at J2;have sA:=s1.trans s2;have wid:∀i,i < X.length->((X.map iw).getD i []).length=X.length:=fun i hi=>by
  have e:X[i]?=some (X.getD i []):=by rw[getD_eq_getElem?_getD,getElem?_eq_getElem hi];rfl
  rw[Cb hi,pH,hw _ (mem_of_getElem? e)]
 have bd0:=wx.w;have bits4:bw 640 X.length<=3300:=Nat.le_trans (Rh 640 x4) (by decide);refine⟨_,rfl,g,us,rfl,.inl (sA.seq hU),D2,D2,zs2,X.map iw,X.length,X.length,640,fun _=>True,by rw[lu];rfl,SqL.of e2,J2,by simp,wid,Nat.le_refl _,by lia,bd0,by lia,by lia,by lia,trivial,⟨fun _ _ _ _ _ _ _ _ _ _=>trivial,fun _ _ _ _ _ _ _ _ _ _=>trivial⟩,fun d lE zE R' rank pivot sign H3 s3 nd nl ed el IE SE bE bp _=>?_⟩;obtain⟨g1',g2',g3',g4'⟩:=rL ed;have sB:=sA.trans s3;obtain⟨A1,c1,B1,_⟩:=SE.bar;have rm:=B1.rm;clear B1;refine⟨_,rfl,d,_,rfl,g2',_,rfl,g,us,rfl,.inl (sB.seq hU),_,_,rfl,rfl,_,rfl,qC (fun e=>?_) (fun e=>?_)⟩
 ·have e':rank < X.length:=by simp at e;lia
  refine q aN (0,1) H3 sB (fN H3) ⟨by decide,by decide⟩ ⟨Nat.two_pow_pos _,show (1:Nat) < 2 ^ 3400 from Nat.one_lt_two_pow (by lia)⟩ ?_;rw[Nb xP hw SE e'];unfold Mq.val;simp;grind
 have e':rank=X.length:=by simp at e;lia
 subst e';refine⟨_,rfl,D1,rfl,⟨_,SqL.of ((s2.trans s3) _ _ e1)⟩,?_⟩;have W3:=W1.same (s2.trans s3);refine dS (xs:=zs1) (fun i σ H'=>H'=H3/\i<=X.length/\Mq.B (1+640*i) (jF (X.take i))/\∃z,σ=[some (.ref g),some (.ref D1),some (.ref d),some (.int (jF (X.take i))),z]) ⟨rfl,Nat.zero_le _,show (1:Nat) < 2 ^ (1+640*0) by simp,none,rfl⟩ (fun i σ H' _ h=>by rw[h.1];exact SqL.of ((s2.trans s3) _ _ e1)) ?_ ?_
 ·rintro i x σ H' hx ⟨rfl,hi,hb,z,rfl⟩;obtain⟨t,l,r,rfl,er,ht,hl⟩:=W3.get hx;obtain⟨row,erow,rfl⟩:∃row,X[i]?=some row/\r=wh row:=by
   rw[getElem?_map] at er
   cases e:X[i]? with
   |none=>rw[e] at er;cases er
   |some row=>rw[e] at er;cases er;exact⟨row,rfl,rfl⟩
  have hi':i < X.length:=(List.getElem?_eq_some_iff.mp erow).1;have mem:=mem_of_getElem? erow;refine⟨_,rfl,_,rfl,t,_,_,_,rfl,rfl,ht,rfl,cF hb (lB row mem) (by lia) (by lia) ?_⟩;refine⟨rfl,hi',?_,some (.ref t),?_⟩
  ·rw[kR erow];exact(hb.mul (lB row mem)).mono (by lia)
  ·rw[kR erow];rfl
 rintro σ H' ⟨rfl,_,hb,z,rfl⟩;rw[lz1,take_length] at hb;rw[lz1,take_length];have b1:=kT xP X.length (Nat.le_refl _);rw[take_length] at b1;have sgB:Mq.B 1 sign:=by rcases SE.one with z | z<;>rw[z]<;>exact show (1:Nat) < 2 ^ 1 by decide
 refine⟨_,rfl,d,_,rfl,g4',_,rfl,d,_,rfl,g3',cF sgB bp (by lia) (by lia) ⟨_,rfl,_,_,1+640*X.length,rfl,by lia,hb,by lia,fun a4 H4 s4 e4=>?_⟩⟩;have le:=lP (t:=sign*pivot) (show jF X≠0 by lia);exact q a4 _ H4 (sB.trans s4) (Fq.of e4) (gE (by lia)) ⟨((sgB.mul bp).le le.1).mono (by lia),(hb.le le.2).mono (by lia)⟩ (Pc xP hw SE)
def Js (ds:List RD):Prop:=∀d∈ds,d.1≠.ho
def Ek (CN:Addr)(K:Frag):Sp:=fun vs H Q _=>∃(n l:Addr) (m:Int) (ds:List RD),vs=[.ref n]/\eO CN K H n l m ds/\ds.length<=100/\Js ds/\∀H',aT H H'->Q .non H'
abbrev Yy:Stmt:=top 48
theorem Lb:aQ ["net","number","row"] ["net"] (aH Yy):=sK9 rfl rfl rfl rfl (by decide +kernel)
theorem Wo {dV:Value}(F:aU K "refuse_holds" "refuse_holds" Yy dV f fd){CN:Addr}(men:mg "enumerate"=none)(NTx:NT K mg CN)(T:RT K mg CR CK)(GW:∀k,aM P w K mg base CX0 1 (fW k) (fdW k) ["self"] (jC k))(bW:∀k,aL K (fdW k) ["self"] [])(mW:∀k,fR K (CK k) "word" (fW k)){gRo:Addr}{gdRo:FuncData}(GRo:aM P w K mg base CX0 4 gRo gdRo ["self"] (lZ CN K CK))(bRo:aL K gdRo ["self"] [])(mRo:fR K CN "rows" gRo) :
  aM P w K mg base CX 5 f fd ["net"] (Ek CN K):=by
 refine F.ok Lb (fun vs H Q E h=>?_) fun cdv A outer s H vs Q E hr h=>?_
 ·obtain⟨_,_,_,_,rfl,_⟩:=h;rfl
 obtain⟨n,l,m,ds,rfl,nt,h100,nh,q⟩:=h;have r1:=hr.mono (show 1<=4 by lia);refine⟨_,(aF (dB PassesOwn.never rfl (mU rfl men rfl (aA (dH (pv 0) NTx.cl mRo GRo hr bRo .nil aK) aC)) (iY rfl (cK (aZ (i:=1) Lb.nd rfl (Or.inl rfl)) (cK (aZ (i:=2) Lb.nd rfl (Or.inl rfl)) gR)))
   (aF (cC (bF fG (fF (pv 2) T.cl mW GW r1 bW .nil aK) cS (bH _)) (aF eT) bK)))),?_⟩
 obtain⟨dx,hn⟩:=nt.ob;refine⟨_,rfl,n,dx,_,rfl,hn,dA _ _ (by decide +kernel) (by decide +kernel),n,l,_,ds,rfl,nt,h100,fun a xs H1 s1 na ea Rb=>?_⟩;have lxs:=Rb.length;refine⟨a,rfl,⟨_,SqL.of ea⟩,?_⟩;refine Bn (xs:=xs) (fun i σ H'=>aT H1 H'/\∃z1 z2,σ=[some (.ref n),z1,z2]) ⟨aT.refl _,none,none,rfl⟩ (fun i σ H' _ h=>h.1.seq (SqL.of ea)) ?_ ?_
 ·rintro i x σ H2 T2 hx ⟨s2,z1,z2,rfl⟩ hT;have hi:i < ds.length:=by
   have:=(List.getElem?_eq_some_iff.mp hx).1;lia
  obtain⟨⟨k,u,v,p⟩,hd⟩:∃d,ds[i]?=some d:=⟨_,getElem?_eq_getElem hi⟩
  obtain⟨y,z',ey,rw,fz⟩:=Rb.at hd;have ex:x=.ref y:=by rw[ey] at hx;exact(Option.some.inj hx).symm
  subst ex;have sT:=aI hT (.tup [.int (i:Int),.ref y]);refine⟨T2,_,rfl,SqT.of aD,rfl,_,_,rfl,_,_,rfl,rfl,?_⟩;generalize upd H2 T2 (.tup [.int (i:Int),.ref y])=H3 at sT ⊢;obtain⟨dr,hy⟩:=id (rw.same (s2.trans sT));refine⟨_,rfl,k,y,dr,_,rfl,hy,(eU _ _ _ (by decide +kernel) (by decide +kernel) (by decide +kernel)),_,rfl,rfl,_,rfl,?_⟩;have hk:k≠.ho:=nh _ (mem_of_getElem? hd);exact L2.ifF (by show decide (V.str k.wd=V.str Kd.ho.wd)=false;rw[dY];exact decide_eq_false hk) ⟨s2.trans sT,_,_,rfl⟩
 ·rintro σ H2 ⟨s2,z1,z2,rfl⟩;exact q _ (s1.trans s2)
theorem Yu (n:Nat):iK (fun _=>31) n=144*n:=by
 induction n with
 |zero=>rfl
 |succ n ih=>show iK _ n+(4*31+20)=_;rw[ih];lia
theorem Nm {K:Frag}{H0 H:Hp}{D:Addr}:∀{us:List V} {X:List (List Q2)},Fms K H0 H us X->(∀x∈us,x≠.ref D)->Fmx K D H us X
 | [],[],_,_=>.nil
 | [],_ :: _,h,_=>by have:=h.l;simp at this
 |_ :: _,[],h,_=>by have:=h.l;simp at this
 |u :: us,ps :: X,h,n=>by
  obtain⟨a,xs,rfl,_,ha,f⟩:=h.r 0 u ps rfl rfl;exact .cons (fun z=>n (.ref a) (by simp) (by rw[z])) (SqL.of ha) f (Nm ⟨by have:=h.l;simpa using this,fun i x qs e1 e2=>h.r (i+1) x qs (by simpa using e1) (by simpa using e2)⟩ fun x hx=>n x (mem_cons_of_mem _ hx))
theorem Lm {ds:List RD}(h:Js ds):cJ ds=0:=by
 unfold cJ jA;rw[filter_eq_nil_iff.mpr fun d hd=>by simpa using h d hd];rfl
structure Zo (m:Nat) (ds:List RD):Prop where
 r:∀d∈ds,Co (m:Int) d/\Bd 31 d.2.2.2
 h:Js ds
 p:∀d∈ds,PcB d
 l:ds.length<=20
 m1:1<=m
 m5:m<=5
def qe3 (CN:Addr)(K:Frag):Sp:=fun vs H Q _=>∃(n l:Addr) (m:Nat) (ds:List RD),vs=[.ref n]/\eO CN K H n l (m:Int) ds/\Zo m ds/\∀a p H',aT H H'->Fq K H' a p->Low p->Bd 3400 p->Mq.val p=fZ m ds->(Nof m ds->fZ m ds≠0)->Q (.ref a) H'
abbrev sTS:Stmt:=top 72
theorem qi1:aQ ["net"] ["net"] (aH sTS):=sK9 rfl rfl rfl rfl (by decide +kernel)
theorem qc2 {dV:Value}(F:aU K "tree_sum" "tree_sum" sTS dV f fd){CN:Addr}(G1:aM P w K mg base CX0 5 g1 gd1 ["net"] (Ek CN K))(b1:aL K gd1 ["net"] [])(k1:kI9 K g1)(m1:mI9 mg "refuse_holds" g1)(G2:aM P w K mg base CX0 4 g2 gd2 ["matrix"] (vQ K))(b2:aL K gd2 ["matrix"] [])(k2:kI9 K g2)(m2:mI9 mg "weight" g2)(G3:aM P w K mg base CX0 7 g3 gd3 ["net"] (Ds CN K))(b3:aL K gd3 ["net"] [])(k3:kI9 K g3)(m3:mI9 mg "equations" g3) :
  aM P w K mg base CX 8 f fd ["net"] (qe3 CN K):=by
 refine F.ok qi1 (fun vs H Q E h=>?_) fun cdv A outer s H vs Q E hr h=>?_
 ·obtain⟨_,_,_,_,rfl,_⟩:=h;rfl
 obtain⟨n,l,m,ds,rfl,nt,ts,q⟩:=h;have r4:=hr.mono (show 4<=7 by lia);have r5:=hr.mono (show 5<=7 by lia);refine⟨_,(aB (bN (aG G1 r5 rfl m1 k1 b1 .nil aK (aA (pv 0) aC)))
  (aF (aV (aG G2 r4 rfl m2 k2 b2 .nil aK (aA (aS aX (aG G3 hr rfl m3 k3 b3 .nil aK (aA (pv 0) aC)) aE (fun _ _=>rfl)) aC))))),?_⟩
 have l20:=ts.l;have m5:=ts.m5;refine⟨_,rfl,n,l,m,ds,rfl,nt,by lia,ts.h,fun H1 s1=>?_⟩;refine⟨_,rfl,n,l,m,fun _=>31,ds,rfl,nt.same s1,fun i d hd=>ts.r d (mem_of_getElem? hd),ts.m1,by lia,by lia,by rw[Yu];lia,fun t pp rr us ys X Y H2 s2 et np nrr ep err fm FY nxs eq=>?_⟩;have e0:=Lm ts.h;have bx:=eq.x;rw[e0,Nat.add_zero] at bx;obtain⟨wx,ew⟩:=qc3 ts.p ts.l ts.m5 bx (fun i j=>by rw[eq.vx];exact yQ _ _ m ts.h);refine⟨t,_,0,_,rfl,rfl,SqT.of et,rfl,pp,pp,us,X,rfl,SqL.of ep,Nm fm (fun x hx=>(nxs x hx).1),wx,fun a p H3 s3 fa lp bp vp=>?_⟩;refine q a p H3 (s1.trans (s2.trans s3)) fa lp bp (by rw[vp,ew]) fun o=>?_
 by_cases c:m=1
 ·subst c;show (1:Rat)≠0;decide
 ·have:=ts.m1;rw[<- ew];exact o.wgt_ne eq wx.p (fun row h=>(wx.b row h).2) (by rw[bx.h];lia)
def Ed (CN:Addr)(K:Frag):Sp:=fun vs H Q _=>∃(n l:Addr) (m:Int) (ds:List RD),vs=[.ref n]/\eO CN K H n l m ds/\ds.length<=100/\∀l' H',aT H H'->H l'=none->H' l'=some (.lst ((zi (pcs ds)).map V.int))->Q (.ref l') H'
def xG (ds:List RD)(i:Nat):List Nat:=(List.range i).filter (isP ds)
theorem Lz {ds:List RD}{i:Nat}(h:isP ds i=true):xG ds (i+1)=xG ds i++[i]:=by unfold xG;rw[range_succ,filter_append,filter_cons_of_pos h];rfl
theorem Rx {ds:List RD}{i:Nat}(h:¬isP ds i=true):xG ds (i+1)=xG ds i:=by unfold xG;rw[range_succ,filter_append,filter_cons_of_neg h,filter_nil,append_nil]
theorem Mm (ds:List RD)(i:Nat):(xG ds i).length<=i:=by unfold xG;refine Nat.le_trans (length_filter_le _ _) ?_;simp
def Bj (K:Frag):Sp:=fun vs H Q _=>∃(n:Nat) (a:Addr) (ns:List Nat),vs=[.int (n:Int),.ref a]/\SqL K H a ((zi ns).map V.int)/\Q (.bl (cX n ns)) H
theorem lK:(["number","row"]:List Str).Nodup:=by decide +kernel
abbrev Pw:Stmt:=top 74
theorem Wc:aQ ["net"] ["net"] (aH Pw):=sK9 rfl rfl rfl rfl (by decide +kernel)
theorem Ti {dV:Value}(F:aU K "piece_numbers" "piece_numbers" Pw dV f fd){CN:Addr}(men:mg "enumerate"=none)(NTx:NT K mg CN)(T:RT K mg CR CK)(GW:∀k,aM P w K mg base CX0 1 (fW k) (fdW k) ["self"] (jC k))(bW:∀k,aL K (fdW k) ["self"] [])(mW:∀k,fR K (CK k) "word" (fW k)){gRo:Addr}{gdRo:FuncData}(GRo:aM P w K mg base CX0 4 gRo gdRo ["self"] (lZ CN K CK))(bRo:aL K gdRo ["self"] [])(mRo:fR K CN "rows" gRo) :
  aM P w K mg base CX 5 f fd ["net"] (Ed CN K):=by
 refine F.ok Wc (fun vs H Q E h=>?_) fun cdv A outer s H vs Q E hr h=>?_
 ·obtain⟨_,_,_,_,rfl,_⟩:=h;rfl
 obtain⟨n,l,m,ds,rfl,nt,h100,q⟩:=h;have r1:=hr.mono (show 1<=4 by lia);refine⟨_,(aF (aV (eI (nl:=2) (fr:=[]) (Nc:=["number","row"]) (cl:=[]) (g:=(Jr K 2 (jQ (iS 0) (jQ (iS 1) Jx)))) rfl ⟨rfl,rfl,by decide +kernel,by decide +kernel,fun x c h=>(by cases h),dU rfl,rfl,fun i n h=>(by simp at h)⟩
    (mU rfl men rfl (aA (dH (pv 0) NTx.cl mRo GRo hr bRo .nil aK) aC)) (fun C s3 H3 fp pins=>(iY rfl (cK (aZ (i:=0) lK rfl (Or.inl rfl)) (cK (aZ (i:=1) lK rfl (Or.inl rfl)) gR)))) (fun C s3 H3 fp pins=>(iW (bF fG (fF (pv 1) T.cl mW GW r1 bW .nil aK) cS (bH _))))
    (fun C s3 H3 fp pins=>(pv 0))))),?_⟩
 obtain⟨dx,hn⟩:=nt.ob;refine⟨_,rfl,n,dx,_,rfl,hn,dA _ _ (by decide +kernel) (by decide +kernel),n,l,_,ds,rfl,nt,h100,fun a xs H1 s1 na ea Rb=>?_⟩;have lxs:=Rb.length;refine⟨a,rfl,⟨_,SqL.of ea⟩,fun D hD=>?_⟩;have sD:=aI hD (.lst []);refine pG (xs:=xs) (fun i zs H'=>aT H1 H'/\H' D=some (.lst zs)/\zs=(zi (xG ds i)).map V.int) ⟨sD,aD,rfl⟩ (fun i zs H' h=>h.2.1) (fun i zs H' _ h=>h.1.seq (SqL.of ea)) ?_ ?_
 ·rintro i zs x H2 T2 hx ⟨s2,e2,ez⟩ hT C hC;have hi:i < ds.length:=by
   have:=(List.getElem?_eq_some_iff.mp hx).1;lia
  obtain⟨⟨k,u,v,p⟩,hd⟩:∃d,ds[i]?=some d:=⟨_,getElem?_eq_getElem hi⟩
  obtain⟨y,z',ey,rw,fz⟩:=Rb.at hd;have ex:x=.ref y:=by rw[ey] at hx;exact(Option.some.inj hx).symm
  subst ex;have ip:=kF hd;have lz:zs.length<=100:=by rw[ez,length_map,gZ];have:=Mm ds i;lia
  have sT:=aI hT (.tup [.int (i:Int),.ref y]);refine⟨T2,_,rfl,SqT.of aD,rfl,_,_,rfl,_,_,rfl,rfl,lG.1,lG.2,?_⟩;generalize upd H2 T2 (.tup [.int (i:Int),.ref y])=H3 at sT ⊢;obtain⟨dr,hy⟩:=id (rw.same (s2.trans sT));have e3:=sT _ _ e2;refine⟨_,rfl,k,y,dr,_,rfl,hy,(eU _ _ _ (by decide +kernel) (by decide +kernel) (by decide +kernel)),_,rfl,rfl,_,rfl,?_⟩
  by_cases hk:k=.pc
  ·refine L2.ifT (by show decide (V.str k.wd=V.str Kd.pc.wd)=true;rw[dY];exact decide_eq_true hk) ⟨_,rfl,e3,bL (by lia),hC _ _ ⟨(s2.trans sT).change hD,aD,?_⟩⟩;rw[ez,Lz (by rw[ip];exact decide_eq_true hk),qR,map_append];rfl
  ·refine L2.ifF (by show decide (V.str k.wd=V.str Kd.pc.wd)=false;rw[dY];exact decide_eq_false hk) (hC _ _ ⟨s2.trans sT,e3,?_⟩);rw[ez,Rx (by rw[ip,decide_eq_false hk];decide)]
 ·rintro zs H2 ⟨s2,e2,ez⟩;rw[lxs] at ez;exact q D H2 (s1.trans s2) (s1.free hD) (by rw[e2,ez];rfl)
abbrev Xu:Stmt:=top 77
theorem qc9:aQ ["number","numbers"] ["number","numbers"] (aH Xu):=sK9 rfl rfl rfl rfl (by decide +kernel)
theorem Xq {dV:Value}(F:aU K "is_behind" "is_behind" Xu dV f fd)(ml:mg "len"=none) :
  aM P w K mg base CX 1 f fd ["number","numbers"] (Bj K):=by
 refine F.ok qc9 (fun vs H Q E h=>?_) fun cdv A outer s H vs Q E hr h=>?_
 ·obtain⟨_,_,_,rfl,_⟩:=h;rfl
 obtain⟨n,a,ns,rfl,hS,q⟩:=h;refine⟨_,(aF (aV (qa3 (gW fG (bO bG rfl ml PySem.boot_len (aA (pv 1) aC)) aE (bH _)) (uF (gW vZ (pv 0) (aS bM (pv 1) (Gp yN aE) (fun _ _=>rfl)) (bH _)))))),?_⟩;refine⟨_,rfl,a,_,rfl,.inl hS,rfl,_,rfl,?_⟩
 cases e:ns.getLast? with
 |none=>
  have e0:ns=[]:=getLast?_eq_none_iff.mp e;subst e0;exact L2.ifT rfl q
 |some b=>
  obtain⟨pre,rfl⟩:=getLast?_eq_some_iff.mp e;rw[pW] at q;refine L2.ifF (by rw[length_map,gZ,List.length_append];simp;lia) ?_;refine⟨_,rfl,_,rfl,_,rfl,a,_,-1,.int (b:Int),rfl,rfl,hS,?_,_,_,rfl,rfl,?_⟩
  ·rw[qR,map_append];exact Pd _ _
  ·have eq:decide ((b:Int) < (n:Int))=decide (b < n):=by simp
   rw[<- eq] at q;exact q
structure NtP (CN:Addr) (K:Frag) (H:Hp) (n l:Addr) (m:Nat) (ds:List RD):Prop where
 nt:eO CN K H n l (m:Int) ds
 pt:∀d∈ds,cH (m:Int) d.2.1 d.2.2.1
 m1:1<=m
 m2:m<=20
 h:ds.length<=40
theorem NtP.same {CN:Addr}{K:Frag}{H H':Hp}{n l:Addr}{m:Nat}{ds:List RD}(s:aT H H')(h:NtP CN K H n l m ds):NtP CN K H' n l m ds:=⟨h.nt.same s,h.pt,h.m1,h.m2,h.h⟩
def Au (CN:Addr)(K:Frag):Sp:=fun vs H Q _=>∃(n l f D0:Addr) (m:Nat) (ds:List RD) (zs:List V) (F:List (List Nat × List Int)) (H0:Hp),vs=[.ref n,.ref f]/\NtP CN K H n l m ds/\SqL K H f zs/\FsH K H0 D0 H zs F/\(∀x∈F,x.2.length=m/\x.1.length<=50)/\F.length<=100000/\∀f' zs' H',aT H H'->H' f'=some (.lst zs')->FsH K H f' H' zs' (F.flatMap (iA (sgF ds) (pcs ds)))->Q (.ref f') H'
theorem qF {n:Nat}(h:n<=5000000):n < sizeLine:=by rw[sizeLine_eq];lia
theorem Gu {sg:Nat->Nat × Nat}{ps:List Nat}:∀l:List (List Nat × List Int),(l.flatMap (iA sg ps)).length<=l.length*ps.length
 | []=>by simp
 |x :: l=>by
  rw[flatMap_cons,List.length_append,length_cons,Nat.succ_mul];have:(iA sg ps x).length<=ps.length:=by unfold iA;rw[length_map];exact length_filter_le _ _
  have:=Gu (sg:=sg) (ps:=ps) l;lia
def lC (sg:Nat->Nat × Nat)(ps:List Nat)(x:List Nat × List Int)(j:Nat):List (List Nat × List Int):=iA sg (ps.take j) x
theorem Jo {sg:Nat->Nat × Nat}{ps:List Nat}{x:List Nat × List Int}{j n:Nat}(hn:ps[j]?=some n)(h:(cX n x.1 && okJ sg x.2 n)=true):lC sg ps x (j+1)=lC sg ps x j++[(x.1++[n],jnN sg x.2 n)]:=by
 unfold lC iA;rw[take_add_one,hn];show ((ps.take j++[n]).filter _).map _=_;rw[filter_append,map_append,filter_cons_of_pos (p:=fun n=>cX n x.1 && okJ sg x.2 n) h];rfl
theorem Al {sg:Nat->Nat × Nat}{ps:List Nat}{x:List Nat × List Int}{j n:Nat}(hn:ps[j]?=some n)(h:¬(cX n x.1 && okJ sg x.2 n)=true):lC sg ps x (j+1)=lC sg ps x j:=by
 unfold lC iA;rw[take_add_one,hn];show ((ps.take j++[n]).filter _).map _=_;rw[filter_append,map_append,filter_cons_of_neg (p:=fun n=>cX n x.1 && okJ sg x.2 n) h];simp
abbrev Ya:Stmt:=top 76
theorem sV:aQ ["net","found","rows","pieces","larger","numbers","marks","number"] ["net","found"] (aH Ya):=sK9 rfl rfl rfl rfl (by decide +kernel)
theorem Yo {dV:Value}(F:aU K "larger_forests" "larger_forests" Ya dV f fd){CN:Addr}(NTx:NT K mg CN)(T:RT K mg CR CK){gRo:Addr}{gdRo:FuncData}(GRo:aM P w K mg base CX0 4 gRo gdRo ["self"] (lZ CN K CK))(bRo:aL K gdRo ["self"] [])(mRo:fR K CN "rows" gRo)(G1:aM P w K mg base CX0 5 g1 gd1 ["net"] (Ed CN K))(b1:aL K gd1 ["net"] [])(k1:kI9 K g1)(m1:mI9 mg "piece_numbers" g1)(G2:aM P w K mg base CX0 1 g2 gd2 ["number","numbers"] (Bj K))(b2:aL K gd2 ["number","numbers"] [])(k2:kI9 K g2)(m2:mI9 mg "is_behind" g2)(G3:aM P w K mg base CX0 1 g3 gd3 ["marks","row"] (rS K CK))(b3:aL K gd3 ["marks","row"] [])(k3:kI9 K g3)(m3:mI9 mg "joined" g3) :
  aM P w K mg base CX 6 f fd ["net","found"] (Au CN K):=by
 refine F.ok sV (fun vs H Q E h=>?_) fun cdv A outer s H vs Q E hr h=>?_
 ·obtain⟨_,_,_,_,_,_,_,_,_,rfl,_⟩:=h;rfl
 obtain⟨n,l,f,D0,m,ds,zs,F,H0,rfl,NP,hf,FH,hF,h5,q⟩:=h;have r1:=hr.mono (show 1<=5 by lia);have r4:=hr.mono (show 4<=5 by lia);refine⟨_,(aB (aR (i:=2) sV.nd rfl (Or.inl rfl) (dH (pv 0) NTx.cl mRo GRo r4 bRo .nil aK))
  (aB (aR (i:=3) sV.nd rfl (Or.inl rfl) (aG G1 hr rfl m1 k1 b1 .nil aK (aA (pv 0) aC)))
  (aB (aR (i:=4) sV.nd rfl (Or.inl rfl) (cT aC))
  (aB (dB PassesOwn.never rfl (cE (pv 1)) (iY rfl (cK (aZ (i:=5) sV.nd rfl (Or.inl rfl)) (cK (aZ (i:=6) sV.nd rfl (Or.inl rfl)) gR)))
   (aF (dB PassesOwn.never rfl (cE (pv 3)) (aZ (i:=7) sV.nd rfl (Or.inl rfl))
   (aF (cC (PW.pt (rV (eG (aG G2 r1 rfl m2 k2 b2 .nil aK (aA (pv 7) (aA (pv 5) aC)))) (oB (bF jX (aS bM (pv 6) (cI (aS bM (pv 2) (pv 7) (fun _ _=>rfl)) rfl) (fun _ _=>rfl)) (aS bM (pv 6) (cI (aS bM (pv 2) (pv 7) (fun _ _=>rfl)) rfl) (fun _ _=>rfl)) (bH _))))) (aF (bN (pT PySem.F.plainAttrs_list PySem.F.slot_list_append PySem.F.type_list_append fK (pv 4) (aA (eY (aA (aY tG (pv 5) (cT (aA (pv 7) aC))) (aA (aG G3 r1 rfl m3 k3 b3 .nil aK (aA (pv 6) (aA (aS bM (pv 2) (pv 7) (fun _ _=>rfl)) aC))) aC))) aC)))) bK)))))
  (aF (aV (pv 4))))))),?_⟩
 obtain⟨dx,hn⟩:=NP.nt.ob;have h40:=NP.h;have hm20:=NP.m2;refine⟨_,rfl,n,dx,_,rfl,hn,dA _ _ (by decide +kernel) (by decide +kernel),n,l,_,ds,rfl,NP.nt,by lia,fun a xs H1 s1 na ea Rb=>?_⟩;have lxs:=Rb.length;refine⟨_,rfl,n,l,_,ds,rfl,NP.nt.same s1,by lia,fun pl H2 s2 nP eP=>?_⟩;have s02:=s1.trans s2;have pl40:(pcs ds).length<=40:=Nat.le_trans (Ey ds) h40;have pr:=Ka NP.pt;refine⟨zl9 0,fun L hL=>?_⟩;have s3:=aI hL (.lst []);have eL:upd H2 L (.lst []) L=some (.lst []):=aD;generalize upd H2 L (.lst [])=H3 at s3 eL ⊢;have s03:=s02.trans s3;have nL:H L=none:=s02.free hL;have fl:=Gu (sg:=sgF ds) (ps:=pcs ds);refine⟨_,rfl,f,rfl,⟨_,s03.seq hf⟩,?_⟩;refine dS (xs:=zs) (fun i σ H'=>aT H H'/\aT H2 H'/\∃(zL:List V) (z5 z6 z7:Option V),σ=[some (.ref n),some (.ref f),some (.ref a),some (.ref pl),some (.ref L),z5,z6,z7]/\H' L=some (.lst zL)/\FsH K H L H' zL ((F.take i).flatMap (iA (sgF ds) (pcs ds)))) ⟨s03,s3,[],none,none,none,rfl,eL,.nil⟩ (fun i σ H' _ h=>h.1.seq hf) ?_ ?_
 ·rintro i x σ H4 hx ⟨s4,s24,zL,z5,z6,z7,rfl,e4,F4⟩;have hi:i < F.length:=by have:=(List.getElem?_eq_some_iff.mp hx).1;have:=FH.l;lia
  obtain⟨fo,hfo⟩:∃fo,F[i]?=some fo:=⟨_,getElem?_eq_getElem hi⟩
  obtain⟨tt,A,Bm,rfl,hT,hA,hB,_,_,_⟩:=FH.r i x fo hx hfo;obtain⟨lm,l50⟩:=hF fo (mem_of_getElem? hfo);have fi:=fl (F.take i);rw[length_take] at fi;have fi2:min i F.length*(pcs ds).length<=100000*40:=Nat.mul_le_mul (by lia) pl40;refine⟨tt,_,rfl,s4.seqT hT,rfl,_,_,rfl,_,_,rfl,rfl,?_⟩;refine⟨_,rfl,pl,rfl,⟨_,s24.seq (SqL.of eP)⟩,?_⟩;refine dS (xs:=(zi (pcs ds)).map V.int) (fun j σ H'=>aT H H'/\aT H2 H'/\∃(zL:List V) (z7:Option V),σ=[some (.ref n),some (.ref f),some (.ref a),some (.ref pl),some (.ref L),some (.ref A),some (.ref Bm),z7]/\H' L=some (.lst zL)/\FsH K H L H' zL ((F.take i).flatMap (iA (sgF ds) (pcs ds))++lC (sgF ds) (pcs ds) fo j)) ⟨s4,s24,zL,z7,rfl,e4,by show FsH K H L H4 zL (_++[]);rw[append_nil];exact F4⟩ (fun j σ H' _ h=>h.2.1.seq (SqL.of eP)) ?_ ?_
  ·clear F4 e4 s4 s24 z5 z6 z7;rintro j x σ H5 hx ⟨s5,s25,zL,z7,rfl,e5,F5⟩;have hj:j < (pcs ds).length:=by have:=(List.getElem?_eq_some_iff.mp hx).1;rw[length_map,gZ] at this;exact this
   obtain⟨nb,hnb⟩:∃nb,(pcs ds)[j]?=some nb:=⟨_,getElem?_eq_getElem hj⟩
   have ex:x=.int (nb:Int):=by rw[getElem?_map,Cr hnb] at hx;cases hx;rfl
   subst ex;obtain⟨⟨k0,u,v,p⟩,hd,_⟩:=oP (mem_of_getElem? hnb);obtain⟨i0,i1,j0,j1⟩:cH (m:Int) u v:=NP.pt _ (mem_of_getElem? hd);have esg:=kH hd;obtain⟨uN,rfl⟩:∃uN:Nat,u=(uN:Int):=⟨u.toNat,by lia⟩
   obtain⟨vN,rfl⟩:∃vN:Nat,v=(vN:Int):=⟨v.toNat,by lia⟩
   have esg:sgF ds nb=(uN,vN):=esg;obtain⟨y,z',ey,rw0,fz⟩:=Rb.at hd;have rw1:=rw0.same (s2.trans s25);obtain⟨dr,hy⟩:=id rw1;have ea5:=(s2.trans s25) _ _ ea;have gi:∀{q:Nat},q < fo.2.length->atI (fo.2.map V.int) (q:Int)=some (.int (fo.2.getD q 0)):=fun h=>bS (by rw[getElem?_map,getElem?_eq_getElem h,getD_eq_getElem?_getD,getElem?_eq_getElem h];rfl);have lz5:=F5.l;rw[List.length_append] at lz5;have le5:(lC (sgF ds) (pcs ds) fo j).length<=40:=by
    unfold lC iA;rw[length_map];refine Nat.le_trans (length_filter_le _ _) ?_;rw[length_take];lia
   have ok:okJ (sgF ds) fo.2 nb=decide (fo.2.getD uN 0≠fo.2.getD vN 0):=by unfold okJ;rw[esg]
   refine⟨_,rfl,_,rfl,nb,A,fo.1,rfl,SqL.of (s5 _ _ hA),⟨_,rfl,?_⟩⟩
   by_cases hb:cX nb fo.1=true
   ·refine L2.ifT hb ?_;refine⟨_,rfl,_,rfl,_,rfl,a,xs,_,_,rfl,rfl,SqL.of ea5,bS ey,y,CK _,_,_,_,rfl,hy,T.cl _,T.nS _,cY _ _ _,Bm,_,_,_,rfl,rfl,SqL.of (s5 _ _ hB),gi (show uN < fo.2.length by lia),?_⟩;refine⟨_,rfl,_,rfl,_,rfl,a,xs,_,_,rfl,rfl,SqL.of ea5,bS ey,y,CK _,_,_,_,rfl,hy,T.cl _,T.nG _,dP _ _ _,Bm,_,_,_,rfl,rfl,SqL.of (s5 _ _ hB),gi (show vN < fo.2.length by lia),rfl,_,rfl,?_⟩
    by_cases ho:fo.2.getD uN 0=fo.2.getD vN 0
    ·refine L2.ifF (by rw[ho];simp) ?_;refine⟨s5,s25,zL,_,rfl,e5,?_⟩;rw[Al hnb (by rw[ok,decide_eq_false (fun z=>z ho),Bool.and_false];decide)];exact F5
    ·refine L2.ifT (by rw[decide_eq_false (fun z=>ho (by injection z))];rfl) ?_;refine⟨_,rfl,.inl ⟨rfl,_,SqL.of e5⟩,_,rfl,_,rfl,(zl9 1),fun L1 hL1=>?_⟩;have s6:=aI hL1 (.lst [.int (nb:Int)]);have e6:upd H5 L1 (.lst [.int (nb:Int)]) L1=some (.lst [.int (nb:Int)]):=aD;generalize upd H5 L1 (.lst [.int (nb:Int)])=H6 at s6 e6 ⊢;have hA6:=s6 _ _ (s5 _ _ hA);refine⟨A,L1,_,_,rfl,rfl,hA6,e6,Nat.le_of_lt (qF (by rw[length_map,gZ];simp only[length_cons,length_nil];lia)),fun A2 hA2=>?_⟩;have eA:(zi fo.1).map V.int++[V.int (nb:Int)]=(zi (fo.1++[nb])).map V.int:=by rw[qR,map_append];rfl
     rw[eA];have s7:=aI hA2 (.lst ((zi (fo.1++[nb])).map V.int));have e7:upd H6 A2 (.lst ((zi (fo.1++[nb])).map V.int)) A2=some (.lst ((zi (fo.1++[nb])).map V.int)):=aD;generalize upd H6 A2 (.lst ((zi (fo.1++[nb])).map V.int))=H7 at s7 e7 ⊢;have s57:=s6.trans s7;refine⟨_,rfl,_,rfl,_,rfl,a,xs,_,_,rfl,rfl,SqL.of (s57 _ _ ea5),bS ey,Bm,y,fo.2,k0,uN,vN,.ref z',rfl,SqL.of ((s5.trans s57) _ _ hB),rw1.same s57,by lia,by lia,by lia,fun B2 H8 s8 n8 e8=>⟨(zl9 2),fun t2 ht2=>?_⟩⟩;have s9:=aI ht2 (.tup [.ref A2,.ref B2]);have e9:upd H8 t2 (.tup [.ref A2,.ref B2]) t2=some (.tup [.ref A2,.ref B2]):=aD;generalize upd H8 t2 (.tup [.ref A2,.ref B2])=H9 at s9 e9 ⊢;have s59:=s57.trans (s8.trans s9);have e59:=s59 _ _ e5;refine⟨L,zL,_,rfl,rfl,e59,qF (by lia),?_⟩;have nA:A2≠L:=fun z=>by rw[z,s6 _ _ e5] at hA2;cases hA2
     have nB:B2≠L:=fun z=>by rw[z,s57 _ _ e5] at n8;cases n8
     have nA0:H A2=none:=(s5.trans s6).free hA2;refine⟨(s5.trans s59).change nL,(s25.trans s59).change hL,_,_,rfl,aD,?_⟩;rw[Jo hnb (by rw[hb,ok,decide_eq_true ho];rfl),<- List.append_assoc];have ej:jnN (sgF ds) fo.2 nb=jn fo.2 uN vN:=by unfold jnN;rw[esg]
     refine FsH.upd (FsH.snoc (F5.same s59) (SqT.of e9) ((s8.trans s9) _ _ e7) ?_ nA0 nA nB) e59;show H9 B2=some (.lst ((jnN (sgF ds) fo.2 nb).map V.int));rw[ej];exact s9 _ _ e8
   ·refine L2.ifF (by simpa using hb) (fB ?_);refine⟨s5,s25,zL,_,rfl,e5,?_⟩;rw[Al hnb (by rw[show cX nb fo.1=false by simpa using hb,Bool.false_and];decide)];exact F5
  ·rintro σ H5 ⟨s5,s25,zL,z7,rfl,e5,F5⟩;refine⟨s5,s25,zL,_,_,_,rfl,e5,?_⟩;rw[length_map,gZ] at F5;unfold lC at F5;rw[take_length] at F5;rw[take_add_one,hfo,flatMap_append];show FsH K H L H5 zL (_++(iA _ _ fo++[]));rw[append_nil];exact F5
 ·rintro σ H4 ⟨s4,s24,zL,z5,z6,z7,rfl,e4,F4⟩;rw[FH.l,take_length] at F4;exact⟨_,rfl,q L zL H4 s4 e4 F4⟩
def pJ (CN:Addr)(K:Frag):Sp:=fun vs H Q _=>∃(n l:Addr) (m t:Nat) (s:Int) (ds:List RD),vs=[.ref n,.int s]/\t=s.toNat/\-10<=s/\s<=4/\NtP CN K H n l m ds/\(pcs ds).length<=12/\∀f' zs D H',aT H H'->H' f'=some (.lst zs)->FsH K H D H' zs (dZ (sgF ds) (pcs ds) m t)->Q (.ref f') H'
theorem yT {sg:Nat->Nat × Nat}{ps:List Nat}{m t:Nat}(hp:ps.length<=12)(ht:t<=4):(dZ sg ps m t).length<=20736:=
 Nat.le_trans (sK sg ps m t) (Nat.le_trans (Nat.pow_le_pow_left hp t) (Nat.le_trans (Nat.pow_le_pow_right (by decide) ht) (by decide)))
abbrev Pm:Stmt:=top 75
theorem xJ:aQ ["net","size","found","turn"] ["net","size"] (aH Pm):=sK9 rfl rfl rfl rfl (by decide +kernel)
theorem Tb {dV:Value}(F:aU K "forests" "forests" Pm dV f fd){CN:Addr}(mli:mg "list"=none)(mr:mg "range"=none)(NTx:NT K mg CN){gMa:Addr}{gdMa:FuncData}(GMa:aM P w K mg base CX0 1 gMa gdMa ["self"] (kL CN K))(bMa:aL K gdMa ["self"] [])(mMa:fR K CN "many" gMa)(G1:aM P w K mg base CX0 6 g1 gd1 ["net","found"] (Au CN K))(b1:aL K gd1 ["net","found"] [])(k1:kI9 K g1)(m1:mI9 mg "larger_forests" g1) :
  aM P w K mg base CX 7 f fd ["net","size"] (pJ CN K):=by
 refine F.ok xJ (fun vs H Q E h=>?_) fun cdv A outer s H vs Q E hr h=>?_
 ·obtain⟨_,_,_,_,_,_,rfl,_⟩:=h;rfl
 obtain⟨n,l,m,t,sz,ds,rfl,ht,s0,s4,NP,p12,q⟩:=h;have r1:=hr.mono (show 1<=6 by lia);have hm20:=NP.m2;obtain⟨dx,hn⟩:=NP.nt.ob;refine⟨_,(aB (aR (i:=2) xJ.nd rfl (Or.inl rfl) (cT (aA (eY (aA (cT aC) (aA (oN rfl rfl mli rfl mr (aA (dH (pv 0) NTx.cl mMa GMa r1 bMa .nil aK) aC)) aC))) aC)))
  (aB (dB PassesOwn.never rfl (fU rfl mr (aA (pv 1) aC)) (aZ (i:=3) xJ.nd rfl (Or.inl rfl))
   (aF (aR (i:=2) xJ.nd rfl (Or.inl rfl) (aG G1 hr rfl m1 k1 b1 .nil aK (aA (pv 0) (aA (pv 2) aC))))))
  (aF (aV (pv 2))))),?_⟩
 refine⟨zl9 0,fun A hA=>?_⟩;have s1:=aI hA (.lst []);have e1:upd H A (.lst []) A=some (.lst []):=aD;generalize upd H A (.lst [])=H1 at s1 e1 ⊢;refine⟨_,rfl,n,dx,_,rfl,s1 _ _ hn,dA _ _ (by decide +kernel) (by decide +kernel),n,l,_,ds,rfl,NP.nt.same s1,m,rfl,by lia,fun B hB=>?_⟩;have s2:=aI hB (.lst ((List.range m).map fun (i:Nat)=>V.int (i:Int)));have e2:upd H1 B (.lst ((List.range m).map fun (i:Nat)=>V.int (i:Int))) B=some (.lst ((eJ m).map V.int)):=by
  rw[aD];show some (HO.lst _)=some (HO.lst ((eJ m).map V.int));unfold eJ;rw[map_map];rfl
 generalize upd H1 B (.lst ((List.range m).map fun (i:Nat)=>V.int (i:Int)))=H2 at s2 e2 ⊢;refine⟨(zl9 2),fun tt htt=>?_⟩;have s3:=aI htt (.tup [.ref A,.ref B]);have e3:upd H2 tt (.tup [.ref A,.ref B]) tt=some (.tup [.ref A,.ref B]):=aD;generalize upd H2 tt (.tup [.ref A,.ref B])=H3 at s3 e3 ⊢;refine⟨(zl9 1),fun L hL=>?_⟩;have s4':=aI hL (.lst [.ref tt]);have e4:upd H3 L (.lst [.ref tt]) L=some (.lst [.ref tt]):=aD;generalize upd H3 L (.lst [.ref tt])=H4 at s4' e4 ⊢;have s04:=s1.trans (s2.trans (s3.trans s4'));have nAL:A≠L:=fun z=>by rw[<- z,(s2.trans s3) _ _ e1] at hL;cases hL
 have nBL:B≠L:=fun z=>by rw[<- z,s3 _ _ e2] at hL;cases hL
 have F0:FsH K H L H4 [.ref tt] (dZ (sgF ds) (pcs ds) m 0):=FsH.snoc (F:=[]) (f':=([],eJ m)) .nil (s4'.seqT (SqT.of e3)) ((s2.trans (s3.trans s4')) _ _ e1) ((s3.trans s4') _ _ e2) hA nAL nBL;refine⟨_,rfl,sz,rfl,by lia,by lia,?_⟩;rw[<- ht];refine fV (lo:=0) (n:=t) (fun i σ H'=>aT H H'/\∃(f D:Addr) (zs:List V) (z3:Option V),σ=[some (.ref n),some (.int sz),some (.ref f),z3]/\H' f=some (.lst zs)/\FsH K H D H' zs (dZ (sgF ds) (pcs ds) m i)) ⟨s04,L,L,_,none,rfl,e4,F0⟩ ?_ ?_
 ·rintro i σ H5 hi ⟨s5,f,D,zs,z3,rfl,e5,F5⟩;have fl:=yT (sg:=sgF ds) (m:=m) (t:=i) p12 (by lia);refine⟨_,rfl,_,rfl,n,l,f,D,m,ds,zs,_,H,rfl,NP.same s5,SqL.of e5,F5,fun x hx=>?_,by lia,fun f' zs' H6 s6 e6 F6=>?_⟩
  ·have F:=jZ hx;exact⟨by rw[F.e,oT],by rw[F.l];lia⟩
  ·exact⟨s5.trans s6,f',f',zs',_,rfl,e6,F6.from0 fun a h=>s5.free h⟩
 ·rintro σ H5 ⟨s5,f,D,zs,z3,rfl,e5,F5⟩;exact⟨_,rfl,q f zs D H5 s5 e5 F5⟩
def Ll (CN:Addr)(K:Frag):Sp:=fun vs H Q _=>∃(n l:Addr) (m:Int) (ds:List RD),vs=[.ref n]/\eO CN K H n l m ds/\ds.length<=100/\(pcs ds).length<=12/\∀H',aT H H'->Q .non H'
abbrev Wl:Stmt:=top 73
theorem qa5:aQ ["net"] ["net"] (aH Wl):=sK9 rfl rfl rfl rfl (by decide +kernel)
theorem Zf {dV:Value}(F:aU K "refuse_many_pieces" "refuse_many_pieces" Wl dV f fd){CN:Addr}{tM:Tok}(mMP:mg "MOST_PIECES"=some (.int 12 tM))(ml:mg "len"=none)(G1:aM P w K mg base CX0 5 g1 gd1 ["net"] (Ed CN K))(b1:aL K gd1 ["net"] [])(k1:kI9 K g1)(m1:mI9 mg "piece_numbers" g1) :
  aM P w K mg base CX 6 f fd ["net"] (Ll CN K):=by
 refine F.ok qa5 (fun vs H Q E h=>?_) fun cdv A outer s H vs Q E hr h=>?_
 ·obtain⟨_,_,_,_,rfl,_⟩:=h;rfl
 obtain⟨n,l,m,ds,rfl,nt,h100,p12,q⟩:=h;refine⟨_,(aF (cC (bF vZ (bO bG rfl ml PySem.boot_len (aA (aG G1 hr rfl m1 k1 b1 .nil aK (aA (pv 0) aC)) aC)) (cW (v:=.int 12) rfl mMP ⟨_,rfl⟩) (bH _)) (aF eT) bK)),?_⟩;refine⟨_,rfl,n,l,m,ds,rfl,nt,h100,fun l' H1 s1 nl el=>?_⟩;refine⟨l',_,rfl,.inl (SqL.of el),_,_,rfl,rfl,_,rfl,?_⟩;refine L2.ifF (decide_eq_false (by rw[length_map,gZ];lia)) ?_;exact q _ s1
def trL (m:Nat)(ds:List RD):List (List Int):=(dZ (sgF ds) (pcs ds) m (m - 1)).map fun x=>zi x.1
def Ep (CN:Addr)(K:Frag):Sp:=fun vs H Q _=>∃(n l:Addr) (m:Nat) (ds:List RD),vs=[.ref n]/\NtP CN K H n l m ds/\m<=5/\Js ds/\(pcs ds).length<=12/\∀l' us H',aT H H'->H l'=none->H' l'=some (.lst us)->Ils H H' us (trL m ds)->(∀x∈us,x≠.ref l')->Q (.ref l') H'
theorem Gb {H0 H:Hp}{us:List V}{X:List (List Int)}{l:Addr}{o:HO}(f:Ils H0 H us X)(n:∀x∈us,x≠.ref l):Ils H0 (upd H l o) us X:=⟨f.l,fun i x ps h1 h2=>by
 obtain⟨a,e,h,r⟩:=f.r i x ps h1 h2;exact⟨a,e,h,by rw[aW (fun z=>n x (mem_of_getElem? h1) (by rw[e,z]))];exact r⟩⟩
theorem iR {H0 H H':Hp}{us:List V}{X:List (List Int)}(s:aT H H')(f:Ils H0 H us X):Ils H0 H' us X:=⟨f.l,fun i x ps h1 h2=>let ⟨a,e,h,r⟩:=f.r i x ps h1 h2;⟨a,e,h,s _ _ r⟩⟩
theorem Jy:(["forest"]:List Str).Nodup:=by decide +kernel
abbrev Du:Stmt:=top 70
theorem Tu:aQ ["net"] ["net"] (aH Du):=sK9 rfl rfl rfl rfl (by decide +kernel)
theorem Ov {dV:Value}(F:aU K "trees" "trees" Du dV f fd){CN:Addr}(NTx:NT K mg CN){gMa:Addr}{gdMa:FuncData}(GMa:aM P w K mg base CX0 1 gMa gdMa ["self"] (kL CN K))(bMa:aL K gdMa ["self"] [])(mMa:fR K CN "many" gMa)(G1:aM P w K mg base CX0 5 g1 gd1 ["net"] (Ek CN K))(b1:aL K gd1 ["net"] [])(k1:kI9 K g1)(m1:mI9 mg "refuse_holds" g1)(G2:aM P w K mg base CX0 6 g2 gd2 ["net"] (Ll CN K))(b2:aL K gd2 ["net"] [])(k2:kI9 K g2)(m2:mI9 mg "refuse_many_pieces" g2)(G3:aM P w K mg base CX0 7 g3 gd3 ["net","size"] (pJ CN K))(b3:aL K gd3 ["net","size"] [])(k3:kI9 K g3)(m3:mI9 mg "forests" g3) :
  aM P w K mg base CX 8 f fd ["net"] (Ep CN K):=by
 refine F.ok Tu (fun vs H Q E h=>?_) fun cdv A outer s H vs Q E hr h=>?_
 ·obtain⟨_,_,_,_,rfl,_⟩:=h;rfl
 obtain⟨n,l,m,ds,rfl,NP,hm5,nh,p12,q⟩:=h;have r1:=hr.mono (show 1<=7 by lia);have r5:=hr.mono (show 5<=7 by lia);have r6:=hr.mono (show 6<=7 by lia);have h40:=NP.h;have hm1:=NP.m1;refine⟨_,(aB (bN (aG G1 r5 rfl m1 k1 b1 .nil aK (aA (pv 0) aC)))
  (aB (bN (aG G2 r6 rfl m2 k2 b2 .nil aK (aA (pv 0) aC)))
  (aF (aV (eI (nl:=1) (fr:=[]) (Nc:=["forest"]) (cl:=[]) rfl ⟨rfl,rfl,by decide +kernel,by decide +kernel,fun x c h=>(by cases h),dU rfl,rfl,fun i n h=>(by simp at h)⟩
    (cE (aG G3 hr rfl m3 k3 b3 .nil aK (aA (pv 0) (aA (aY jY (dH (pv 0) NTx.cl mMa GMa r1 bMa .nil aK) aE) aC)))) (fun C s3 H3 fp pins=>(aZ (i:=0) Jy rfl (Or.inl rfl))) (fun C s3 H3 fp pins=>fE)
    (fun C s3 H3 fp pins=>(aS (gP (K:=K) rfl) (pv 0) aE (fun _ _=>rfl)))))))),?_⟩
 refine⟨_,rfl,n,l,_,ds,rfl,NP.nt,by lia,nh,fun H1 s1=>?_⟩;refine⟨_,rfl,n,l,_,ds,rfl,NP.nt.same s1,by lia,p12,fun H2 s2=>?_⟩;have s02:=s1.trans s2;obtain⟨dx,hn⟩:=(NP.nt.same s02).ob;refine⟨_,rfl,_,rfl,n,dx,_,rfl,hn,dA _ _ (by decide +kernel) (by decide +kernel),n,l,_,ds,rfl,NP.nt.same s02,_,_,rfl,rfl,n,l,m,m - 1,_,ds,rfl,by lia,by lia,by lia,NP.same s02,p12,fun f zs D0 H3 s3 e3 F3=>?_⟩;have s03:=s02.trans s3;have fl:=yT (sg:=sgF ds) (m:=m) (t:=m - 1) p12 (by lia);have lf:=F3.l;refine⟨f,rfl,⟨_,SqL.of e3⟩,fun D hD=>?_⟩;have sD:=aI hD (.lst []);refine cZ (xs:=zs) (fun i us H'=>aT H3 H'/\H' D=some (.lst us)/\Ils H2 H' us ((trL m ds).take i)/\∀x∈us,x≠.ref D) ⟨sD,aD,⟨rfl,fun i x ps h=>by simp at h⟩,fun x hx=>by cases hx⟩ (fun i us H' h=>h.2.1) (fun i us H' _ h=>h.1.seq (SqL.of e3)) ?_ ?_
 ·rintro i us x H4 hx ⟨s4,e4,I4,n4⟩ C hC;have hi:i < (dZ (sgF ds) (pcs ds) m (m - 1)).length:=by have:=(List.getElem?_eq_some_iff.mp hx).1;lia
  obtain⟨fo,hfo⟩:∃fo,(dZ (sgF ds) (pcs ds) m (m - 1))[i]?=some fo:=⟨_,getElem?_eq_getElem hi⟩
  obtain⟨tt,A,Bm,rfl,hT,hA,hB,nA,_,_⟩:=F3.r i x fo hx hfo;have lz:=I4.l;rw[length_take] at lz;have lt:(trL m ds).length=(dZ (sgF ds) (pcs ds) m (m - 1)).length:=by unfold trL;rw[length_map]
  have nAD:A≠D:=fun z=>by rw[z] at hA;rw[hA] at hD;cases hD
  refine⟨dC.1,dC.2,fL ?_⟩;refine⟨_,rfl,tt,_,_,_,rfl,rfl,s4.seqT hT,rfl,?_⟩;refine⟨e4,qF (by lia),hC _ _ ⟨s4.change hD,aD,?_,fun y hy=>?_⟩⟩
  ·have et:(trL m ds)[i]?=some (zi fo.1):=by unfold trL;rw[getElem?_map,hfo];rfl
   rw[take_add_one,et];refine Gb (Ils.snoc I4 nA (s4 _ _ hA)) fun y hy=>?_;rcases mem_append.mp hy with z | z
   ·exact n4 y z
   ·have:y=.ref A:=by simpa using z
    rw[this];exact fun z=>nAD (by injection z)
  ·rcases mem_append.mp hy with z | z
   ·exact n4 y z
   ·have:y=.ref A:=by simpa using z
    rw[this];exact fun z=>nAD (by injection z)
 ·rintro us H4 ⟨s4,e4,I4,n4⟩;rw[lf,show (dZ (sgF ds) (pcs ds) m (m - 1)).length=(trL m ds).length by unfold trL;rw[length_map],take_length] at I4;exact q D us H4 (s03.trans s4) (s03.free hD) e4 (I4.from0 fun a h=>s02.free h) n4
def Iw (a b:Nat)(M:List Int):Bool:=decide (M.getD a 0≠M.getD b 0)
def ptF (m:Nat)(ds:List RD)(a b:Nat):List (List Nat × List Int):=(dZ (sgF ds) (pcs ds) m (m - 2)).filter fun x=>Iw a b x.2
def ptL (m:Nat)(ds:List RD)(a b:Nat):List (List Int):=(ptF m ds a b).map fun x=>zi x.1
def Bv (CN:Addr)(K:Frag):Sp:=fun vs H Q _=>∃(n l:Addr) (m a b:Nat) (ds:List RD),vs=[.ref n,.int (a:Int),.int (b:Int)]/\NtP CN K H n l m ds/\m<=5/\a < m/\b < m/\Js ds/\(pcs ds).length<=12/\∀l' us H',aT H H'->H l'=none->H' l'=some (.lst us)->Ils H H' us (ptL m ds a b)->(∀x∈us,x≠.ref l')->Q (.ref l') H'
theorem Aa {α β:Type}{p:α->Bool}{f:α->β}{l:List α}{i:Nat}{x:α}(h:l[i]?=some x):((l.take (i+1)).filter p).map f=((l.take i).filter p).map f++(if p x then [f x] else []):=by
 rw[take_add_one,h,filter_append,map_append];congr 1;show (List.filter p [x]).map f=_
 cases e:p x<;>simp[List.filter,e]
theorem Si {ds:List RD}{m t:Nat}{fo:List Nat × List Int}(h:fo∈dZ (sgF ds) (pcs ds) m t):fo.2.length=m:=by
 rw[(jZ h).e,oT]
theorem uO:(["forest","b","a"]:List Str).Nodup:=by decide +kernel
abbrev Nd:Stmt:=top 71
theorem Xo:aQ ["net","a","b"] ["net","a","b"] (aH Nd):=sK9 rfl rfl rfl rfl (by decide +kernel)
theorem Qj {dV:Value}(F:aU K "partings" "partings" Nd dV f fd){CN:Addr}(NTx:NT K mg CN){gMa:Addr}{gdMa:FuncData}(GMa:aM P w K mg base CX0 1 gMa gdMa ["self"] (kL CN K))(bMa:aL K gdMa ["self"] [])(mMa:fR K CN "many" gMa)(G1:aM P w K mg base CX0 5 g1 gd1 ["net"] (Ek CN K))(b1:aL K gd1 ["net"] [])(k1:kI9 K g1)(m1:mI9 mg "refuse_holds" g1)(G2:aM P w K mg base CX0 6 g2 gd2 ["net"] (Ll CN K))(b2:aL K gd2 ["net"] [])(k2:kI9 K g2)(m2:mI9 mg "refuse_many_pieces" g2)(G3:aM P w K mg base CX0 7 g3 gd3 ["net","size"] (pJ CN K))(b3:aL K gd3 ["net","size"] [])(k3:kI9 K g3)(m3:mI9 mg "forests" g3)(G4:aM P w K mg base CX0 3 g4 gd4 ["some","many"] (Rc K))(b4:aL K gd4 ["some","many"] [])(k4:kI9 K g4)(m4:mI9 mg "refuse_points" g4) :
  aM P w K mg base CX 8 f fd ["net","a","b"] (Bv CN K):=by
 refine F.ok Xo (fun vs H Q E h=>?_) fun cdv A outer s H vs Q E hr h=>?_
 ·obtain⟨_,_,_,_,_,_,rfl,_⟩:=h;rfl
 obtain⟨n,l,m,a,b,ds,rfl,NP,hm5,ha,hb,nh,p12,q⟩:=h;have r1:=hr.mono (show 1<=7 by lia);have r3:=hr.mono (show 3<=7 by lia);have r5:=hr.mono (show 5<=7 by lia);have r6:=hr.mono (show 6<=7 by lia);have h40:=NP.h;have hm1:=NP.m1;refine⟨_,(aB (bN (aG G4 r3 rfl m4 k4 b4 .nil aK (aA (cT (aA (pv 1) (aA (pv 2) aC))) (aA (dH (pv 0) NTx.cl mMa GMa r1 bMa .nil aK) aC))))
  (aB (bN (aG G1 r5 rfl m1 k1 b1 .nil aK (aA (pv 0) aC)))
  (aB (bN (aG G2 r6 rfl m2 k2 b2 .nil aK (aA (pv 0) aC)))
  (aF (aV (eI (nl:=1) (fr:=[2,1]) (Nc:=["forest","b","a"]) (cl:=[("b",s.heap.objs.size+2),("a",s.heap.objs.size+1)]) rfl ⟨rfl,rfl,by decide +kernel,by decide +kernel,(dR rfl (dR rfl (oM))),dU rfl,rfl,fun i n h=>match i,h with | 0,h=>by cases h;exact⟨2,rfl,rfl,rfl,rfl,.inl rfl⟩ | 1,h=>by cases h;exact⟨1,rfl,rfl,rfl,rfl,.inl rfl⟩ | k+2,h=>by rw[show 1+(k+2)=k+3 by lia] at h;cases h⟩
    (cE (aG G3 hr rfl m3 k3 b3 .nil aK (aA (pv 0) (aA (aY jY (dH (pv 0) NTx.cl mMa GMa r1 bMa .nil aK) aE) aC)))) (fun C s3 H3 fp pins=>(aZ (i:=0) uO rfl (Or.inl rfl))) (fun C s3 H3 fp pins=>(iW (bF jX (aS (jV (K:=K) rfl) (aS (gP (K:=K) rfl) (pv 0) aE (fun _ _=>rfl)) (pv 2) (fun _ _=>rfl)) (aS (jV (K:=K) rfl) (aS (gP (K:=K) rfl) (pv 0) aE (fun _ _=>rfl)) (pv 1) (fun _ _=>rfl)) (bH _))))
    (fun C s3 H3 fp pins=>(aS (gP (K:=K) rfl) (pv 0) aE (fun _ _=>rfl))))))))),?_⟩
 refine⟨_,rfl,_,rfl,zl9 2,fun pp hpp=>?_⟩;have s0:=aI hpp (.lst [.int (a:Int),.int (b:Int)]);have e0:upd H pp (.lst [.int (a:Int),.int (b:Int)]) pp=some (.lst [.int (a:Int),.int (b:Int)]):=aD;generalize upd H pp (.lst [.int (a:Int),.int (b:Int)])=H0 at s0 e0 ⊢;obtain⟨dx,hn⟩:=(NP.nt.same s0).ob;refine⟨_,rfl,n,dx,_,rfl,hn,dA _ _ (by decide +kernel) (by decide +kernel),n,l,_,ds,rfl,NP.nt.same s0,pp,(a:Int),(b:Int),(m:Int),rfl,SqL.of e0,by lia,by lia,by lia,by lia,fun H1' s1'=>?_⟩;have s01:=s0.trans s1';refine⟨_,rfl,n,l,_,ds,rfl,NP.nt.same s01,by lia,nh,fun H1 s1=>?_⟩;have s01b:=s01.trans s1;refine⟨_,rfl,n,l,_,ds,rfl,NP.nt.same s01b,by lia,p12,fun H2 s2=>?_⟩;have s02:=s01b.trans s2;obtain⟨dy,hn2⟩:=(NP.nt.same s02).ob;refine⟨_,rfl,_,rfl,n,dy,_,rfl,hn2,dA _ _ (by decide +kernel) (by decide +kernel),n,l,_,ds,rfl,NP.nt.same s02,_,_,rfl,rfl,n,l,m,m - 2,_,ds,rfl,by lia,by lia,by lia,NP.same s02,p12,fun f zs D0 H3 s3 e3 F3=>?_⟩;have s03:=s02.trans s3;have fl:=yT (sg:=sgF ds) (m:=m) (t:=m - 2) p12 (by lia);have lf:=F3.l;refine⟨f,rfl,⟨_,SqL.of e3⟩,fun D hD=>?_⟩;have sD:=aI hD (.lst []);refine cZ (xs:=zs) (fun i us H'=>aT H3 H'/\H' D=some (.lst us)/\Ils H2 H' us ((((dZ (sgF ds) (pcs ds) m (m - 2)).take i).filter fun x=>Iw a b x.2).map fun x=>zi x.1)/\∀x∈us,x≠.ref D) ⟨sD,aD,⟨rfl,fun i x ps h=>by simp at h⟩,fun x hx=>by cases hx⟩ (fun i us H' h=>h.2.1) (fun i us H' _ h=>h.1.seq (SqL.of e3)) ?_ ?_
 ·rintro i us x H4 hx ⟨s4,e4,I4,n4⟩ C hC;have hi:i < (dZ (sgF ds) (pcs ds) m (m - 2)).length:=by have:=(List.getElem?_eq_some_iff.mp hx).1;lia
  obtain⟨fo,hfo⟩:∃fo,(dZ (sgF ds) (pcs ds) m (m - 2))[i]?=some fo:=⟨_,getElem?_eq_getElem hi⟩
  obtain⟨tt,A,Bm,rfl,hT,hA,hB,nA,_,_⟩:=F3.r i x fo hx hfo;have lm:fo.2.length=m:=Si (mem_of_getElem? hfo);have lz:us.length<=20736:=by
   rw[I4.l,length_map];have:=length_filter_le (fun x=>Iw a b x.2) ((dZ (sgF ds) (pcs ds) m (m - 2)).take i);rw[length_take] at this;lia
  have aa:atI (fo.2.map V.int) (a:Int)=some (.int (fo.2.getD a 0)):=bS (by rw[getElem?_map,getElem?_eq_getElem (by lia),getD_eq_getElem?_getD,getElem?_eq_getElem (by lia)];rfl);have ab:atI (fo.2.map V.int) (b:Int)=some (.int (fo.2.getD b 0)):=bS (by rw[getElem?_map,getElem?_eq_getElem (by lia),getD_eq_getElem?_getD,getElem?_eq_getElem (by lia)];rfl);have nAD:A≠D:=fun z=>by rw[z] at hA;rw[hA] at hD;cases hD
  have tf:=Aa (p:=fun x=>Iw a b x.2) (f:=fun x:List Nat × List Int=>zi x.1) hfo;refine⟨dC.1,dC.2,?_⟩;refine⟨_,rfl,tt,_,_,_,rfl,rfl,s4.seqT hT,rfl,_,rfl,Bm,_,_,_,rfl,rfl,SqL.of (s4 _ _ hB),aa,_,rfl,tt,_,_,_,rfl,rfl,s4.seqT hT,rfl,_,rfl,Bm,_,_,_,rfl,rfl,SqL.of (s4 _ _ hB),ab,rfl,_,rfl,?_⟩
  by_cases hP:fo.2.getD a 0=fo.2.getD b 0
  ·refine L2.ifF (by rw[hP];simp) (hC _ _ ⟨s4,e4,?_,n4⟩);rw[tf,if_neg (by unfold Iw;rw[decide_eq_true_iff];exact fun z=>z hP),append_nil];exact I4
  ·refine L2.ifT (by show (!decide (V.int (fo.2.getD a 0)=V.int (fo.2.getD b 0)))=true;rw[decide_eq_false (fun z=>hP (by injection z))];rfl) ?_;rw[if_pos (by unfold Iw;exact decide_eq_true hP)] at tf;refine⟨_,rfl,tt,_,_,_,rfl,rfl,s4.seqT hT,rfl,?_⟩;refine⟨e4,qF (by lia),hC _ _ ⟨s4.change hD,aD,?_,fun y hy=>?_⟩⟩
   ·rw[tf];refine Gb (Ils.snoc I4 nA (s4 _ _ hA)) fun y hy=>?_;rcases mem_append.mp hy with z | z
    ·exact n4 y z
    ·have:y=.ref A:=by simpa using z
     rw[this];exact fun z=>nAD (by injection z)
   ·rcases mem_append.mp hy with z | z
    ·exact n4 y z
    ·have:y=.ref A:=by simpa using z
     rw[this];exact fun z=>nAD (by injection z)
 ·rintro us H4 ⟨s4,e4,I4,n4⟩;rw[lf,take_length] at I4;exact q D us H4 (s03.trans s4) (s03.free hD) e4 (I4.from0 fun a h=>s02.free h) n4
abbrev Po:Stmt:=top 83
theorem Np:aQ ["_law_script","_law_k","_law_found"] ["_law_script","_law_k"] (aH Po):=sK9 rfl rfl rfl rfl (by decide +kernel)
def Ea (K:Frag):Sp:=fun vs H Q _=>∃(a:Addr) (ns:List Int) (j:Int) (k:Nat),vs=[.ref a,.int j]/\j=(k:Int)/\SqL K H a (ns.map V.int)/\ns.length<=63/\∀i H',aT H H'->Q (.int i) H'
theorem Sy {dV:Value}(F:aU K "_law_draw" "_law_draw" Po dV f fd) :
  aM P w K mg base CX 1 f fd ["_law_script","_law_k"] (Ea K):=by
 refine F.ok Np (fun vs H Q E h=>?_) fun cdv A outer s H vs Q E hr h=>?_
 ·obtain⟨_,_,_,_,rfl,_⟩:=h;rfl
 obtain⟨a,ns,j,k,rfl,hj,hS,h63,q⟩:=h;have hu:=hr.units;refine⟨_,(aB (aR (i:=2) Np.nd rfl (Or.inl rfl) (hJ iX (pv 0) (gV (pv 1)) (gV (aY eE (pv 1) aE))))
  (aB (cC (bF (Dh hu) (pv 2) (cT aC) (bH _)) (aF (aV aE)) bK)
  (aF (aV (aS bM (pv 2) aE (fun _ _=>rfl)))))),?_⟩
 refine⟨_,rfl,_,rfl,j,rfl,_,rfl,_,_,rfl,rfl,j+1,rfl,a,_,rfl,hS,fun l hl=>?_⟩;have s1:=aI hl (.lst (kW (ns.map V.int) (some j) (some (j+1))));have e1:upd H l (.lst (kW (ns.map V.int) (some j) (some (j+1)))) l=some (.lst (kW (ns.map V.int) (some j) (some (j+1)))):=aD;obtain⟨ms,em,lm⟩:=Az ns (some j) (some (j+1));rw[em] at e1 s1 ⊢;generalize upd H l (.lst (ms.map V.int))=H1 at e1 s1 ⊢;refine⟨_,rfl,zl9 0,fun e he=>?_⟩;have s2:=aI he (.lst []);refine Bb (s2.seq (SqL.of e1)) (SqL.of aD) ⟨_,rfl,?_⟩;rcases ms with _ | ⟨m,ms⟩
 ·exact fL (q 0 _ (s1.trans s2))
 ·refine fB ⟨_,rfl,l,_,_,_,rfl,rfl,s2.seq (SqL.of e1),bS (j:=0) rfl,q m _ (s1.trans s2)⟩
abbrev wW:Stmt:=top 84
theorem rE:aQ ["_law_cell","_law_turn","_law_many","_law_left","_law_k","_law_by_here","_law_prime","_law_x"] ["_law_cell","_law_turn","_law_many"] (aH wW):=sK9 rfl rfl rfl rfl (by decide +kernel)
def zJ:Sp:=fun vs H Q _=>∃c t m:Int,vs=[.int c,.int t,.int m]/\0<=t/\t<=9/\0 < m/\∀r H',0<=r->r < m->aT H H'->Q (.int r) H'
theorem qe4 {a0 a1 a2 a3 a4 a5 a6 a7 a8 a9:Int}(hp:0 < a0/\0 < a1/\0 < a2/\0 < a3/\0 < a4/\0 < a5/\0 < a6/\0 < a7/\0 < a8/\0 < a9)(hm:a0 < 1000000/\a1 < 1000000/\a2 < 1000000/\a3 < 1000000/\a4 < 1000000/\a5 < 1000000/\a6 < 1000000/\a7 < 1000000/\a8 < 1000000/\a9 < 1000000){t:Int}(h0:0<=t)(h9:t<=9) :
  ∃v,atI [V.int a0,.int a1,.int a2,.int a3,.int a4,.int a5,.int a6,.int a7,.int a8,.int a9] t=some (.int v)/\0 < v/\v < 1000000:=by
 have:t=0\/t=1\/t=2\/t=3\/t=4\/t=5\/t=6\/t=7\/t=8\/t=9:=by lia
 rcases this with rfl | rfl | rfl | rfl | rfl | rfl | rfl | rfl | rfl | rfl
 all_goals exact⟨_,rfl,by lia,by lia⟩
abbrev l48:List Int:=[48271,69621,16807,40692,39373,30269,27183,60013,51749,35969]
abbrev l99:List Int:=[999983,999979,999961,999959,999953,999931,999917,999907,999883,999863]
@[irreducible] def md1:Stmt:=(cG wW).getD 1 (.Pass ⟨0,0,0,0⟩)
@[irreducible] def md2:Stmt:=(cG wW).getD 2 (.Pass ⟨0,0,0,0⟩)
def md0:Stmt:=(cG wW).getD 0 (.Pass ⟨0,0,0,0⟩)
def md3:Stmt:=(cG wW).getD 3 (.Pass ⟨0,0,0,0⟩)
def md4:Stmt:=(cG wW).getD 4 (.Pass ⟨0,0,0,0⟩)
theorem qd1:cG wW=[md0,md1,md2,md3,md4]:=by unfold md1 md2;rfl
theorem Xk:∃(q q2 p2 p3 p:Pos) (l:List (Int × _ × Pos)),md1=.Assign [.Name "_law_by_here" q] (.Subscript (.List (l.map fun q=>Expr.Constant (.int q.1) q.2.1 q.2.2) p2) (.Name "_law_turn" q2) p3) p/\l.map (fun q=>V.int q.1)=l48.map V.int:=by
 unfold md1;exact⟨_,_,_,_,_,[(48271,_,_),(69621,_,_),(16807,_,_),(40692,_,_),(39373,_,_),(30269,_,_),(27183,_,_),(60013,_,_),(51749,_,_),(35969,_,_)],rfl,rfl⟩
theorem Zh:∃(q q2 p2 p3 p:Pos) (l:List (Int × _ × Pos)),md2=.Assign [.Name "_law_prime" q] (.Subscript (.List (l.map fun q=>Expr.Constant (.int q.1) q.2.1 q.2.2) p2) (.Name "_law_turn" q2) p3) p/\l.map (fun q=>V.int q.1)=l99.map V.int:=by
 unfold md2;exact⟨_,_,_,_,_,[(999983,_,_),(999979,_,_),(999961,_,_),(999959,_,_),(999953,_,_),(999931,_,_),(999917,_,_),(999907,_,_),(999883,_,_),(999863,_,_)],rfl,rfl⟩
theorem Wq {dV:Value}(F:aU K "_law_mix" "_law_mix" wW dV f fd)(mr:mg "range"=none) :
  aM P w K mg base CX 1 f fd ["_law_cell","_law_turn","_law_many"] zJ:=by
 refine F.ok rE (fun vs H Q E h=>?_) fun cdv A outer s H vs Q E hr h=>?_
 ·obtain⟨_,_,_,rfl,_⟩:=h;rfl
 obtain⟨c,t,m,rfl,h0,h9,hm,q⟩:=h;rw[qd1];obtain⟨q1,q2,q3,q4,q5,l1,e1,eo1⟩:=Xk;obtain⟨r1,r2,r3,r4,r5,l2,e2,eo2⟩:=Zh;rw[e1,e2];refine⟨_,(aB (cC (bF fG (aY uH (pv 0) aE) aE (bH _)) (aB (aR (i:=3) rE.nd rfl (Or.inl rfl) (aY nQ (pv 0) aE))
  (aB (dB PassesOwn.never rfl (fU rfl mr (aA (pv 1) aC)) (aZ (i:=4) rE.nd rfl (Or.inl rfl))
   (aF (aR (i:=3) rE.nd rfl (Or.inl rfl) (aY nQ (pv 3) (aY Cz aE aE)))))
  (aF (aV (aY jE (pv 3) (pv 2)))))) bK)
  (aB (aR (i:=5) rE.nd rfl (Or.inl rfl) (aS bM (cT (yO _ l1)) (pv 1) (fun _ _=>rfl)))
  (aB (aR (i:=6) rE.nd rfl (Or.inl rfl) (aS bM (cT (yO _ l2)) (pv 1) (fun _ _=>rfl)))
  (aB (aR (i:=7) rE.nd rfl (Or.inl rfl) (aY uH (pv 0) aE))
  (aF (aV (aY jE (aY nQ (aY jE (aY eE (aY eE (aY cD (aY rR aE (pv 7)) (pv 7)) (aY cD (pv 5) (pv 7))) (aY rR aE (aY eE (pv 1) aE))) (pv 6)) aE) (pv 2)))))))),?_⟩
 rw[eo1,eo2];have hf:∀u:Int,0<=u.fmod m/\u.fmod m < m:=fun u=>⟨Int.fmod_nonneg_of_pos u hm,Int.fmod_lt_of_pos u hm⟩
 have m0:m≠0:=by lia
 refine⟨_,rfl,_,_,rfl,rfl,(show (0:Int) < 2 by decide),rfl,_,rfl,qC (fun _=>?_) (fun _=>?_)⟩
 ·refine⟨_,rfl,_,_,rfl,rfl,⟨by decide,by decide⟩,?_⟩;refine⟨_,rfl,t,rfl,by lia,by lia,?_⟩;refine fV (n:=t.toNat) (fun i σ H'=>H'=H/\∃u z,σ=[some (.int c),some (.int t),some (.int m),some (.int u),z,none,none,none]) ⟨rfl,_,none,rfl⟩ ?_ ?_
  ·rintro i σ H' hi ⟨rfl,u,z,rfl⟩;exact⟨_,rfl,_,_,rfl,rfl,⟨by decide,by decide,by decide⟩,_,_,rfl,rfl,⟨by decide,by decide⟩,rfl,_,_,rfl⟩
  ·rintro σ H' ⟨rfl,u,z,rfl⟩;exact⟨_,rfl,_,rfl,_,_,rfl,rfl,m0,q _ _ (hf u).1 (hf u).2 (aT.refl _)⟩
 ·refine⟨zl9 10,fun l1 hl1=>?_⟩;obtain⟨by_,eb,b1,b2⟩:=qe4 (a0:=48271) (a1:=69621) (a2:=16807) (a3:=40692) (a4:=39373) (a5:=30269) (a6:=27183) (a7:=60013) (a8:=51749) (a9:=35969) (by decide) (by decide) h0 h9;have s1:=aI hl1 (.lst (l48.map V.int));have g1:upd H l1 (.lst (l48.map V.int)) l1=some (.lst (l48.map V.int)):=aD;generalize upd H l1 (.lst (l48.map V.int))=H1 at s1 g1 ⊢;refine⟨_,rfl,l1,_,_,_,rfl,rfl,SqL.of g1,eb,?_⟩;refine⟨zl9 10,fun l2 hl2=>?_⟩;obtain⟨pr,ep,p1,p2⟩:=qe4 (a0:=999983) (a1:=999979) (a2:=999961) (a3:=999959) (a4:=999953) (a5:=999931) (a6:=999917) (a7:=999907) (a8:=999883) (a9:=999863) (by decide) (by decide) h0 h9;have s2:=aI hl2 (.lst (l99.map V.int));have g2:upd H1 l2 (.lst (l99.map V.int)) l2=some (.lst (l99.map V.int)):=aD;generalize upd H1 l2 (.lst (l99.map V.int))=H2 at s2 g2 ⊢;refine⟨_,rfl,l2,_,_,_,rfl,rfl,SqL.of g2,ep,?_⟩;refine⟨_,rfl,_,_,rfl,rfl,(show (0:Int) < 2147483647 by decide),?_⟩;have x1:=Int.emod_nonneg c (show (2147483647:Int)≠0 by decide);have x2:=Int.emod_lt_of_pos c (show (0:Int) < 2147483647 by decide);generalize c % 2147483647=x at x1 x2 ⊢;refine⟨_,rfl,_,_,rfl,rfl,Or.inl ⟨by decide,by decide⟩,_,rfl,cF (n:=40) (m:=40) (uL (by lia) (by lia)) (uL (by lia) (by lia)) (by lia) (by lia) ?_⟩;refine⟨_,rfl,_,rfl,cF (n:=40) (m:=40) (uL (by lia) (by lia)) (uL (by lia) (by lia)) (by lia) (by lia) ⟨_,_,rfl,rfl,?_⟩⟩;refine⟨_,rfl,_,_,rfl,rfl,_,_,rfl,rfl,Or.inl ⟨by decide,by decide⟩,_,_,rfl,rfl,_,rfl,_,_,rfl,rfl,by lia,_,_,rfl,rfl,⟨by decide,by decide⟩,_,rfl,_,_,rfl,rfl,m0,?_⟩;exact q _ _ (hf _).1 (hf _).2 (s1.trans s2)
abbrev La:Stmt:=top 85
theorem yE:aQ ["_law_cell","_law_k","_law_left","_law_j"] ["_law_cell","_law_k"] (aH La):=sK9 rfl rfl rfl rfl (by decide +kernel)
def Km:Sp:=fun vs H Q _=>∃c k:Int,vs=[.int c,.int k]/\0<=k/\k<=63/\∀r,Q (.int r) H
theorem Te {dV:Value}(F:aU K "_law_part" "_law_part" La dV f fd)(mr:mg "range"=none) :
  aM P w K mg base CX 1 f fd ["_law_cell","_law_k"] Km:=by
 refine F.ok yE (fun vs H Q E h=>?_) fun cdv A outer s H vs Q E hr h=>?_
 ·obtain⟨_,_,rfl,_⟩:=h;rfl
 obtain⟨c,k,rfl,h0,h9,q⟩:=h;refine⟨_,(aB (cC (bF fG (aY uH (pv 0) aE) aE (bH _)) (aF (aV (aY eE (aY uH (pv 0) (aY Cz aE aE)) (aY cD (aY rR aE (pv 1)) (pv 1))))) bK)
  (aB (aR (i:=2) yE.nd rfl (Or.inl rfl) (aY nQ (pv 0) aE))
  (aB (dB PassesOwn.never rfl (fU rfl mr (aA (aY rR aE (pv 1)) aC)) (aZ (i:=3) yE.nd rfl (Or.inl rfl))
   (aF (aR (i:=2) yE.nd rfl (Or.inl rfl) (aY nQ (pv 2) (aY Cz aE aE)))))
  (aF (aV (aY eE (aY rR aE (pv 2)) aE)))))),?_⟩
 refine⟨_,rfl,_,_,rfl,rfl,(show (0:Int) < 2 by decide),rfl,_,rfl,qC (fun _=>?_) (fun _=>?_)⟩
 ·refine⟨_,rfl,_,_,rfl,rfl,⟨by decide,by decide,by decide⟩,_,_,rfl,rfl,(show (0:Int) < 10 ^ (15:Int).toNat by decide),?_⟩;refine⟨_,rfl,_,_,rfl,rfl,Or.inl ⟨by decide,by decide⟩,_,rfl,cF (n:=40) (m:=40) (uL (by lia) (by lia)) (uL (by lia) (by lia)) (by lia) (by lia) ⟨_,_,rfl,rfl,q _⟩⟩
 ·refine⟨_,rfl,_,_,rfl,rfl,⟨by decide,by decide⟩,?_⟩;refine⟨_,rfl,_,_,rfl,rfl,Or.inl ⟨by decide,by decide⟩,_,rfl,by lia,by lia,?_⟩;refine fV (n:=(12*k).toNat) (fun i σ H'=>H'=H/\∃u z,σ=[some (.int c),some (.int k),some (.int u),z]) ⟨rfl,_,none,rfl⟩ ?_ ?_
  ·rintro i σ H' hi ⟨rfl,u,z,rfl⟩;exact⟨_,rfl,_,_,rfl,rfl,⟨by decide,by decide,by decide⟩,_,_,rfl,rfl,⟨by decide,by decide⟩,rfl,_,_,rfl⟩
  ·rintro σ H' ⟨rfl,u,z,rfl⟩;exact⟨_,rfl,_,_,rfl,rfl,Or.inl ⟨by decide,by decide⟩,_,_,rfl,rfl,q _⟩
abbrev zC:Stmt:=top 86
theorem mL:aQ ["_law_top","_law_bottom","_law_one","_law_other"] ["_law_top","_law_bottom"] (aH zC):=sK9 rfl rfl rfl rfl (by decide +kernel)
theorem Id {dV:Value}(F:aU K "_law_lowest" "_law_lowest" zC dV f fd)(b:Bl mg) :
  aM P w K mg base CX 1 f fd ["_law_top","_law_bottom"] gJ:=by
 refine F.ok mL (fun vs H Q E h=>?_) fun cdv A outer s H vs Q E hr h=>?_
 ·obtain⟨_,_,_,rfl,_⟩:=h;rfl
 obtain⟨t,b',n,rfl,hb,hB,hn,q⟩:=h;refine⟨_,(aB (Oq (i:=2) (j:=3) rfl mL.nd rfl rfl (by decide) rfl rfl (aA (bO tK rfl b.abs PyProof.Rows.boot_abs (aA (pv 0) aC)) (aA (bO tK rfl b.abs PyProof.Rows.boot_abs (aA (pv 1) aC)) aC)) rfl)
  (aB (rN PassesOwn.never (bF jX (pv 3) aE (bH _)) (aF (Oq (i:=2) (j:=3) rfl mL.nd rfl rfl (by decide) rfl rfl (aA (pv 3) (aA (aY jE (pv 2) (pv 3)) aC)) rfl)))
  (aB (cC (bF tH (pv 1) aE (bH _)) (aF (aR (i:=2) mL.nd rfl (Or.inl rfl) (aY jY aE (pv 2)))) bK)
  (aF (aV (eY (aA (aY iB (pv 0) (pv 2)) (aA (aY iB (pv 1) (pv 2)) aC)))))))),?_⟩
 refine⟨_,rfl,_,rfl,_,rfl,_,rfl,_,_,rfl,?_⟩;have g0:=Mq.Vy t b';have n0:0<=(if t < 0 then -t else t):=by split<;>lia
 have n1:0<=(if b' < 0 then -b' else b'):=by split<;>lia
 generalize (if t < 0 then -t else t)=x' at *
 generalize (if b' < 0 then -b' else b')=y' at *
 have hd:=oW (t:=t) hb;have hdB:Mq.B n (dvr t b'):=hB.le (Bz hb);refine sQ (fun σ H'=>H'=H/\∃u v,σ=[some (.int t),some (.int b'),some (.int u),some (.int v)]/\gc u v=gc t b'/\0<=u/\0<=v) (fun σ _=>match σ with | [_,_,_,some (.int v)]=>v.natAbs | _=>0) ⟨rfl,x',y',rfl,g0,n0,n1⟩ ?_ ?_
 ·rintro σ H' ⟨rfl,u,v,rfl,e,hu,hv0⟩;refine⟨_,rfl,rfl,_,rfl,?_⟩;refine qC (fun c=>?_) (fun c=>?_)
  ·have hv:v≠0:=by intro q;subst q;simp at c
   refine⟨_,rfl,_,rfl,_,rfl,_,_,rfl,rfl,hv,_,_,rfl,⟨rfl,v,Int.fmod u v,rfl,(El u v).trans e,hv0,Int.fmod_nonneg_of_pos u (by lia)⟩,vG hv⟩
  ·have hv:v=0:=by
    simp at c;exact c
   subst hv;have eu:u=gc t b':=by rw[<- e,Fa,if_neg (by lia)]
   subst eu;refine⟨_,rfl,_,_,rfl,rfl,_,rfl,qC (fun c=>?_) (fun c=>?_)⟩
   ·have hlt:b' < 0:=of_decide_eq_true c;have e:dvr t b'=0 - gc t b':=by unfold dvr;rw[if_pos hlt];lia
    rw[e] at hd hdB;have q':qE H' Q (t.fdiv (0 - gc t b'),b'.fdiv (0 - gc t b')):=by
     have z:=q;unfold red at z;rw[e] at z;exact z
    refine⟨_,rfl,_,_,rfl,rfl,?_⟩;refine⟨_,rfl,_,rfl,fC hd hdB hn ⟨_,rfl,_,rfl,fC hd hdB hn ⟨zl9 2,fun p hp=>?_⟩⟩⟩;exact q' p _ (aI hp _) aD
   ·have hlt:¬b' < 0:=fun z=>c (decide_eq_true z);have e:dvr t b'=gc t b':=by unfold dvr;rw[if_neg hlt]
    rw[e] at hd hdB;have q':qE H' Q (t.fdiv (gc t b'),b'.fdiv (gc t b')):=by
     have z:=q;unfold red at z;rw[e] at z;exact z
    refine⟨_,rfl,_,rfl,fC hd hdB hn ⟨_,rfl,_,rfl,fC hd hdB hn ⟨zl9 2,fun p hp=>?_⟩⟩⟩;exact q' p _ (aI hp _) aD
 ·rintro σ H Q Q' m ⟨v,h1,h2,k,h3,h4⟩;exact⟨v,h1,h2,k,h3,m _ _ h4⟩
abbrev Di:Stmt:=top 87
theorem Tp:aQ ["_law_one","_law_other"] ["_law_one","_law_other"] (aH Di):=sK9 rfl rfl rfl rfl (by decide +kernel)
theorem Qh {dV:Value}(F:aU K "_law_plus" "_law_plus" Di dV f fd)(G1:aM P w K mg base CX0 1 g1 gd1 ["_law_top","_law_bottom"] gJ)(b1:aL K gd1 ["_law_top","_law_bottom"] [])(k1:kI9 K g1)(m1:mI9 mg "_law_lowest" g1) :
  aM P w K mg base CX 2 f fd ["_law_one","_law_other"] (iT K oR):=by
 refine F.ok Tp (fun vs H Q E h=>?_) fun cdv A outer s H vs Q E hr h=>?_
 ·obtain⟨_,_,_,_,_,_,rfl,_⟩:=h;rfl
 obtain⟨a,b,p,q,n,m,rfl,fa,fb,hp,hq,bp,bq,hnm,z⟩:=h;refine⟨_,(aF (aV (aG G1 hr rfl m1 k1 b1 .nil aK (aA (aY eE (aY cD (aS aX (pv 0) aE (fun _ _=>rfl)) (aS aX (pv 1) aE (fun _ _=>rfl))) (aY cD (aS aX (pv 1) aE (fun _ _=>rfl)) (aS aX (pv 0) aE (fun _ _=>rfl)))) (aA (aY cD (aS aX (pv 0) aE (fun _ _=>rfl)) (aS aX (pv 1) aE (fun _ _=>rfl))) aC))))),?_⟩;refine dW rfl fa (cN rfl fb (cF bp.a bq.b (by lia) (by lia) ?_));refine dW rfl fb (cN rfl fa (cF bq.a bp.b (by lia) (by lia) ⟨_,_,rfl,rfl,?_⟩));refine cN rfl fa (cN rfl fb (cF bp.b bq.b (by lia) (by lia) ?_));exact⟨_,_,n+m,rfl,gH hp hq,bp.b.mul bq.b,by lia,z⟩
theorem qE.same {H H':Hp}{Q:VK}{p:Q2}(s:aT H H')(h:qE H Q p):qE H' Q p:=fun a H2 s2 e=>h a H2 (s.trans s2) e
abbrev xD:Stmt:=top 88
theorem Lh:aQ ["_law_one","_law_other"] ["_law_one","_law_other"] (aH xD):=sK9 rfl rfl rfl rfl (by decide +kernel)
theorem Jq {dV:Value}(F:aU K "_law_times" "_law_times" xD dV f fd)(G1:aM P w K mg base CX0 1 g1 gd1 ["_law_top","_law_bottom"] gJ)(b1:aL K gd1 ["_law_top","_law_bottom"] [])(k1:kI9 K g1)(m1:mI9 mg "_law_lowest" g1) :
  aM P w K mg base CX 2 f fd ["_law_one","_law_other"] (iT K tO):=by
 refine F.ok Lh (fun vs H Q E h=>?_) fun cdv A outer s H vs Q E hr h=>?_
 ·obtain⟨_,_,_,_,_,_,rfl,_⟩:=h;rfl
 obtain⟨a,b,p,q,n,m,rfl,fa,fb,hp,hq,bp,bq,hnm,z⟩:=h;refine⟨_,(aF (aV (aG G1 hr rfl m1 k1 b1 .nil aK (aA (aY cD (aS aX (pv 0) aE (fun _ _=>rfl)) (aS aX (pv 1) aE (fun _ _=>rfl))) (aA (aY cD (aS aX (pv 0) aE (fun _ _=>rfl)) (aS aX (pv 1) aE (fun _ _=>rfl))) aC))))),?_⟩;refine dW rfl fa (dW rfl fb (cF bp.a bq.a (by lia) (by lia) ?_));refine cN rfl fa (cN rfl fb (cF bp.b bq.b (by lia) (by lia) ?_));exact⟨_,_,n+m,rfl,gH hp hq,bp.b.mul bq.b,by lia,z⟩
abbrev Xz:Stmt:=top 89
theorem qb3:aQ ["_law_one","_law_other"] ["_law_one","_law_other"] (aH Xz):=sK9 rfl rfl rfl rfl (by decide +kernel)
theorem Vl {dV:Value}(F:aU K "_law_by" "_law_by" Xz dV f fd)(G1:aM P w K mg base CX0 1 g1 gd1 ["_law_top","_law_bottom"] gJ)(b1:aL K gd1 ["_law_top","_law_bottom"] [])(k1:kI9 K g1)(m1:mI9 mg "_law_lowest" g1) :
  aM P w K mg base CX 2 f fd ["_law_one","_law_other"] (sR K):=by
 refine F.ok qb3 (fun vs H Q E h=>?_) fun cdv A outer s H vs Q E hr h=>?_
 ·obtain⟨_,_,_,_,_,_,rfl,_⟩:=h;rfl
 obtain⟨a,b,p,q,n,m,rfl,fa,fb,hp,hq,h0,bp,bq,hnm,z⟩:=h;refine⟨_,(aF (aV (aG G1 hr rfl m1 k1 b1 .nil aK (aA (aY cD (aS aX (pv 0) aE (fun _ _=>rfl)) (aS aX (pv 1) aE (fun _ _=>rfl))) (aA (aY cD (aS aX (pv 0) aE (fun _ _=>rfl)) (aS aX (pv 1) aE (fun _ _=>rfl))) aC))))),?_⟩;refine dW rfl fa (cN rfl fb (cF bp.a bq.b (by lia) (by lia) ?_));refine cN rfl fa (dW rfl fb (cF bp.b bq.a (by lia) (by lia) ?_));exact⟨_,_,n+m,rfl,oO hp (by lia),bp.b.mul bq.a,by lia,z⟩
abbrev Nh:Stmt:=top 90
theorem Nv:aQ ["_law_found","_law_due","_law_number"] ["_law_found","_law_due"] (aH Nh):=sK9 rfl rfl rfl rfl (by decide +kernel)
def Px (K:Frag):Sp:=fun vs H Q _=>∃(a b:Addr) (p:Q2),vs=[.ref a,.ref b]/\Fq K H a p/\Fq K H b p/\Q (.bl true) H
theorem Rf {dV:Value}(F:aU K "_law_told" "_law_told" Nh dV f fd)(b:Bl mg)(ml:mg "len"=none)(mt:mg "tuple"=none) :
  aM P w K mg base CX 1 f fd ["_law_found","_law_due"] (Px K):=by
 refine F.ok Nv (fun vs H Q E h=>?_) fun cdv A outer s H vs Q E hr h=>?_
 ·obtain⟨_,_,_,rfl,_⟩:=h;rfl
 obtain⟨a,d,p,rfl,fa,fd',q⟩:=h;have hu:=hr.units;refine⟨_,(aB (cC (PW.pt (nX (gB (eG (gU (i:=0) rfl (Or.inl rfl) b.isi mt rfl rfl PyProof.Rows.boot_tuple))) (lU (bF jX (bO bG rfl ml PySem.boot_len (aA (pv 0) aC)) aE (bH _))))) (aF (aV iH)) bK)
  (aB (dB PassesOwn.never rfl (Ye (pv 0)) (aZ (i:=2) Nv.nd rfl (Or.inl rfl))
   (aF (cC (PW.pt (nX (gB (eG (gU (i:=2) rfl (Or.inl rfl) b.isi b.int rfl rfl PyProof.Rows.boot_int))) (lU (eG (gU (i:=2) rfl (Or.inl rfl) b.isi b.bool rfl rfl PyProof.Rows.boot_bool))))) (aF (aV iH)) bK)))
  (aF (aV (gW (Dh hu) (pv 0) (pv 1) (bH _)))))),?_⟩
 refine⟨_,_,true,rfl,.tup fa,rfl,_,rfl,fB ⟨_,rfl,a,_,rfl,.inr fa,rfl,_,rfl,fB ?_⟩⟩;refine⟨_,rfl,a,rfl,⟨_,fa⟩,?_⟩;refine So (xs:=[.int p.1,.int p.2]) (fun i σ H'=>H'=H/\∃z,σ=[some (.ref a),some (.ref d),z]) ⟨rfl,none,rfl⟩ (fun i σ H' _ h=>by rw[h.1];exact fa) ?_ ?_
 ·rintro i x σ H' hx ⟨rfl,z,rfl⟩;have hint:∃j,x=.int j:=by
   match i,hx with
   |0,h=>exact⟨p.1,by simpa using h.symm⟩
   |1,h=>exact⟨p.2,by simpa using h.symm⟩
   |n+2,h=>simp at h
  obtain⟨j,rfl⟩:=hint;refine⟨_,_,true,rfl,.of (.int j),rfl,_,rfl,fB ⟨_,_,false,rfl,.of (.int j),(by with_unfolding_all rfl),_,rfl,fB ⟨rfl,_,rfl⟩⟩⟩
 ·rintro σ H' ⟨rfl,z,rfl⟩;refine⟨_,rfl,_,rfl,Ni fa fd' ?_⟩;show Q (.bl (decide (p=p))) H';rw[decide_eq_true rfl];exact q
def Mr:Sp:=fun vs H Q _=>∃c:Int,vs=[.int c]/\∀p,Low p/\0 < p.1/\Bd 4 p->qE H Q p
abbrev Ml:Stmt:=top 91
theorem Zi:aQ ["_law_cell"] ["_law_cell"] (aH Ml):=sK9 rfl rfl rfl rfl (by decide +kernel)
theorem Qk {dV:Value}(F:aU K "_law_size" "_law_size" Ml dV f fd)(G1:aM P w K mg base CX0 1 g1 gd1 ["_law_cell","_law_turn","_law_many"] zJ)(b1:aL K gd1 ["_law_cell","_law_turn","_law_many"] [])(k1:kI9 K g1)(m1:mI9 mg "_law_mix" g1)(G3:aM P w K mg base CX0 1 g3 gd3 ["_law_top","_law_bottom"] gJ)(b3:aL K gd3 ["_law_top","_law_bottom"] [])(k3:kI9 K g3)(m3:mI9 mg "_law_lowest" g3) :
  aM P w K mg base CX 2 f fd ["_law_cell"] Mr:=by
 refine F.ok Zi (fun vs H Q E h=>?_) fun cdv A outer s H vs Q E hr h=>?_
 ·obtain⟨_,rfl,_⟩:=h;rfl
 obtain⟨c,rfl,q⟩:=h;refine⟨_,(aF (aV (aG G3 hr rfl m3 k3 b3 .nil aK (aA (aY eE aE (aG G1 hr rfl m1 k1 b1 .nil aK (aA (pv 0) (aA aE (aA aE aC))))) (aA (aY eE aE (aG G1 hr rfl m1 k1 b1 .nil aK (aA (pv 0) (aA aE (aA aE aC))))) aC))))),?_⟩;refine⟨_,rfl,c,3,12,rfl,by decide,by decide,by decide,fun r H1 r1 r2 s1=>⟨_,_,rfl,rfl,?_⟩⟩;refine⟨_,rfl,c,4,6,rfl,by decide,by decide,by decide,fun b H3 b1 b2 s3=>⟨_,_,rfl,rfl,?_⟩⟩;have b0:1+b≠0:=by lia
 have le:=lP (t:=1+r) b0;have bT:Mq.B 4 (1+r):=uL (by lia) (by lia);have bB:Mq.B 4 (1+b):=uL (by lia) (by lia);exact⟨1+r,1+b,4,rfl,b0,bB,by lia,qE.same (s1.trans s3) (q _ ⟨gE b0,Mq.Sz (by lia) (by lia),⟨bT.le le.1,bB.le le.2⟩⟩)⟩
def Hb (CN:Addr)(K:Frag):Sp:=fun vs H Q _=>∃(m:Int) (r:Addr) (us:List V) (ds:List RD),vs=[.int m,.ref r]/\1<=m/\m<=20/\SqL K H r us/\Rts K H us ds/\(∀d∈ds,Co m d)/\ds.length<=40/\∀n l H',aT H H'->H l=none->eO CN K H' n l m ds->Q (.ref n) H'
abbrev Dg:Stmt:=top 92
theorem yY:aQ ["_law_many","_law_rows","_law_net_here","_law_row"] ["_law_many","_law_rows"] (aH Dg):=sK9 rfl rfl rfl rfl (by decide +kernel)
theorem Qd {dV:Value}(F:aU K "_law_net" "_law_net" Dg dV f fd){CN:Addr}(NTx:NT K mg CN){gAd:Addr}{gdAd:FuncData}(GAd:aM P w K mg base CX0 5 gAd gdAd ["self","row"] (Ut CN K CK))(bAd:aL K gdAd ["self","row"] [])(mAd:fR K CN "add" gAd){gNI:Addr}{gdNI:FuncData}(GNI:aM P w K mg base CX0 2 gNI gdNI ["self","many"] (Gz CN))(bNI:aL K gdNI ["self","many"] [])(MN:Mk K CN gNI)(G1:aM P w K mg base CX0 3 g1 gd1 ["told"] (tI K CK))(b1:aL K gd1 ["told"] [])(k1:kI9 K g1)(m1:mI9 mg "row_of" g1) :
  aM P w K mg base CX 6 f fd ["_law_many","_law_rows"] (Hb CN K):=by
 refine F.ok yY (fun vs H Q E h=>?_) fun cdv A outer s H vs Q E hr h=>?_
 ·obtain⟨_,_,_,_,rfl,_⟩:=h;rfl
 obtain⟨m,r,us,ds,rfl,hm1,hm20,hU,hR,hK,h40,q⟩:=h;have r3:=hr.mono (show 3<=5 by lia);refine⟨_,(aB (aR (i:=2) yY.nd rfl (Or.inl rfl) (mS MN GNI r3 rfl NTx.mN bNI .nil aK (aA (pv 0) aC)))
  (aB (dB PassesOwn.never rfl (cE (pv 1)) (aZ (i:=3) yY.nd rfl (Or.inl rfl))
   (aF (bN (Tk (pv 2) NTx.cl mAd GAd hr bAd .nil aK (aA (aG G1 r3 rfl m1 k1 b1 .nil aK (aA (pv 3) aC)) aC)))))
  (aF (aV (pv 2))))),?_⟩
 have lus:=hR.length;refine⟨_,rfl,fun n dx h1 h2 ne=>⟨n,dx,m,rfl,aD,hm1,hm20,fun l H2 nl keep hn hl=>⟨rfl,?_⟩⟩⟩;have s2:aT H H2:=fun b o e=>keep b o (by rw[aW (bC e h1),aW (bC e h2)];exact e) (bC e h1);have hl0:H l=none:=by
  cases o:H l with
  |none=>rfl
  |some o'=>
   have:(upd (upd H dx (.own n)) n (.ins CN dx [])) l=some o':=by rw[aW (bC o h1),aW (bC o h2)];exact o
   rw[this] at nl;cases nl
 refine⟨_,rfl,r,rfl,⟨_,s2.seq hU⟩,?_⟩;refine dS (xs:=us) (fun i σ H'=>aT H H'/\eO CN K H' n l m (ds.take i)/\∃z,σ=[some (.int m),some (.ref r),some (.ref n),z]) ⟨s2,⟨⟨dx,hn⟩,[],hl,.nil⟩,none,rfl⟩ (fun i σ H' _ h=>h.1.seq hU) ?_ ?_
 ·rintro i x σ H3 hx ⟨s3,N3,z,rfl⟩;have hi:i < ds.length:=by
   have:=(List.getElem?_eq_some_iff.mp hx).1;lia
  obtain⟨⟨k,u,v,p⟩,hd⟩:∃d,ds[i]?=some d:=⟨_,getElem?_eq_getElem hi⟩
  obtain⟨t,z',et,hT,fz⟩:=hR.at hd;have ex:x=.ref t:=by rw[et] at hx;exact(Option.some.inj hx).symm
  subst ex;obtain⟨dn,hn3⟩:=N3.ob;have lt:(ds.take i).length<=ds.length:=by rw[length_take];lia
  refine⟨_,rfl,n,dn,_,rfl,hn3,dA _ _ (by decide +kernel) (by decide +kernel),_,rfl,t,_,_,_,_,rfl,s3.seqT hT,k,rfl,fun y H4 s4 ny rw=>?_⟩;refine⟨n,l,y,z',m,ds.take i,k,u,v,p,rfl,N3.same s4,rw,(s3.trans s4).fq fz,hK _ (mem_of_getElem? hd),by rw[length_take];lia,fun H5 x5 N5=>?_⟩;refine⟨fun b o e=>x5 _ _ ((s3.trans s4) _ _ e) (bC e hl0),?_,_,rfl⟩;rw[take_add_one,hd];exact N5
 ·rintro σ H3 ⟨s3,N3,z,rfl⟩;rw[lus,take_length] at N3;exact⟨_,rfl,q n l H3 s3 hl0 N3⟩
theorem Ha {α β:Type}(f:α->β)(l:List α)(i:Nat)(e:α):(l.take i++e :: l.drop i).map f=(l.map f).take i++f e :: (l.map f).drop i:=by
 rw[map_append,map_cons,map_take,map_drop]
theorem Rts.take {K:Frag}{H:Hp}:∀{xs:List V} {ds:List RD} (n:Nat),Rts K H xs ds->Rts K H (xs.take n) (ds.take n)
 |_,_,0,_=>.nil
 |_,_,_+1,.nil=>.nil
 |_,_,n+1,.cons h f q=>.cons h f (Rts.take n q)
theorem Rts.drop {K:Frag}{H:Hp}:∀{xs:List V} {ds:List RD} (n:Nat),Rts K H xs ds->Rts K H (xs.drop n) (ds.drop n)
 |_,_,0,h=>h
 |_,_,_+1,.nil=>.nil
 |_,_,n+1,.cons _ _ q=>Rts.drop n q
theorem Gm {α:Type}(l:List α)(i:Nat)(e:α):(l.take i++e :: l.drop i).length=l.length+1:=by
 rw[List.length_append,length_cons,length_take,length_drop];lia
theorem Hc (k:Kd):decide (V.str k.wd=V.str "piece")=decide (k=.pc):=dY k .pc
def Uq (K:Frag):Sp:=fun vs H Q _=>∃(r e:Addr) (c:Int) (k:Kd) (us:List V) (ds:List RD) (i j:Int),vs=[.ref r,.int c,.str k.wd,.ref e]/\H r=some (.lst us)/\Rts K H us ds/\ds.length<=60/\SqT K H e [.int i,.int j]/\
 ∀y t (d:RD) H' H'',y<=us.length->aT H H'->d.1=k->((d.2.1=i/\d.2.2.1=j)\/(d.2.1=j/\d.2.2.1=i))->Low d.2.2.2->Bd 7 d.2.2.2->(k=.pc->0 < d.2.2.2.1/\Bd 4 d.2.2.2)->H''=upd H' r (.lst (us.take y++.ref t :: us.drop y))->Rts K H'' (us.take y++.ref t :: us.drop y) (ds.take y++d :: ds.drop y)->Q .non H''
abbrev Wy:Stmt:=top 93
theorem Gj:aQ ["_law_rows","_law_cell","_law_word","_law_ends","_law_size_here"] ["_law_rows","_law_cell","_law_word","_law_ends"] (aH Wy):=sK9 rfl rfl rfl rfl (by decide +kernel)
theorem Wf {dV:Value}(F:aU K "_law_put" "_law_put" Wy dV f fd)(ml:mg "len"=none)(G1:aM P w K mg base CX0 1 g1 gd1 ["_law_cell","_law_turn","_law_many"] zJ)(b1:aL K gd1 ["_law_cell","_law_turn","_law_many"] [])(k1:kI9 K g1)(m1:mI9 mg "_law_mix" g1)(G2:aM P w K mg base CX0 1 g2 gd2 ["_law_top","_law_bottom"] gJ)(b2:aL K gd2 ["_law_top","_law_bottom"] [])(k2:kI9 K g2)(m2:mI9 mg "_law_lowest" g2)(G3:aM P w K mg base CX0 2 g3 gd3 ["_law_cell"] Mr)(b3:aL K gd3 ["_law_cell"] [])(k3:kI9 K g3)(m3:mI9 mg "_law_size" g3) :
  aM P w K mg base CX 3 f fd ["_law_rows","_law_cell","_law_word","_law_ends"] (Uq K):=by
 refine F.ok Gj (fun vs H Q E h=>?_) fun cdv A outer s H vs Q E hr h=>?_
 ·obtain⟨_,_,_,_,_,_,_,_,rfl,_⟩:=h;rfl
 obtain⟨r,e,c,k,us,ds,i,j,rfl,er,hR,h60,he,q⟩:=h;have r1:=hr.mono (show 1<=2 by lia);refine⟨_,(aB (aR (i:=4) Gj.nd rfl (Or.inl rfl) (aG G3 hr rfl m3 k3 b3 .nil aK (aA (pv 1) aC)))
  (aB (cC (bF jX (pv 2) cS (bH _)) (aF (aR (i:=4) Gj.nd rfl (Or.inl rfl) (aG G2 r1 rfl m2 k2 b2 .nil aK (aA (aY jY (aG G1 r1 rfl m1 k1 b1 .nil aK (aA (pv 1) (aA aE (aA aE aC)))) aE) (aA (aY eE aE (aG G1 r1 rfl m1 k1 b1 .nil aK (aA (pv 1) (aA aE (aA aE aC))))) aC))))) bK)
  (aB (cC (bF fG (aG G1 r1 rfl m1 k1 b1 .nil aK (aA (pv 1) (aA aE (aA aE aC)))) aE (bH _)) (aF (aR (i:=3) Gj.nd rfl (Or.inl rfl) (eY (aA (aS aX (pv 3) aE (fun _ _=>rfl)) (aA (aS aX (pv 3) aE (fun _ _=>rfl)) aC))))) bK)
  (aF (bN (pT PySem.F.plainAttrs_list PySem.F.slot_list_insert PySem.F.type_list_insert Jd (pv 0) (aA (aG G1 r1 rfl m1 k1 b1 .nil aK (aA (pv 1) (aA aE (aA (aY eE (bO bG rfl ml PySem.boot_len (aA (pv 0) aC)) aE) aC)))) (aA (eY (aA (pv 2) (aA (aS aX (pv 3) aE (fun _ _=>rfl)) (aA (aS aX (pv 3) aE (fun _ _=>rfl)) (aA (pv 4) aC))))) aC)))))))),?_⟩
 have lu:=hR.length
 try dsimp only
 refine Wv (fun σ' H'=>aT H H'/\∃(z:Addr) (p:Q2),σ'=[some (.ref r),some (.int c),some (.str k.wd),some (.ref e),some (.ref z)]/\Fq K H' z p/\Low p/\Bd 7 p/\(k=.pc->0 < p.1/\Bd 4 p)) (fun X hX=>?_) ?_
 ·refine⟨_,rfl,c,rfl,fun p hp z H1 s1 e1=>?_⟩
  by_cases hk:k=.pc
  ·refine⟨_,rfl,rfl,_,rfl,L2.ifF (by show (!decide (V.str k.wd=V.str "piece"))=false;rw[Hc,decide_eq_true hk];rfl) ?_⟩;exact hX _ _ ⟨s1,z,p,rfl,Fq.of e1,hp.1,hp.2.2.mono (by lia),fun _=>⟨hp.2.1,hp.2.2⟩⟩
  ·refine⟨_,rfl,rfl,_,rfl,L2.ifT (by show (!decide (V.str k.wd=V.str "piece"))=true;rw[Hc,decide_eq_false hk];rfl) ?_⟩;refine⟨_,rfl,c,5,121,rfl,by decide,by decide,by decide,fun a H2 a1 a2 s2=>⟨_,_,rfl,rfl,?_⟩⟩;refine⟨_,rfl,c,6,12,rfl,by decide,by decide,by decide,fun b H3 b1 b2 s3=>⟨_,_,rfl,rfl,?_⟩⟩;have b0:1+b≠0:=by lia
   have le:=lP (t:=a - 60) b0;have bT:Mq.B 7 (a - 60):=uL (by lia) (by lia);have bB:Mq.B 7 (1+b):=uL (by lia) (by lia);exact⟨a - 60,1+b,7,rfl,b0,bB,by lia,fun z2 H4 s4 e4=>hX _ _ ⟨s1.trans (s2.trans (s3.trans s4)),z2,_,rfl,Fq.of e4,gE b0,⟨bT.le le.1,bB.le le.2⟩,fun h=>absurd h hk⟩⟩
 rintro σ1 H1 ⟨s1,z,p,rfl,fz,lp,bp,hpc⟩
 try dsimp only
 refine iG (fun σ' H'=>aT H1 H'/\∃(e':Addr) (i' j':Int),σ'=[some (.ref r),some (.int c),some (.str k.wd),some (.ref e'),some (.ref z)]/\SqT K H' e' [.int i',.int j']/\((i'=i/\j'=j)\/(i'=j/\j'=i))) (fun X hX=>?_) ?_
 ·refine⟨_,rfl,c,2,2,rfl,by decide,by decide,by decide,fun a H2 a1 a2 s2=>⟨rfl,_,rfl,qC (fun _=>?_) (fun _=>?_)⟩⟩
  ·refine⟨_,rfl,e,_,_,_,rfl,rfl,(s1.trans s2).seqT he,rfl,_,rfl,e,_,_,_,rfl,rfl,(s1.trans s2).seqT he,rfl,zl9 2,fun e2 he2=>?_⟩;have s3:=aI he2 (.tup [.int j,.int i]);exact hX _ _ ⟨s2.trans s3,e2,j,i,rfl,SqT.of aD,.inr ⟨rfl,rfl⟩⟩
  ·exact hX _ _ ⟨s2,e,i,j,rfl,(s1.trans s2).seqT he,.inl ⟨rfl,rfl⟩⟩
 rintro σ2 H2 ⟨s2,e',i',j',rfl,he',hij⟩;have s02:=s1.trans s2;have er2:=s02 _ _ er;refine⟨_,rfl,.inl ⟨rfl,_,SqL.of er2⟩,_,rfl,_,rfl,r,us,rfl,.inl (SqL.of er2),_,_,rfl,rfl,c,8,(us.length:Int)+1,rfl,by decide,by decide,by lia,fun y' H3 y0 y1 s3=>?_⟩;obtain⟨y,rfl⟩:∃y:Nat,y'=(y:Int):=⟨y'.toNat,by lia⟩
 have he3:=s3.seqT he';refine⟨_,rfl,_,rfl,e',_,_,_,rfl,rfl,he3,rfl,_,rfl,e',_,_,_,rfl,rfl,he3,rfl,_,rfl,zl9 4,fun t4 ht4=>?_⟩;have s4:=aI ht4 (.tup [.str k.wd,.int i',.int j',.ref z]);have e4:upd H3 t4 (.tup [.str k.wd,.int i',.int j',.ref z]) t4=some (.tup [.str k.wd,.int i',.int j',.ref z]):=aD;generalize upd H3 t4 (.tup [.str k.wd,.int i',.int j',.ref z])=H4 at s4 e4 ⊢;have s04:=s02.trans (s3.trans s4);have er4:=s04 _ _ er;refine⟨r,us,y,_,.ref t4,rfl,rfl,rfl,by lia,er4,bL (by lia),?_⟩;refine q y t4 (k,i',j',p) H4 _ (by lia) s04 rfl hij lp bp hpc rfl ?_;exact Rts.upd er4 ((Rts.take y (hR.same s04)).app (.cons (SqT.of e4) ((s2.trans (s3.trans s4)).fq fz) (Rts.drop y (hR.same s04))))
structure Hq (ks:List Kd) (m t J:Nat) (E:List Hn):Prop where
 h:Hng m t J E
 k:∀e∈E,e.2.1=.ho->Kd.ho∈ks
theorem Hq.tree {ks:List Kd}{m t J:Nat}{E:List Hn}(h:Hq ks m t J E){e:Hn}{j:Nat}(he:Cf m t e)(e0:e.1=some (J,j))(hk:e.2.1=.ho->Kd.ho∈ks)(i:Nat):Hq ks m t (J+1) (E.take i++e :: E.drop i):=⟨Hng.tree h.h he e0 i,fun x hx=>by
 rcases Ak hx with z | z
 ·rw[z];exact hk
 ·exact h.k x z⟩
theorem Hq.ins {ks:List Kd}{m t J:Nat}{E:List Hn}(h:Hq ks m t J E){e:Hn}(he:Cf m t e)(e0:e.1=none)(hk:e.2.1≠.ho)(i:Nat):Hq ks m t J (E.take i++e :: E.drop i):=⟨Hng.ins h.h he e0 i,fun x hx=>by
 rcases Ak hx with z | z
 ·rw[z];exact fun y=>absurd y hk
 ·exact h.k x z⟩
def kws (ks:List Kd):List V:=ks.map fun k=>V.str k.wd
theorem Xy {ks:List Kd}{r:Int}(h0:0<=r)(h:r < (ks.length:Int)):∃k,k∈ks/\atI (kws ks) r=some (.str (Kd.wd k)):=by
 obtain⟨n,rfl⟩:∃n:Nat,r=(n:Int):=⟨r.toNat,by lia⟩
 have hn:n < ks.length:=by lia
 refine⟨ks[n],getElem_mem hn,bS ?_⟩;unfold kws;rw[getElem?_map,getElem?_eq_getElem hn];rfl
theorem zW {m t k:Nat}(m1:1<=m):Int.fmod ((k:Int)+(t:Int)) (m:Int)=((rot m t k:Nat):Int):=by
 rw[Int.fmod_eq_emod_of_nonneg _ (by lia)];show ((k:Int)+(t:Int)) % (m:Int)=(((k+t) % m:Nat):Int)
 rw[Int.natCast_emod,Int.natCast_add]
theorem qi6 (xs:List V)(j:Nat):(kW xs (some 8) (some (8+(j:Int)))).length<=j:=by
 unfold kW;have h1:HT.sIx xs.length xs.length (some (8+(j:Int)))=min (8+j) xs.length:=by
  simp only[HT.sIx];split<;>lia
 have h2:HT.sIx xs.length 0 (some 8)=min 8 xs.length:=by simp[HT.sIx]
 rw[h1,h2,length_take,length_drop];lia
theorem Ty {m t k j:Nat}{d:RD}(m1:1<=m)(k1:1<=k)(km:k < m)(jk:j < k)(npu:d.1≠.pu)(lp:Low d.2.2.2)(bp:Bd 7 d.2.2.2)(hpc:d.1=.pc->0 < d.2.2.2.1/\Bd 4 d.2.2.2)(hij:(d.2.1=((rot m t k:Nat):Int)/\d.2.2.1=((rot m t j:Nat):Int))\/(d.2.1=((rot m t j:Nat):Int)/\d.2.2.1=((rot m t k:Nat):Int))):Cf m t (some (k,j),d):=by
 have a:=Pg (t:=t) m1 k;have b:=Pg (t:=t) m1 j;refine⟨?_,lp,bp,hpc,(fun _ z=>by cases z),fun k' j' e=>?_⟩
 ·rcases hij with ⟨x,y⟩ | ⟨x,y⟩<;>(show cH (m:Int) d.2.1 d.2.2.1;rw[x,y];exact⟨by lia,by lia,by lia,by lia⟩)
 ·have e:=Option.some.inj e;injection e with e1 e2
  subst e1 e2;exact⟨npu,k1,km,jk,hij⟩
theorem Sj {m t:Nat}{d:RD}(pt:cH (m:Int) d.2.1 d.2.2.1)(nho:d.1≠.ho)(lp:Low d.2.2.2)(bp:Bd 7 d.2.2.2)(hpc:d.1=.pc->0 < d.2.2.2.1/\Bd 4 d.2.2.2):Cf m t (none,d):=⟨pt,lp,bp,hpc,fun h=>absurd h nho,fun k j e=>by cases e⟩
def Qb (K:Frag):Sp:=fun vs H Q _=>∃(a w:Addr) (ns:List Int) (m ms:Nat) (ks:List Kd),vs=[.ref a,.int (m:Int),.int (ms:Int),.ref w]/\SqL K H a (ns.map V.int)/\ns.length<=63/\1<=m/\m<=20/\ms<=20/\SqL K H w (kws ks)/\1<=ks.length/\(∀k∈ks,k≠.pu)/\
 ∀r us t E H',aT H H'->H r=none->H' r=some (.lst us)->Rts K H' us (rwH E)->Hq ks m t m E->E.length<=m - 1+ms->Q (.ref r) H'
abbrev Me:Stmt:=top 94
theorem kA:aQ ["_law_script","_law_many","_law_most","_law_words","_law_rows","_law_turn","_law_k","_law_cell","_law_ends"] ["_law_script","_law_many","_law_most","_law_words"] (aH Me):=sK9 rfl rfl rfl rfl (by decide +kernel)
theorem Ue {dV:Value}(F:aU K "_law_hanging" "_law_hanging" Me dV f fd)(mr:mg "range"=none)(ml:mg "len"=none)(G1:aM P w K mg base CX0 1 g1 gd1 ["_law_script","_law_k"] (Ea K))(b1:aL K gd1 ["_law_script","_law_k"] [])(k1:kI9 K g1)(m1:mI9 mg "_law_draw" g1)(G2:aM P w K mg base CX0 1 g2 gd2 ["_law_cell","_law_turn","_law_many"] zJ)(b2:aL K gd2 ["_law_cell","_law_turn","_law_many"] [])(k2:kI9 K g2)(m2:mI9 mg "_law_mix" g2)(G3:aM P w K mg base CX0 3 g3 gd3 ["_law_rows","_law_cell","_law_word","_law_ends"] (Uq K))(b3:aL K gd3 ["_law_rows","_law_cell","_law_word","_law_ends"] [])(k3:kI9 K g3)(m3:mI9 mg "_law_put" g3) :
  aM P w K mg base CX 4 f fd ["_law_script","_law_many","_law_most","_law_words"] (Qb K):=by
 refine F.ok kA (fun vs H Q E h=>?_) fun cdv A outer s H vs Q E hr h=>?_
 ·obtain⟨_,_,_,_,_,_,rfl,_⟩:=h;rfl
 obtain⟨a,w,ns,m,ms,ks,rfl,hS,h63,hm1,hm20,hms,hW,hks1,hks,q⟩:=h;have r1:=hr.mono (show 1<=3 by lia);refine⟨_,(aB (aR (i:=4) kA.nd rfl (Or.inl rfl) (cT aC))
  (aB (aR (i:=5) kA.nd rfl (Or.inl rfl) (aG G2 r1 rfl m2 k2 b2 .nil aK (aA (aG G1 r1 rfl m1 k1 b1 .nil aK (aA (pv 0) (aA aE aC))) (aA aE (aA (pv 1) aC)))))
  (aB (dB PassesOwn.never rfl (vD rfl mr (aA aE (aA (pv 1) aC))) (aZ (i:=6) kA.nd rfl (Or.inl rfl))
   (aB (aR (i:=7) kA.nd rfl (Or.inl rfl) (aG G1 r1 rfl m1 k1 b1 .nil aK (aA (pv 0) (aA (aY eE aE (pv 6)) aC))))
  (aB (aR (i:=8) kA.nd rfl (Or.inl rfl) (eY (aA (aY jE (aY eE (pv 6) (pv 5)) (pv 1)) (aA (aY jE (aY eE (aG G2 r1 rfl m2 k2 b2 .nil aK (aA (pv 7) (aA aE (aA (pv 6) aC)))) (pv 5)) (pv 1)) aC))))
  (aF (bN (aG G3 hr rfl m3 k3 b3 .nil aK (aA (pv 4) (aA (pv 7) (aA (aS bM (pv 3) (aG G2 r1 rfl m2 k2 b2 .nil aK (aA (pv 7) (aA aE (aA (bO bG rfl ml PySem.boot_len (aA (pv 3) aC)) aC)))) (fun _ _=>rfl)) (aA (pv 8) aC))))))))))
  (aB (dB PassesOwn.never rfl (cE (hJ iX (pv 0) (gV aE) (gV (aY eE aE (pv 2))))) (aZ (i:=7) kA.nd rfl (Or.inl rfl))
   (aB (aR (i:=8) kA.nd rfl (Or.inl rfl) (eY (aA (aG G2 r1 rfl m2 k2 b2 .nil aK (aA (pv 7) (aA aE (aA (pv 1) aC)))) (aA (aG G2 r1 rfl m2 k2 b2 .nil aK (aA (pv 7) (aA aE (aA (pv 1) aC)))) aC))))
  (aF (bN (aG G3 hr rfl m3 k3 b3 .nil aK (aA (pv 4) (aA (pv 7) (aA (aS bM (cT (aA cS (aA cS (aA cS aC)))) (aG G2 r1 rfl m2 k2 b2 .nil aK (aA (pv 7) (aA aE (aA aE aC)))) (fun _ _=>rfl)) (aA (pv 8) aC)))))))))
  (aF (aV (pv 4))))))),?_⟩
 refine⟨zl9 0,fun r hr0=>?_⟩;have s1:=aI hr0 (.lst []);have e1:upd H r (.lst []) r=some (.lst []):=aD;generalize upd H r (.lst [])=H1 at s1 e1 ⊢;refine⟨_,rfl,a,ns,2,2,rfl,rfl,s1.seq hS,h63,fun c0 H2 s2=>?_⟩;refine⟨_,rfl,c0,1,(m:Int),rfl,by decide,by decide,by lia,fun t' H3 t0 tm s3=>?_⟩;obtain⟨t,rfl⟩:∃t:Nat,t'=(t:Int):=⟨t'.toNat,by lia⟩
 have s03:=s1.trans (s2.trans s3);have e3:=(s2.trans s3) _ _ e1
 try dsimp only
 refine iG (fun σ' H'=>aT H H'/\∃(us:List V) (E:List Hn) (z6 z7 z8:Option V),σ'=[some (.ref a),some (.int (m:Int)),some (.int (ms:Int)),some (.ref w),some (.ref r),some (.int (t:Int)),z6,z7,z8]/\H' r=some (.lst us)/\Rts K H' us (rwH E)/\Hq ks m t m E/\E.length=m - 1) (fun X hX=>?_) ?_
 ·refine⟨_,rfl,1,(m:Int),rfl,by lia,?_⟩;refine fV (lo:=1) (n:=((m:Int) - 1).toNat) (fun i σ H'=>aT H H'/\∃(us:List V) (E:List Hn) (z6 z7 z8:Option V),σ=[some (.ref a),some (.int (m:Int)),some (.int (ms:Int)),some (.ref w),some (.ref r),some (.int (t:Int)),z6,z7,z8]/\H' r=some (.lst us)/\Rts K H' us (rwH E)/\Hq ks m t (i+1) E/\E.length=i) ⟨s03,[],[],none,none,none,rfl,e3,.nil,⟨⟨hm1,by lia,(fun e he=>by cases he),nodup_nil,(fun k a b=>by lia),(fun p hp=>by cases hp),rfl⟩,fun e he=>by cases he⟩,rfl⟩ ?_ ?_
  ·rintro i σ H4 hi ⟨s4,us,E,z6,z7,z8,rfl,er,hR,hg,le⟩;obtain⟨k,hk⟩:∃k:Nat,k=i+1:=⟨_,rfl⟩
   have ek:(1:Int)+(i:Int)=(k:Int):=by lia
   rw[ek];have lE:(rwH E).length=E.length:=length_map ..;refine⟨_,rfl,_,rfl,_,_,rfl,rfl,a,ns,_,2+k,rfl,by lia,s4.seq hS,h63,fun c H5 s5=>?_⟩;have s45:=s4.trans s5;refine⟨_,rfl,_,rfl,_,_,rfl,rfl,_,rfl,_,_,rfl,rfl,(show (m:Int)≠0 by lia),_,rfl,_,rfl,c,1,(k:Int),rfl,by decide,by decide,by lia,fun j' H6 j0 j1 s6=>?_⟩;obtain⟨j,rfl⟩:∃j:Nat,j'=(j:Int):=⟨j'.toNat,by lia⟩
   refine⟨_,rfl,_,_,rfl,rfl,_,rfl,_,_,rfl,rfl,(show (m:Int)≠0 by lia),zl9 2,fun e he=>?_⟩;have s7:=aI he (.tup [.int (Int.fmod ((k:Int)+(t:Int)) (m:Int)),.int (Int.fmod ((j:Int)+(t:Int)) (m:Int))]);have e7:upd H6 e (.tup [.int (Int.fmod ((k:Int)+(t:Int)) (m:Int)),.int (Int.fmod ((j:Int)+(t:Int)) (m:Int))]) e=some (.tup [.int (Int.fmod ((k:Int)+(t:Int)) (m:Int)),.int (Int.fmod ((j:Int)+(t:Int)) (m:Int))]):=aD;generalize upd H6 e (.tup [.int (Int.fmod ((k:Int)+(t:Int)) (m:Int)),.int (Int.fmod ((j:Int)+(t:Int)) (m:Int))])=H7 at s7 e7 ⊢;rw[zW hm1,zW hm1] at e7;have s47:=s5.trans (s6.trans s7);have s07:=s4.trans s47;have er7:=s47 _ _ er;refine⟨_,rfl,_,rfl,_,rfl,_,rfl,_,rfl,w,_,rfl,.inl (s07.seq hW),c,0,_,rfl,by decide,by decide,by unfold kws;rw[length_map];lia,fun x H8 x0 x1 s8=>?_⟩;have x1:x < (ks.length:Int):=by unfold kws at x1;rwa [length_map] at x1
   obtain⟨kd,hkd,ekd⟩:=Xy x0 x1;refine⟨w,_,_,_,rfl,rfl,(s07.trans s8).seq hW,ekd,_,rfl,?_⟩;have s48:=s47.trans s8;refine⟨r,e,c,kd,us,rwH E,_,_,rfl,s48 _ _ er,hR.same s48,by lia,SqT.of (s8 _ _ e7),fun y t9 d H9 H10 hy s9 dk hij lp bp hpc e10 R10=>?_⟩;subst e10;have ho:=Ty (m:=m) (t:=t) (k:=k) (j:=j) (d:=d) hm1 (by lia) (by lia) (by lia) (by rw[dk];exact hks kd hkd) lp bp (by rw[dk];exact hpc) hij;have hg':=Hq.tree hg ho (j:=j) (by rw[hk]) (fun z=>by have z:d.1=.ho:=z;rw[dk] at z;rw[<- z];exact hkd) y;have ee:rwH (E.take y++(some (k,j),d) :: E.drop y)=(rwH E).take y++d :: (rwH E).drop y:=Ha ..;rw[<- ee] at R10;exact⟨((s4.trans s48).trans s9).change hr0,us.take y++.ref t9 :: us.drop y,E.take y++(some (k,j),d) :: E.drop y,some (.int (k:Int)),some (.int c),some (.ref e),rfl,aD,R10,hg',by rw[Gm,le]⟩
  ·rintro σ H4 ⟨s4,us,E,z6,z7,z8,rfl,er,hR,hg,le⟩;rw[show ((m:Int) - 1).toNat+1=m by lia] at hg;exact hX _ _ ⟨s4,us,E,z6,z7,z8,rfl,er,hR,hg,by lia⟩
 rintro σ2 H2 ⟨s2,us0,E0',z6,z7,z8,rfl,er0,hR0,hg0,le0⟩;refine⟨_,rfl,8,rfl,_,rfl,_,_,rfl,rfl,8+(ms:Int),rfl,a,_,rfl,s2.seq hS,fun C hC=>?_⟩;have cl:=qi6 (ns.map V.int) ms;obtain⟨cs,em,_⟩:=Az ns (some 8) (some (8+(ms:Int)));rw[em] at cl ⊢;rw[length_map] at cl;have nCr:C≠r:=Ne.symm (bC er0 hC);have s3:=aI hC (.lst (cs.map V.int));have eC:upd H2 C (.lst (cs.map V.int)) C=some (.lst (cs.map V.int)):=aD;generalize upd H2 C (.lst (cs.map V.int))=H3 at s3 eC ⊢;refine⟨C,rfl,⟨_,SqL.of eC⟩,?_⟩;refine dS (xs:=cs.map V.int) (fun n σ H'=>aT H H'/\H' C=some (.lst (cs.map V.int))/\∃(us:List V) (E:List Hn) (z7 z8:Option V),σ=[some (.ref a),some (.int (m:Int)),some (.int (ms:Int)),some (.ref w),some (.ref r),some (.int (t:Int)),z6,z7,z8]/\H' r=some (.lst us)/\Rts K H' us (rwH E)/\Hq ks m t m E/\E.length=m - 1+n) ⟨s2.trans s3,eC,us0,E0',z7,z8,rfl,s3 _ _ er0,hR0.same s3,hg0,le0⟩ (fun n σ H' _ h=>SqL.of h.2.1) ?_ ?_
 ·rintro n x σ H4 hx ⟨s4,eC4,us,E,z7,z8,rfl,er,hR,hg,le⟩;have hn:n < cs.length:=by
   have:=(List.getElem?_eq_some_iff.mp hx).1
   rwa [length_map] at this
  obtain⟨c,rfl⟩:∃c,x=.int c:=by
   rw[getElem?_map] at hx
   cases hm:cs[n]? with
   |none=>rw[hm] at hx;cases hx
   |some c=>rw[hm] at hx;cases hx;exact⟨c,rfl⟩
  have lE:(rwH E).length=E.length:=length_map ..;refine⟨_,rfl,_,rfl,c,1,(m:Int),rfl,by decide,by decide,by lia,fun i H5 i0 i1 s5=>?_⟩;refine⟨_,rfl,_,rfl,c,9,(m:Int),rfl,by decide,by decide,by lia,fun j H6 j0 j1 s6=>?_⟩;refine⟨zl9 2,fun e he=>?_⟩;have s7:=aI he (.tup [.int i,.int j]);have e7:upd H6 e (.tup [.int i,.int j]) e=some (.tup [.int i,.int j]):=aD;generalize upd H6 e (.tup [.int i,.int j])=H7 at s7 e7 ⊢;have s47:=s5.trans (s6.trans s7);refine⟨_,rfl,_,rfl,zl9 3,fun W2 hW2=>?_⟩;have s8:=aI hW2 (.lst [.str "piece",.str "push",.str "piece"]);have e8:upd H7 W2 (.lst [.str "piece",.str "push",.str "piece"]) W2=some (.lst [.str "piece",.str "push",.str "piece"]):=aD;generalize upd H7 W2 (.lst [.str "piece",.str "push",.str "piece"])=H8 at s8 e8 ⊢;refine⟨_,rfl,c,0,3,rfl,by decide,by decide,by decide,fun x H9 x0 x1 s9=>?_⟩;obtain⟨kd,hkd,ekd⟩:∃k:Kd,k≠.ho/\atI [V.str "piece",.str "push",.str "piece"] x=some (.str (Kd.wd k)):=by
   have:x=0\/x=1\/x=2:=by lia
   rcases this with rfl | rfl | rfl
   ·exact⟨.pc,(fun z=>by cases z),rfl⟩
   ·exact⟨.pu,(fun z=>by cases z),rfl⟩
   ·exact⟨.pc,(fun z=>by cases z),rfl⟩
  refine⟨W2,_,_,_,rfl,rfl,SqL.of (s9 _ _ e8),ekd,_,rfl,?_⟩;have s49:=s47.trans (s8.trans s9);refine⟨r,e,c,kd,us,rwH E,_,_,rfl,s49 _ _ er,hR.same s49,by lia,SqT.of ((s8.trans s9) _ _ e7),fun y t9 d HA HB hy sA dk hij lp bp hpc eB RB=>?_⟩;subst eB;have pt:cH (m:Int) d.2.1 d.2.2.1:=by
   rcases hij with ⟨x,y⟩ | ⟨x,y⟩<;>(rw[x,y];exact⟨by lia,by lia,by lia,by lia⟩)
  have ho:=Sj (m:=m) (t:=t) (d:=d) pt (by rw[dk];exact hkd) lp bp (by rw[dk];exact hpc);have hg':=Hq.ins hg ho rfl (by rw[dk];exact hkd) y;have ee:rwH (E.take y++(none,d) :: E.drop y)=(rwH E).take y++d :: (rwH E).drop y:=Ha ..;rw[<- ee] at RB;exact⟨((s4.trans s49).trans sA).change hr0,by rw[aW nCr];exact(s49.trans sA) _ _ eC4,us.take y++.ref t9 :: us.drop y,E.take y++(none,d) :: E.drop y,some (.int c),some (.ref e),rfl,aD,RB,hg',by rw[Gm,le];lia⟩
 ·rintro σ H4 ⟨s4,_,us,E,z7,z8,rfl,er,hR,hg,le⟩;rw[length_map] at le;exact⟨_,rfl,q r us t E H4 s4 hr0 er hR hg (by lia)⟩
structure PcK (d:RD):Prop where
 l:Low d.2.2.2
 p:0 < d.2.2.2.1
 b:Bd 4 d.2.2.2
def PcN (ds:List RD)(n:Nat):Prop:=∃d,ds[n]?=some d/\PcK d
theorem PcK.fr {d:RD}(h:PcK d):Mq.Fr 360360 15 (1 / Mq.val d.2.2.2):=by
 have p1:=h.l.pos;have p0:=h.p;have e:1 / Mq.val d.2.2.2=((d.2.2.2.2:Int):Rat) / ((d.2.2.2.1:Int):Rat):=by
  have:=jL p1;have:=jL (show 1<=d.2.2.2.1 by lia);unfold Mq.val;grind
 rw[e];have ba:d.2.2.2.1.natAbs < 2 ^ 4:=h.b.a;have bb:d.2.2.2.2.natAbs < 2 ^ 4:=h.b.b;refine Mq.Fr.of (by decide) (by lia) ?_ (by lia);generalize d.2.2.2.1=t at p0 ba;have:t=1\/t=2\/t=3\/t=4\/t=5\/t=6\/t=7\/t=8\/t=9\/t=10\/t=11\/t=12\/t=13\/t=14\/t=15:=by lia
 rcases this with rfl | rfl | rfl | rfl | rfl | rfl | rfl | rfl | rfl | rfl | rfl | rfl | rfl | rfl | rfl<;>decide
theorem Mt {ds:List RD}:∀(ns:List Nat),(∀n∈ns,PcN ds n)->Mq.Fr (360360 ^ ns.length) (15 ^ ns.length) (prW ds ns)
 | [],_=>Mq.Fr.one (by decide)
 |n :: r,h=>by
  obtain⟨d,e,k⟩:=h n (mem_cons_self ..);have ih:=Mt r fun n' h'=>h n' (mem_cons_of_mem _ h');have a:Mq.Fr 360360 15 (wN ds n):=by unfold wN;rw[lT e];exact k.fr
  have p1:(1:Int)<=360360 ^ r.length:=by have:=Int.pow_pos (n:=360360) (m:=r.length) (by decide);lia
  have:=a.mul (by decide) p1 ih;show Mq.Fr (360360 ^ (r.length+1)) (15 ^ (r.length+1)) (wN ds n*prW ds r);rw[Int.pow_succ,Int.mul_comm,Nat.pow_succ,Nat.mul_comm];exact this
abbrev L69:Int:=360360 ^ 3
theorem Tc {ds:List RD}{ns:List Nat}(h:∀n∈ns,PcN ds n)(l:ns.length<=3):Mq.Fr L69 3375 (prW ds ns):=by
 have a:=Mt ns h;have:ns.length=0\/ns.length=1\/ns.length=2\/ns.length=3:=by lia
 rcases this with e | e | e | e<;>rw[e] at a
 ·exact(show (360360:Int) ^ 0*360360 ^ 3=L69 by decide) ▸ (a.lift (K:=360360 ^ 3) (by decide) (by decide)).mono (by decide)
 ·exact(show (360360:Int) ^ 1*360360 ^ 2=L69 by decide) ▸ (a.lift (K:=360360 ^ 2) (by decide) (by decide)).mono (by decide)
 ·exact(show (360360:Int) ^ 2*360360 ^ 1=L69 by decide) ▸ (a.lift (K:=360360 ^ 1) (by decide) (by decide)).mono (by decide)
 ·exact a.mono (by decide)
theorem Nk {p:Q2}{M:Nat}(l:Low p)(h:Mq.Fr L69 M (Mq.val p))(hM:M < 2 ^ 24):Bd 82 p:=by
 have LB:Mq.B 58 L69:=by show (360360 ^ 3:Int).natAbs < 2 ^ 58;decide
 obtain⟨a,ab,ea⟩:=Mq.Fr.get h hM LB (b:=82) (by decide);exact(rP l (by decide) (LB.mono (by decide)) ab ea).1
theorem Ku {ds:List RD}{ns:List Nat}{j n:Nat}(h:ns[j]?=some n):prW ds (ns.take (j+1))=prW ds (ns.take j)*wN ds n:=by
 rw[take_add_one,h,qU];show _*(wN ds n*1)=_;grind
theorem Ln {ds:List RD}{X:List (List Nat)}{i:Nat}{x:List Nat}(h:X[i]?=some x):shR ds (X.take (i+1))=shR ds (X.take i)+prW ds x:=by
 unfold shR;rw[take_add_one,h,map_append,Bc];show _+(prW ds x+0)=_;grind
def Oc (K:Frag):Sp:=fun vs H Q _=>∃(r s:Addr) (us ws:List V) (ds:List RD) (X:List (List Nat)) (H0:Hp),vs=[.ref r,.ref s]/\SqL K H r us/\Rts K H us ds/\ds.length<=40/\SqL K H s ws/\Ils H0 H ws (X.map zi)/\(∀x∈X,x.length<=3/\∀n∈x,PcN ds n)/\X.length<=2000/\∀p a H',aT H H'->Fq K H' a p->Low p->Bd 82 p->Mq.val p=shR ds X->Q (.ref a) H'
abbrev Xl:Stmt:=top 95
theorem rT:aQ ["_law_rows","_law_some","_law_found","_law_numbers","_law_share","_law_number"] ["_law_rows","_law_some"] (aH Xl):=sK9 rfl rfl rfl rfl (by decide +kernel)
theorem Ym {dV:Value}(F:aU K "_law_shares" "_law_shares" Xl dV f fd)(G1:aM P w K mg base CX0 2 g1 gd1 ["_law_one","_law_other"] (sR K))(b1:aL K gd1 ["_law_one","_law_other"] [])(k1:kI9 K g1)(m1:mI9 mg "_law_by" g1)(G2:aM P w K mg base CX0 2 g2 gd2 ["_law_one","_law_other"] (iT K oR))(b2:aL K gd2 ["_law_one","_law_other"] [])(k2:kI9 K g2)(m2:mI9 mg "_law_plus" g2) :
  aM P w K mg base CX 3 f fd ["_law_rows","_law_some"] (Oc K):=by
 refine F.ok rT (fun vs H Q E h=>?_) fun cdv A outer s H vs Q E hr h=>?_
 ·obtain⟨_,_,_,_,_,_,_,rfl,_⟩:=h;rfl
 obtain⟨r,s,us,ws,ds,X,H0,rfl,hS,hR,h40,hW,hI,hX,h2k,q⟩:=h;refine⟨_,(aB (aR (i:=2) rT.nd rfl (Or.inl rfl) (eY (aA aE (aA aE aC))))
  (aB (dB PassesOwn.never rfl (cE (pv 1)) (aZ (i:=3) rT.nd rfl (Or.inl rfl))
   (aB (aR (i:=4) rT.nd rfl (Or.inl rfl) (eY (aA aE (aA aE aC))))
  (aB (dB PassesOwn.never rfl (cE (pv 3)) (aZ (i:=5) rT.nd rfl (Or.inl rfl))
   (aF (aR (i:=4) rT.nd rfl (Or.inl rfl) (aG G1 hr rfl m1 k1 b1 .nil aK (aA (pv 4) (aA (aS aX (aS bM (pv 0) (pv 5) (fun _ _=>rfl)) aE (fun _ _=>rfl)) aC))))))
  (aF (aR (i:=2) rT.nd rfl (Or.inl rfl) (aG G2 hr rfl m2 k2 b2 .nil aK (aA (pv 2) (aA (pv 4) aC))))))))
  (aF (aV (pv 2))))),?_⟩
 have lu:=hR.length;have lw:=hI.l;rw[length_map] at lw;refine⟨zl9 2,fun t0 ht0=>?_⟩;have s0:=aI ht0 (.tup [.int 0,.int 1]);have e0:Fq K (upd H t0 (.tup [.int 0,.int 1])) t0 (0,1):=SqT.of aD;generalize upd H t0 (.tup [.int 0,.int 1])=H1 at s0 e0 ⊢;refine⟨_,rfl,s,rfl,⟨_,s0.seq hW⟩,?_⟩;refine dS (xs:=ws) (fun i σ' H'=>aT H H'/\∃(f0:Addr) (p:Q2) (z3 z4 z5:Option V),σ'=[some (.ref r),some (.ref s),some (.ref f0),z3,z4,z5]/\Fq K H' f0 p/\Low p/\Mq.Fr L69 (i*3375) (Mq.val p)/\Mq.val p=shR ds (X.take i)) ⟨s0,t0,(0,1),none,none,none,rfl,e0,⟨by decide,by decide⟩,by rw[pQ];exact Mq.Fr.zero.mono (Nat.zero_le _),by rw[pQ];rfl⟩ (fun i σ' H' _ h=>h.1.seq hW) ?_ ?_
 ·rintro i x σ' H2 hx ⟨s2,f0,p,z3,z4,z5,rfl,f2,lp,fp,vp⟩;have hi:i < X.length:=by have:=(List.getElem?_eq_some_iff.mp hx).1;lia
  obtain⟨y,hy⟩:∃y,X[i]?=some y:=⟨_,getElem?_eq_getElem hi⟩
  obtain⟨l3,pk⟩:=hX y (mem_of_getElem? hy);obtain⟨ya,rfl,_,ey⟩:=hI.r i x (zi y) hx (by rw[getElem?_map,hy];rfl);refine iG (fun σ' H'=>aT H2 H'/\∃(h0:Addr) (z5:Option V),σ'=[some (.ref r),some (.ref s),some (.ref f0),some (.ref ya),some (.ref h0),z5]/\Fq K H' h0 (1,1)) (fun X1 hX1=>?_) ?_
  ·refine⟨zl9 2,fun t1 ht1=>?_⟩;exact hX1 _ _ ⟨aI ht1 _,t1,_,rfl,SqT.of aD⟩
  rintro σ3 H3 ⟨s3,h0,z5',rfl,fh⟩;have s03:=s2.trans s3;refine iG (fun σ' H'=>aT H2 H'/\∃(h0:Addr) (g:Q2) (z5:Option V),σ'=[some (.ref r),some (.ref s),some (.ref f0),some (.ref ya),some (.ref h0),z5]/\Fq K H' h0 g/\Low g/\Mq.val g=prW ds y) (fun X1 hX1=>?_) ?_
  ·refine⟨_,rfl,ya,rfl,⟨_,SqL.of (s03 _ _ ey)⟩,?_⟩;refine dS (xs:=(zi y).map V.int) (fun j σ' H'=>aT H2 H'/\∃(h0:Addr) (g:Q2) (z5:Option V),σ'=[some (.ref r),some (.ref s),some (.ref f0),some (.ref ya),some (.ref h0),z5]/\Fq K H' h0 g/\Low g/\Bd (1+5*j) g/\Mq.val g=prW ds (y.take j)) ⟨s3,h0,(1,1),z5',rfl,fh,⟨by decide,by decide⟩,⟨show (1:Nat) < 2 ^ 1 by decide,show (1:Nat) < 2 ^ 1 by decide⟩,by rw[Ge];rfl⟩ (fun j σ' H' _ h=>SqL.of ((s2.trans h.1) _ _ ey)) ?_ ?_
   ·rintro j x σ' H4 hx4 ⟨s4,h4,g,z5'',rfl,f4,lg,bg,vg⟩;have hj:j < y.length:=by have:=(List.getElem?_eq_some_iff.mp hx4).1;rw[length_map,gZ] at this;exact this
    obtain⟨n,hn⟩:∃n,y[j]?=some n:=⟨_,getElem?_eq_getElem hj⟩
    have ex:x=.int (n:Int):=by rw[getElem?_map,Cr hn] at hx4;exact(Option.some.inj hx4).symm
    subst ex;obtain⟨d,hd,k⟩:=pk n (mem_of_getElem? hn);obtain⟨t,z,et,ht,fz⟩:=hR.at hd;have s24:=s2.trans s4;refine⟨_,rfl,_,rfl,_,rfl,r,us,_,_,rfl,rfl,s24.seq hS,bS et,t,_,_,_,rfl,rfl,s24.seqT ht,rfl,?_⟩;refine⟨h4,z,g,d.2.2.2,1+5*j,4,rfl,f4,s24.fq fz,lg.pos,k.l.pos,by have:=k.p;lia,bg,k.b,by lia,fun v H5 s5 e5=>?_⟩;have d0:d.2.2.2.1≠0:=by have:=k.p;lia
    refine⟨s4.trans s5,v,_,_,rfl,Fq.of e5,sH lg.pos d0,(xF bg k.b lg.pos d0).mono (by lia),?_⟩;rw[rD lg.pos k.l.pos d0,vg,Ku hn];unfold wN;rw[lT hd,Rat.div_def,Rat.div_def];grind
   ·rintro σ' H4 ⟨s4,h4,g,z5'',rfl,f4,lg,bg,vg⟩;rw[length_map,gZ,take_length] at vg;exact hX1 _ _ ⟨s4,h4,g,z5'',rfl,f4,lg,vg⟩
  rintro σ4 H4 ⟨s4,h4,g,z5'',rfl,f4,lg,vg⟩;have fg:=Tc pk l3;rw[<- vg] at fg;refine⟨_,rfl,_,rfl,f0,h4,p,g,82,82,rfl,s4.fq f2,f4,lp.pos,lg.pos,Nk lp fp (by lia),Nk lg fg (by decide),by decide,fun v H5 s5 e5=>?_⟩;refine⟨s2.trans (s4.trans s5),v,_,_,_,_,rfl,Fq.of e5,tQ lp.pos lg.pos,?_,?_⟩
  ·rw[mQ lp.pos lg.pos,Nat.succ_mul];exact fp.add fg
  ·rw[mQ lp.pos lg.pos,vp,vg,Ln hy]
 ·rintro σ' H2 ⟨s2,f0,p,z3,z4,z5,rfl,f2,lp,fp,vp⟩;rw[lw,take_length] at vp;exact⟨_,rfl,q p f0 H2 s2 f2 lp (Nk lp fp (by lia)) vp⟩
theorem Tz (p c:Int):eqV (.int p) (.int c)=decide (p=c):=by unfold eqV;first | rfl | simp
theorem tZ (c:Int):∀ps:List Int,inV (.int c) (ps.map V.int)=decide (c∈ps)
 | []=>rfl
 |p :: ps=>by
  have ih:=tZ c ps;show (eqV (.int p) (.int c) || inV (.int c) (ps.map V.int))=_;rw[ih,Tz]
  by_cases h:p=c
  ·subst h;simp
  ·have h':c≠p:=fun z=>h z.symm;simp[h,h']
theorem Bs {X:Cx}{K:Frag}(h:X.K=K):OpR X (compareOp .In) (rIn K false):=by subst h;exact wQ
theorem Lu {K:Frag}{H:Hp}{a b:Addr}{p:Q2}{Q:VK}(h1:Fq K H a p)(h2:Fq K H b p)(z:Q (.bl false) H):Kw K true (.ref a) (.ref b) H Q:=by
 refine Ni h1 h2 ?_;show Q (.bl (!decide (p=p))) H;rw[decide_eq_true rfl];exact z
theorem Kl (a:Nat):∀n,iK (fun _=>a) n=(4*a+20)*n
 |0=>rfl
 |n+1=>by show iK _ n+(4*a+20)=_;rw[Kl a n,Nat.mul_succ]
structure D69 (m b:Nat) (L:Int) (ds:List RD):Prop where
 o:Nof m ds
 m4:m<=4
 len:ds.length<=10
 ok:∀d∈ds,Co (m:Int) d/\Bd 20 d.2.2.2
 eb:EqB m b L ds
 hbw:bw b (wd m ds)<=530
 nh:Js ds
 pk:∀d∈ds,d.1=.pc->PcK d
section
variable {CN:Addr} {H H':Hp} {n l:Addr} {m b:Nat} {L:Int} {ds:List RD}
theorem D69.nb (w:D69 m b L ds)(nt:eO CN K H n l (m:Int) ds):Jt CN K H n l m b (fun _=>20) L ds:=by
 have:=w.m4;have:=w.len;exact⟨nt,fun i d hd=>w.ok d (mem_of_getElem? hd),by lia,by lia,by rw[Kl];lia,w.eb⟩
theorem D69.np (w:D69 m b L ds)(nt:eO CN K H n l (m:Int) ds):NtP CN K H n l m ds:=by
 have:=w.m4;have:=w.len;exact⟨nt,w.o.pt,w.o.m1,by lia,by lia⟩
theorem D69.p12 (w:D69 m b L ds):(pcs ds).length<=10:=Nat.le_trans (Ey ds) w.len
theorem D69.pn (w:D69 m b L ds){x:Nat}(h:x∈pcs ds):PcN ds x:=by
 obtain⟨d,e,k⟩:=oP h;exact⟨d,e,w.pk d (mem_of_getElem? e) k⟩
theorem D69.lists (w:D69 m b L ds){t:Nat}(t3:t<=3):((dZ (sgF ds) (pcs ds) m t).map (·.1)).length<=2000/\∀x∈(dZ (sgF ds) (pcs ds) m t).map (·.1),x.length<=3/\∀n∈x,PcN ds n:=by
 refine⟨?_,fun x hx=>?_⟩
 ·rw[length_map];refine Nat.le_trans (sK (sgF ds) (pcs ds) m t) (Nat.le_trans (Nat.pow_le_pow_left w.p12 t) (Nat.le_trans (Nat.pow_le_pow_right (by decide) t3) (by decide)))
 ·obtain⟨_,h2,h3⟩:=xE hx;exact⟨by lia,fun n hn=>w.pn (h3 n hn)⟩
end
theorem Xb (m:Nat)(ds:List RD):trL m ds=(trN m ds).map zi:=by unfold trL trN;rw[map_map];rfl
theorem Kt (m:Nat)(ds:List RD)(a b:Nat):ptL m ds a b=(ptN m ds a b).map zi:=by unfold ptL ptN ptF;rw[map_map];rfl
theorem Ps {a:Nat}{x:List Nat}:((a:Int)∈zi x)↔a∈x:=by
 unfold zi;rw[mem_map];exact⟨fun ⟨b,h,e⟩=>by rwa [<- show b=a by lia],fun h=>⟨a,h,rfl⟩⟩
theorem Kk {H0 H:Hp}{us:List V}{X:List (List Int)}{a:Addr}{y:List Int}(f:Ils H0 H us X)(n:H0 a=none)(h:H a=some (.lst (y.map V.int))):Ils H0 H (us++[.ref a]) (X++[y]):=Ils.snoc f n h
theorem qc6 {X:List (List Nat)}{i a:Nat}{y:List Nat}(h:X[i]?=some y):(X.take (i+1)).filter (fun x=>decide (a∈x))=(X.take i).filter (fun x=>decide (a∈x))++if a∈y then [y] else []:=by
 rw[take_add_one,h,filter_append];congr 1
 by_cases c:a∈y
 ·rw[if_pos c];show List.filter _ [y]=_;rw[filter_cons_of_pos (by simpa using c)];rfl
 ·rw[if_neg c];show List.filter _ [y]=_;rw[filter_cons_of_neg (by simpa using c)];rfl
theorem qe6 {x:List Nat}{i a k:Nat}(h:x[i]?=some k):xR a (x.take (i+1))=xR a (x.take i)++if k=a then [] else [k]:=by
 unfold xR;rw[take_add_one,h,filter_append];congr 1
 by_cases c:k=a
 ·rw[if_pos c];show List.filter _ [k]=_;rw[filter_cons_of_neg (by simpa using c)];rfl
 ·rw[if_neg c];show List.filter _ [k]=_;rw[filter_cons_of_pos (by simpa using c)];rfl
def Vj (CN:Addr)(K:Frag):Sp:=fun vs H Q _=>∃(n l r kw w:Addr) (us ws:List V) (m b at_:Nat) (L:Int) (ds:List RD) (H0:Hp) (p:Q2),vs=[.ref n,.ref r,.int (at_:Int),.ref kw,.ref w]/\D69 m b L ds/\eO CN K H n l (m:Int) ds/\SqL K H r us/\Rts K H us ds/\at_∈pcs ds/\SqL K H kw ws/\Ils H0 H ws ((trN m ds).map zi)/\Fq K H w p/\Low p/\Bd 3400 p/\Mq.val p=fZ m ds/\∀H',aT H H'->Q (.bl true) H'
theorem uU:(["_law_numbers","_law_at"]:List Str).Nodup:=by decide +kernel
theorem xT:(["_law_number","_law_at"]:List Str).Nodup:=by decide +kernel
abbrev Xc:Stmt:=top 96
theorem oF:aQ ["_law_net_here","_law_rows","_law_at","_law_known","_law_whole","_law_word","_law_start","_law_goal","_law_size_here","_law_among","_law_due","_law_parted","_law_numbers"] ["_law_net_here","_law_rows","_law_at","_law_known","_law_whole"] (aH Xc):=sK9 rfl rfl rfl rfl (by decide +kernel)
theorem Vp {dV:Value}(F:aU K "_law_by_piece" "_law_by_piece" Xc dV f fd){CN:Addr}(ml:mg "len"=none)(G1:aM P w K mg base CX0 2 g1 gd1 ["_law_one","_law_other"] (iT K tO))(b1:aL K gd1 ["_law_one","_law_other"] [])(k1:kI9 K g1)(m1:mI9 mg "_law_times" g1)(G2:aM P w K mg base CX0 2 g2 gd2 ["_law_one","_law_other"] (sR K))(b2:aL K gd2 ["_law_one","_law_other"] [])(k2:kI9 K g2)(m2:mI9 mg "_law_by" g2)(G3:aM P w K mg base CX0 9 g3 gd3 ["net","a","b"] (Nl CN K))(b3:aL K gd3 ["net","a","b"] [])(k3:kI9 K g3)(m3:mI9 mg "between" g3)(G4:aM P w K mg base CX0 3 g4 gd4 ["_law_rows","_law_some"] (Oc K))(b4:aL K gd4 ["_law_rows","_law_some"] [])(k4:kI9 K g4)(m4:mI9 mg "_law_shares" g4)(G5:aM P w K mg base CX0 8 g5 gd5 ["net","a","b"] (Bv CN K))(b5:aL K gd5 ["net","a","b"] [])(k5:kI9 K g5)(m5:mI9 mg "partings" g5) :
  aM P w K mg base CX 10 f fd ["_law_net_here","_law_rows","_law_at","_law_known","_law_whole"] (Vj CN K):=by
 refine F.ok oF (fun vs H Q E h=>?_) fun cdv A outer s H vs Q E hr h=>?_
 ·obtain⟨_,_,_,_,_,_,_,_,_,_,_,_,_,_,rfl,_⟩:=h;rfl
 obtain⟨n,l,r,kw,w,us,ws,m,b,at_,L,ds,H0,p,rfl,W,nt,hS,hR,hat,hW,hI,fp,lp,bp,vp,q⟩:=h;have hu:=hr.units;have r2:=hr.mono (show 2<=9 by lia);have r3:=hr.mono (show 3<=9 by lia);have r8:=hr.mono (show 8<=9 by lia);refine⟨_,(aB (tF (aS bM (pv 1) (pv 2) (fun _ _=>rfl)) (iY rfl (cK (aZ (i:=5) oF.nd rfl (Or.inl rfl)) (cK (aZ (i:=6) oF.nd rfl (Or.inl rfl)) (cK (aZ (i:=7) oF.nd rfl (Or.inl rfl)) (cK (aZ (i:=8) oF.nd rfl (Or.inl rfl)) gR))))))
  (aB (oJ (i:=9) (nl:=1) (fr:=[2]) (Nc:=["_law_numbers","_law_at"]) (cl:=[("_law_at",s.heap.objs.size+1)]) oF.nd rfl rfl rfl ⟨rfl,rfl,by decide +kernel,by decide +kernel,fun x c h=>h,dU rfl,rfl,fun i n h=>match i,h with | 0,h=>by cases h;exact⟨2,rfl,rfl,rfl,rfl,.inl rfl⟩ | k+1,h=>by rw[show 1+(k+1)=k+2 by lia] at h;cases h⟩
    (cE (pv 3)) (fun C s3 H3 fp pins=>(aZ (i:=0) uU rfl (Or.inl rfl))) (fun C s3 H3 fp pins=>(iW (bF (Bs (K:=K) rfl) (pv 1) (pv 0) rfl)))
    (fun C s3 H3 fp pins=>(pv 0)) rfl)
  (aB (aR (i:=10) oF.nd rfl (Or.inl rfl) (aG G1 r2 rfl m1 k1 b1 .nil aK (aA (aG G2 r2 rfl m2 k2 b2 .nil aK (aA (aG G3 hr rfl m3 k3 b3 .nil aK (aA (pv 0) (aA (pv 6) (aA (pv 7) aC)))) (aA (pv 8) aC))) (aA (pv 4) aC))))
  (aB (cC (bF (Op hu) (aG G4 r3 rfl m4 k4 b4 .nil aK (aA (pv 1) (aA (pv 9) aC))) (pv 10) (bH _)) (aF (aV iH)) bK)
  (aB (aR (i:=11) oF.nd rfl (Or.inl rfl) (aG G5 r8 rfl m5 k5 b5 .nil aK (aA (pv 0) (aA (pv 6) (aA (pv 7) aC)))))
  (aB (dB PassesOwn.never rfl (cE (pv 9)) (aZ (i:=12) oF.nd rfl (Or.inl rfl))
   (aF (cC (bF (Ig hu) (eI (nl:=1) (fr:=[2]) (Nc:=["_law_number","_law_at"]) (cl:=[("_law_at",s.heap.objs.size+1)]) rfl ⟨rfl,rfl,by decide +kernel,by decide +kernel,fun x c h=>h,dU rfl,rfl,fun i n h=>match i,h with | 0,h=>by cases h;exact⟨2,rfl,rfl,rfl,rfl,.inl rfl⟩ | k+1,h=>by rw[show 1+(k+1)=k+2 by lia] at h;cases h⟩
    (cE (pv 12)) (fun C s3 H3 fp pins=>(aZ (i:=0) xT rfl (Or.inl rfl))) (fun C s3 H3 fp pins=>(iW (bF jX (pv 0) (pv 1) (bH _))))
    (fun C s3 H3 fp pins=>(pv 0))) (pv 11) rfl) (aF (aV iH)) bK)))
  (aF (aV (gW fG (bO bG rfl ml PySem.boot_len (aA (pv 9) aC)) (bO bG rfl ml PySem.boot_len (aA (pv 11) aC)) (bH _)))))))))),?_⟩
 obtain⟨⟨kd,u,v,sz⟩,hd,hk⟩:=oP hat;have hk:kd=.pc:=hk;subst hk;have mem:=mem_of_getElem? hd;have k:=W.pk _ mem rfl;obtain⟨i0,i1,j0,j1⟩:=W.o.pt _ mem;have i0:(0:Int)<=u:=i0;have i1:u < (m:Int):=i1;have j0:(0:Int)<=v:=j0;have j1:v < (m:Int):=j1;obtain⟨sN,rfl⟩:∃sN:Nat,u=(sN:Int):=⟨u.toNat,by lia⟩
 obtain⟨gN,rfl⟩:∃gN:Nat,v=(gN:Int):=⟨v.toNat,by lia⟩
 have esg:sgF ds at_=(sN,gN):=by rw[kH hd];rfl
 have ewn:wN ds at_=1 / Mq.val sz:=by unfold wN;rw[lT hd]
 obtain⟨t,z,et,ht,fz⟩:=hR.at hd;have kl:Low sz:=k.l;have kp:0 < sz.1:=k.p;have kb:Bd 4 sz:=k.b;have m4:=W.m4;have l10:=W.len;have lw:=hI.l;rw[length_map] at lw;obtain⟨lt,pt⟩:=W.lists (t:=m - 1) (by lia);have lt:(trN m ds).length<=2000:=lt;have am:=sI (m:=m) W.o.pt hat;have asm:=Hu (m:=m) W.o.pt hat;rw[esg] at am asm;refine⟨_,rfl,_,rfl,r,us,_,_,rfl,rfl,hS,bS et,t,_,rfl,ht,rfl,_,_,rfl,_,_,rfl,_,_,rfl,_,_,rfl,rfl,?_⟩
 try dsimp only
 refine iG (fun σ' H'=>aT H H'/\∃(A:Addr) (as:List V),σ'=[some (.ref n),some (.ref r),some (.int (at_:Int)),some (.ref kw),some (.ref w),some (.str "piece"),some (.int (sN:Int)),some (.int (gN:Int)),some (.ref z),some (.ref A),none,none,none]/\SqL K H' A as/\Ils H0 H' as (((trN m ds).filter fun x=>decide (at_∈x)).map zi)) (fun X hX=>?_) ?_
 ·refine⟨_,rfl,kw,rfl,⟨_,hW⟩,fun D hD=>?_⟩;have sD:=aI hD (.lst []);refine cZ (xs:=ws) (fun i zs H'=>aT H H'/\H' D=some (.lst zs)/\Ils H0 H zs ((((trN m ds).take i).filter fun x=>decide (at_∈x)).map zi)) ⟨sD,aD,⟨rfl,fun i x ps h=>by simp at h⟩⟩ (fun i zs H' h=>h.2.1) (fun i zs H' _ h=>h.1.seq hW) ?_ ?_
  ·rintro i zs x H1 hx ⟨s1,e1,I1⟩ C hC;have hi:i < (trN m ds).length:=by have:=(List.getElem?_eq_some_iff.mp hx).1;lia
   obtain⟨y,hy⟩:∃y,(trN m ds)[i]?=some y:=⟨_,getElem?_eq_getElem hi⟩
   obtain⟨ya,rfl,ny,ey⟩:=hI.r i x (zi y) hx (by rw[getElem?_map,hy];rfl);have e2:=qc6 (a:=at_) hy;have lz:=I1.l;rw[length_map] at lz;have lf:(((trN m ds).take i).filter fun x=>decide (at_∈x)).length<=2000:=Nat.le_trans (length_filter_le _ _) (by rw[length_take];lia);refine⟨dC.1,dC.2,?_⟩;refine⟨_,rfl,_,rfl,ya,_,rfl,.inl (SqL.of (s1 _ _ ey)),rfl,by rw[all_eq_true];intro x hx;obtain⟨c,_,rfl⟩:=mem_map.mp hx;rfl,_,rfl,?_⟩
   by_cases c:at_∈y
   ·refine L2.ifT (by show inV (.int (at_:Int)) ((zi y).map V.int)=true;rw[tZ];exact decide_eq_true (Ps.mpr c)) ⟨_,rfl,e1,by rw[sizeLine_eq];lia,hC _ _ ⟨s1.change hD,aD,?_⟩⟩;rw[e2,if_pos c,map_append];exact Kk I1 ny ey
   ·refine L2.ifF (by show inV (.int (at_:Int)) ((zi y).map V.int)=false;rw[tZ];exact decide_eq_false fun z=>c (Ps.mp z)) (hC _ _ ⟨s1,e1,?_⟩);rw[e2,if_neg c,append_nil];exact I1
  ·rintro zs H1 ⟨s1,e1,I1⟩;rw[lw,take_length] at I1;exact hX _ _ ⟨s1,D,zs,rfl,SqL.of e1,iR s1 I1⟩
 rintro σ1 H1 ⟨s1,A,as,rfl,hA,IA⟩;have la:=IA.l;rw[length_map] at la;have lam:((trN m ds).filter fun x=>decide (at_∈x)).length<=2000:=Nat.le_trans (length_filter_le _ _) lt;refine iG (fun σ' H'=>aT H1 H'/\∃(D:Addr) (g:Q2),σ'=[some (.ref n),some (.ref r),some (.int (at_:Int)),some (.ref kw),some (.ref w),some (.str "piece"),some (.int (sN:Int)),some (.int (gN:Int)),some (.ref z),some (.ref A),some (.ref D),none,none]/\Fq K H' D g/\Low g/\Mq.val g=shR ds ((trN m ds).filter fun x=>decide (at_∈x))) (fun X hX=>?_) ?_
 ·refine⟨_,rfl,_,rfl,_,rfl,n,l,m,b,fun _=>20,L,ds,sN,gN,rfl,W.nb (nt.same s1),by lia,by lia,fun r1 p1 v1 H2 s2 f2 l2 b2 sol v2=>?_⟩;have ps:=pU W.o.m1 m4 W.o.pt W.nh sol (by lia) (by lia);have z0:sz.1≠0:=by lia
  have hb:=W.hbw;refine⟨_,rfl,r1,z,p1,sz,531,4,rfl,f2,(s1.trans s2).fq fz,l2.pos,kl.pos,kp,b2.mono (by lia),kb,by decide,fun r3 H3 s3 e3=>?_⟩;have lo:=sH l2.pos z0;refine⟨_,rfl,r3,w,_,p,535,3400,rfl,Fq.of e3,(s1.trans (s2.trans s3)).fq fp,lo.pos,lp.pos,(xF (b2.mono (show _<=531 by lia)) kb l2.pos z0).mono (by decide),bp,by decide,fun r4 H4 s4 e4=>?_⟩;refine hX _ _ ⟨s2.trans (s3.trans s4),r4,_,rfl,Fq.of e4,uW lo.pos lp.pos,?_⟩;rw[vU lo.pos lp.pos,rD l2.pos kl.pos z0,v2,vp,asm,ps,ewn,Rat.div_def,Rat.div_def];grind
 rintro σ2 H2 ⟨s2,D,g,rfl,fD,lg,vg⟩;have s02:=s1.trans s2;refine iG (fun σ' H'=>aT H2 H'/\σ'=[some (.ref n),some (.ref r),some (.int (at_:Int)),some (.ref kw),some (.ref w),some (.str "piece"),some (.int (sN:Int)),some (.int (gN:Int)),some (.ref z),some (.ref A),some (.ref D),none,none]) (fun X hX=>?_) ?_
 ·refine⟨_,rfl,_,rfl,r,A,us,as,ds,_,H0,rfl,s02.seq hS,hR.same s02,by lia,s2.seq hA,iR s2 IA,fun x hx=>pt x (mem_filter.mp hx).1,lam,fun p3 a3 H3 s3 f3 l3 b3 v3=>?_⟩;have e:p3=g:=wX l3 lg (by rw[v3,vg]);subst e;exact⟨_,rfl,Lu f3 (s3.fq fD) ⟨_,rfl,fB (hX _ _ ⟨s3,rfl⟩)⟩⟩
 rintro σ3 H3 ⟨s3,rfl⟩;have s03:=s02.trans s3;refine iG (fun σ' H'=>aT H3 H'/\∃(P':Addr) (qs:List V),σ'=[some (.ref n),some (.ref r),some (.int (at_:Int)),some (.ref kw),some (.ref w),some (.str "piece"),some (.int (sN:Int)),some (.int (gN:Int)),some (.ref z),some (.ref A),some (.ref D),some (.ref P'),none]/\SqL K H' P' qs/\Ils H3 H' qs ((ptN m ds sN gN).map zi)) (fun X hX=>?_) ?_
 ·refine⟨_,rfl,_,rfl,_,rfl,n,l,m,sN,gN,ds,rfl,W.np (nt.same s03),by lia,by lia,by lia,W.nh,by have:=W.p12;lia,fun l' qs H4 s4 n4 e4 I4 x4=>?_⟩;rw[Kt] at I4;exact hX _ _ ⟨s4,l',qs,rfl,SqL.of e4,I4⟩
 rintro σ4 H4 ⟨s4,P',qs,rfl,hP,IP⟩;have hA4:=(s2.trans (s3.trans s4)).seq hA;have IA4:=iR (s2.trans (s3.trans s4)) IA;have lq:=IP.l;rw[length_map] at lq;refine iG (fun σ' H'=>aT H4 H'/\∃z12:Option V,σ'=[some (.ref n),some (.ref r),some (.int (at_:Int)),some (.ref kw),some (.ref w),some (.str "piece"),some (.int (sN:Int)),some (.int (gN:Int)),some (.ref z),some (.ref A),some (.ref D),some (.ref P'),z12]) (fun X hX=>?_) ?_
 ·refine⟨_,rfl,A,rfl,⟨_,hA4⟩,?_⟩;refine dS (xs:=as) (fun i σ' H'=>aT H4 H'/\∃z12:Option V,σ'=[some (.ref n),some (.ref r),some (.int (at_:Int)),some (.ref kw),some (.ref w),some (.str "piece"),some (.int (sN:Int)),some (.int (gN:Int)),some (.ref z),some (.ref A),some (.ref D),some (.ref P'),z12]) ⟨aT.refl _,none,rfl⟩ (fun i σ' H' _ h=>h.1.seq hA4) ?_ ?_
  ·rintro i x σ' H5 hx ⟨s5,z12,rfl⟩;have hi:i < ((trN m ds).filter fun x=>decide (at_∈x)).length:=by have:=(List.getElem?_eq_some_iff.mp hx).1;lia
   obtain⟨y,hy⟩:∃y,((trN m ds).filter fun x=>decide (at_∈x))[i]?=some y:=⟨_,getElem?_eq_getElem hi⟩
   have my:=mem_of_getElem? hy;obtain⟨ya,rfl,ny,ey⟩:=IA4.r i x (zi y) hx (by rw[getElem?_map,hy];rfl);have l3:=(pt y (mem_filter.mp my).1).1;have inp:xR at_ y∈ptN m ds sN gN:=am.mem_iff.mp (mem_map.mpr ⟨y,my,rfl⟩);refine⟨_,rfl,ya,rfl,⟨_,SqL.of (s5 _ _ ey)⟩,fun C hC=>?_⟩;have sC:=aI hC (.lst []);refine cZ (xs:=(zi y).map V.int) (fun j zs H'=>aT H5 H'/\H' C=some (.lst zs)/\zs=(zi (xR at_ (y.take j))).map V.int) ⟨sC,aD,rfl⟩ (fun j zs H' h=>h.2.1) (fun j zs H' _ h=>h.1.seq (SqL.of (s5 _ _ ey))) ?_ ?_
   ·rintro j zs x H6 hx6 ⟨s6,e6,rfl⟩ Cc hCc;have hj:j < y.length:=by have:=(List.getElem?_eq_some_iff.mp hx6).1;rw[length_map,gZ] at this;exact this
    obtain⟨k6,hk6⟩:∃k6,y[j]?=some k6:=⟨_,getElem?_eq_getElem hj⟩
    have ex:x=.int (k6:Int):=by rw[getElem?_map,Cr hk6] at hx6;exact(Option.some.inj hx6).symm
    subst ex;have e7:=qe6 (a:=at_) hk6;refine⟨dC.1,dC.2,?_⟩;refine⟨_,rfl,_,rfl,rfl,_,rfl,?_⟩
    by_cases c:k6=at_
    ·refine L2.ifF (by show (!decide (V.int (k6:Int)=V.int (at_:Int)))=false;rw[c,decide_eq_true rfl];rfl) (hCc _ _ ⟨s6,e6,?_⟩);rw[e7,if_pos c,append_nil]
    ·refine L2.ifT (by show (!decide (V.int (k6:Int)=V.int (at_:Int)))=true;rw[decide_eq_false fun z=>c (by cases z;lia)];rfl) ⟨_,rfl,e6,bL ?_,hCc _ _ ⟨s6.change hC,aD,?_⟩⟩
     ·rw[length_map,gZ];exact Nat.le_trans (Nat.le_trans (length_filter_le _ _) (show (y.take j).length<=3 by rw[length_take];lia)) (show 3<=1000 by decide)
     ·rw[e7,if_neg c,qR,map_append];rfl
   ·rintro zs H6 ⟨s6,e6,rfl⟩;rw[length_map,gZ,take_length] at e6;refine⟨_,rfl,Xr (SqL.of e6) ((s5.trans s6).seq hP) (iR (s5.trans s6) IP) (mem_map.mpr ⟨_,inp,rfl⟩) ⟨_,rfl,fB ⟨s5.trans s6,_,rfl⟩⟩⟩
  ·rintro σ' H5 ⟨s5,z12,rfl⟩;exact hX _ _ ⟨s5,z12,rfl⟩
 rintro σ5 H5 ⟨s5,z12,rfl⟩;have le:=am.length_eq;rw[length_map] at le;refine⟨_,rfl,A,_,rfl,.inl (s5.seq hA4),_,rfl,P',_,rfl,.inl (s5.seq hP),rfl,?_⟩;rw[la,lq,le];show Q (.bl (decide (V.int _=V.int _))) _;rw[decide_eq_true rfl];exact q _ (s03.trans (s4.trans s5))
theorem Yx {ds:List RD}{n:Nat}(h:PcN ds n):0 < wN ds n:=by
 obtain⟨d,e,k⟩:=h;unfold wN;rw[lT e,Rat.div_def,Rat.one_mul];refine Rat.inv_pos.mpr ?_;have:=k.l.pos;have:=k.p;unfold Mq.val;rw[Rat.div_def];exact Rat.mul_pos (by exact_mod_cast k.p) (Rat.inv_pos.mpr (by exact_mod_cast (show 0 < d.2.2.2.2 by lia)))
theorem Ow {ds:List RD}:∀{x:List Nat},(∀n∈x,PcN ds n)->0<=prW ds x
 | [],_=>by show (0:Rat)<=1;decide
 |n :: r,h=>Rat.mul_nonneg (Rat.le_of_lt (Yx (h n (mem_cons_self ..)))) (Ow fun n' h'=>h n' (mem_cons_of_mem _ h'))
theorem Nr {ds:List RD}:∀{X:List (List Nat)},(∀x∈X,∀n∈x,PcN ds n)->0<=shR ds X
 | [],_=>Rat.le_refl
 |x :: X,h=>by
  have a:=Ow (h x (mem_cons_self ..));have b:=Nr fun y hy=>h y (mem_cons_of_mem _ hy);show 0<=prW ds x+shR ds X;exact Rat.add_nonneg a b
theorem Rk {p:Q2}(l:Low p)(h:0<=Mq.val p)(n:Mq.val p≠0):0 < p.1:=by
 have l1:=l.pos;have e:((p.1:Int):Rat)=Mq.val p*((p.2:Int):Rat):=by
  have:=jL l1;unfold Mq.val;grind
 have:(0:Rat)<=((p.1:Int):Rat):=by rw[e];exact Rat.mul_nonneg h (by exact_mod_cast (show (0:Int)<=p.2 by lia))
 have p0:(0:Int)<=p.1:=by exact_mod_cast this
 rcases Int.lt_or_le 0 p.1 with z | z
 ·exact z
 ·exfalso
  have:p.1=0:=by lia
  apply n;unfold Mq.val;rw[this];show (0:Rat) / _=0;rw[Rat.div_def];grind
theorem Vr {m bl t:Nat}{E:List Hn}(hq:Hq [.pc] m t m E)(m4:m<=4)(le:E.length<=m - 1+7):∃b L,D69 m b L (rwH E):=by
 have hg:=hq.h;have lE:(rwH E).length=E.length:=length_map ..;have o:=hg.nof;have hl:=hg.hold_le;obtain⟨L1,LB,dv⟩:=hg.L;have okd:∀d∈rwH E,Co (m:Int) d/\Bd 20 d.2.2.2:=fun d hd=>by
  obtain⟨e,he,rfl⟩:=mem_map.mp hd;have oe:=hg.en e he;obtain⟨p1,p2,p3,p4⟩:=oe.pt;exact⟨⟨p1,p2,p3,p4,oe.sl,fun hk=>(oe.pc hk).1,oe.bd.mono (by lia)⟩,oe.bd.mono (by lia)⟩
 have w6:wd m (rwH E)<=6:=by unfold wd;lia
 refine⟨69,_,o,m4,by lia,okd,Yk o L1 LB dv (by lia) w6 (by lia),?_,fun d hd z=>?_,fun d hd hk=>?_⟩
 ·show (69+5)*(wd m (rwH E)+1)+8<=530;lia
 ·obtain⟨e,he,rfl⟩:=mem_map.mp hd;have:=hq.k e he z;simp at this
 ·obtain⟨e,he,rfl⟩:=mem_map.mp hd;have oe:=hg.en e he;exact⟨oe.sl,(oe.pc hk).1,(oe.pc hk).2⟩
theorem D69.ts {m b:Nat}{L:Int}{ds:List RD}(w:D69 m b L ds):Zo m ds:=by
 have:=w.m4;have:=w.len;refine⟨fun d hd=>⟨(w.ok d hd).1,(w.ok d hd).2.mono (by decide)⟩,w.nh,fun d hd=>⟨(w.ok d hd).1.2.2.2.2.1,fun hk=>?_⟩,by lia,w.o.m1,by lia⟩;have k:=w.pk d hd hk;have ba:d.2.2.2.1.natAbs < 2 ^ 4:=k.b.a;have bb:d.2.2.2.2.natAbs < 2 ^ 4:=k.b.b;have:=k.p;refine⟨k.p,?_,by lia⟩;lia
def Eo (K:Frag):Sp:=fun vs H Q _=>∃(a:Addr) (ns:List Int),vs=[.ref a]/\SqL K H a (ns.map V.int)/\ns.length<=63/\∀H',Q (.bl true) H'
theorem Jg:(["_law_k","_law_rows"]:List Str).Nodup:=by decide +kernel
abbrev xK:Stmt:=top 97
theorem iV:aQ ["_law_script","_law_many","_law_rows","_law_net_here","_law_known","_law_whole","_law_a","_law_b","_law_parted","_law_pieces","_law_cell","_law_k","_law_at"] ["_law_script"] (aH xK):=sK9 rfl rfl rfl rfl (by decide +kernel)
theorem We {dV:Value}(F:aU K "law" "law" xK dV f fd){CN:Addr}(ml:mg "len"=none)(mr:mg "range"=none)(mm:mg "min"=none)(G1:aM P w K mg base CX0 1 g1 gd1 ["_law_script","_law_k"] (Ea K))(b1:aL K gd1 ["_law_script","_law_k"] [])(k1:kI9 K g1)(m1:mI9 mg "_law_draw" g1)(G2:aM P w K mg base CX0 4 g2 gd2 ["_law_script","_law_many","_law_most","_law_words"] (Qb K))(b2:aL K gd2 ["_law_script","_law_many","_law_most","_law_words"] [])(k2:kI9 K g2)(m2:mI9 mg "_law_hanging" g2)(G3:aM P w K mg base CX0 6 g3 gd3 ["_law_many","_law_rows"] (Hb CN K))(b3:aL K gd3 ["_law_many","_law_rows"] [])(k3:kI9 K g3)(m3:mI9 mg "_law_net" g3)(G4:aM P w K mg base CX0 8 g4 gd4 ["net"] (Ep CN K))(b4:aL K gd4 ["net"] [])(k4:kI9 K g4)(m4:mI9 mg "trees" g4)(G5:aM P w K mg base CX0 8 g5 gd5 ["net"] (qe3 CN K))(b5:aL K gd5 ["net"] [])(k5:kI9 K g5)(m5:mI9 mg "tree_sum" g5)(G6:aM P w K mg base CX0 1 g6 gd6 ["_law_found","_law_due"] (Px K))(b6:aL K gd6 ["_law_found","_law_due"] [])(k6:kI9 K g6)(m6:mI9 mg "_law_told" g6)(G7:aM P w K mg base CX0 3 g7 gd7 ["_law_rows","_law_some"] (Oc K))(b7:aL K gd7 ["_law_rows","_law_some"] [])(k7:kI9 K g7)(m7:mI9 mg "_law_shares" g7)(G8:aM P w K mg base CX0 1 g8 gd8 ["_law_cell","_law_turn","_law_many"] zJ)(b8:aL K gd8 ["_law_cell","_law_turn","_law_many"] [])(k8:kI9 K g8)(m8:mI9 mg "_law_mix" g8){g9:Addr}{gd9:FuncData}(G9:aM P w K mg base CX0 8 g9 gd9 ["net","a","b"] (Bv CN K))(b9:aL K gd9 ["net","a","b"] [])(k9:kI9 K g9)(m9:mI9 mg "partings" g9){g10:Addr}{gd10:FuncData}(G10:aM P w K mg base CX0 2 g10 gd10 ["_law_one","_law_other"] (iT K tO))(b10:aL K gd10 ["_law_one","_law_other"] [])(k10:kI9 K g10)(m10:mI9 mg "_law_times" g10){g11:Addr}{gd11:FuncData}(G11:aM P w K mg base CX0 9 g11 gd11 ["net","a","b"] (Nl CN K))(b11:aL K gd11 ["net","a","b"] [])(k11:kI9 K g11)(m11:mI9 mg "between" g11){g12:Addr}{gd12:FuncData}(G12:aM P w K mg base CX0 1 g12 gd12 ["_law_cell","_law_k"] Km)(b12:aL K gd12 ["_law_cell","_law_k"] [])(k12:kI9 K g12)(m12:mI9 mg "_law_part" g12){g13:Addr}{gd13:FuncData}(G13:aM P w K mg base CX0 10 g13 gd13 ["_law_net_here","_law_rows","_law_at","_law_known","_law_whole"] (Vj CN K))(b13:aL K gd13 ["_law_net_here","_law_rows","_law_at","_law_known","_law_whole"] [])(k13:kI9 K g13)(m13:mI9 mg "_law_by_piece" g13) :
  aM P w K mg base CX 11 f fd ["_law_script"] (Eo K):=by
 refine F.ok iV (fun vs H Q E h=>?_) fun cdv A outer s H vs Q E hr h=>?_
 ·obtain⟨_,_,rfl,_⟩:=h;rfl
 obtain⟨a,ns,rfl,hS,h63,q⟩:=h;have hu:=hr.units;have r1:=hr.mono (show 1<=10 by lia);have r2:=hr.mono (show 2<=10 by lia);have r3:=hr.mono (show 3<=10 by lia);have r4:=hr.mono (show 4<=10 by lia);have r6:=hr.mono (show 6<=10 by lia);have r8:=hr.mono (show 8<=10 by lia);have r9:=hr.mono (show 9<=10 by lia);refine⟨_,(aB (aR (i:=1) iV.nd rfl (Or.inl rfl) (aY eE aE (aY uH (aG G1 r1 rfl m1 k1 b1 .nil aK (aA (pv 0) (aA aE aC))) aE)))
  (aB (aR (i:=2) iV.nd rfl (Or.inr rfl) (aG G2 r4 rfl m2 k2 b2 .nil aK (aA (pv 0) (aA (pv 1) (aA aE (aA (cT (aA cS aC)) aC))))))
  (aB (aR (i:=3) iV.nd rfl (Or.inl rfl) (aG G3 r6 rfl m3 k3 b3 .nil aK (aA (pv 1) (aA (pv 2) aC))))
  (aB (aR (i:=4) iV.nd rfl (Or.inl rfl) (aG G4 r8 rfl m4 k4 b4 .nil aK (aA (pv 3) aC)))
  (aB (aR (i:=5) iV.nd rfl (Or.inl rfl) (aG G5 r8 rfl m5 k5 b5 .nil aK (aA (pv 3) aC)))
  (aB (cC (PW.pt (nX (gB (eG (aG G6 r1 rfl m6 k6 b6 .nil aK (aA (pv 5) (aA (aG G7 r3 rfl m7 k7 b7 .nil aK (aA (pv 2) (aA (pv 4) aC))) aC))))) (lU (bF qb9 (aS aX (pv 5) aE (fun _ _=>rfl)) aE (bH _))))) (aF (aV iH)) bK)
  (aB (aR (i:=6) iV.nd rfl (Or.inl rfl) (aG G8 r1 rfl m8 k8 b8 .nil aK (aA (aG G1 r1 rfl m1 k1 b1 .nil aK (aA (pv 0) (aA aE aC))) (aA aE (aA (pv 1) aC)))))
  (aB (aR (i:=7) iV.nd rfl (Or.inl rfl) (aG G8 r1 rfl m8 k8 b8 .nil aK (aA (aG G1 r1 rfl m1 k1 b1 .nil aK (aA (pv 0) (aA aE aC))) (aA aE (aA (pv 1) aC)))))
  (aB (aR (i:=8) iV.nd rfl (Or.inl rfl) (aG G7 r3 rfl m7 k7 b7 .nil aK (aA (pv 2) (aA (aG G9 r8 rfl m9 k9 b9 .nil aK (aA (pv 3) (aA (pv 6) (aA (pv 7) aC)))) aC))))
  (aB (cC (bF (Op hu) (pv 8) (aG G10 r2 rfl m10 k10 b10 .nil aK (aA (aG G11 r9 rfl m11 k11 b11 .nil aK (aA (pv 3) (aA (pv 6) (aA (pv 7) aC)))) (aA (pv 5) aC))) (bH _)) (aF (aV iH)) bK)
  (aB (oJ (i:=9) (nl:=1) (fr:=[2]) (Nc:=["_law_k","_law_rows"]) (cl:=[("_law_rows",s.heap.objs.size+1)]) iV.nd rfl rfl rfl ⟨rfl,rfl,by decide +kernel,by decide +kernel,fun x c h=>h,dU rfl,rfl,fun i n h=>match i,h with | 0,h=>by cases h;exact⟨2,rfl,rfl,rfl,rfl,.inl rfl⟩ | k+1,h=>by rw[show 1+(k+1)=k+2 by lia] at h;cases h⟩
    (fU rfl mr (aA (bO bG rfl ml PySem.boot_len (aA (pv 2) aC)) aC)) (fun C s3 H3 fp pins=>(aZ (i:=0) Jg rfl (Or.inl rfl))) (fun C s3 H3 fp pins=>(iW (bF fG (aS (gP (K:=K) rfl) (aS (jV (K:=K) rfl) (pv 1) (pv 0) (fun _ _=>rfl)) aE (fun _ _=>rfl)) cS (bH _))))
    (fun C s3 H3 fp pins=>(pv 0)) rfl)
  (aB (cC (bF (Dh hu) (pv 9) (cT aC) (bH _)) (aF (aV iH)) bK)
  (aB (aR (i:=10) iV.nd rfl (Or.inl rfl) (aG G1 r1 rfl m1 k1 b1 .nil aK (aA (pv 0) (aA aE aC))))
  (aB (dB PassesOwn.never rfl (fU rfl mr (aA (bO (Jh rfl) rfl mm PyProof.Rows.boot_min (aA aE (aA (bO bG rfl ml PySem.boot_len (aA (pv 9) aC)) aC))) aC)) (aZ (i:=11) iV.nd rfl (Or.inl rfl))
   (aB (aR (i:=12) iV.nd rfl (Or.inl rfl) (aS bM (pv 9) (aG G8 r1 rfl m8 k8 b8 .nil aK (aA (aG G12 r1 rfl m12 k12 b12 .nil aK (aA (pv 10) (aA (pv 11) aC))) (aA aE (aA (bO bG rfl ml PySem.boot_len (aA (pv 9) aC)) aC)))) (fun _ _=>rfl)))
  (aF (cC (gB (eG (aG G13 hr rfl m13 k13 b13 .nil aK (aA (pv 3) (aA (pv 2) (aA (pv 12) (aA (pv 4) (aA (pv 5) aC)))))))) (aF (aV iH)) bK))))
  (aF (aV iH)))))))))))))))),?_⟩
 refine iG (fun σ' H'=>∃M:Nat,σ'=[some (.ref a),some (.int (M:Int)),none,none,none,none,none,none,none,none,none,none,none]/\1<=M/\M<=4/\aT H H') (fun X hX=>?_) ?_
 ·refine⟨_,rfl,a,ns,0,0,rfl,rfl,hS,h63,fun v H1 s1=>⟨_,_,rfl,rfl,(show (0:Int) < 4 by decide),_,_,rfl,rfl,?_⟩⟩;have f0:=Int.emod_nonneg v (show (4:Int)≠0 by decide);have f9:=Int.emod_lt_of_pos v (show (0:Int) < 4 by decide);obtain⟨M,hM⟩:∃M:Nat,1+v % 4=(M:Int):=⟨(1+v % 4).toNat,by lia⟩
  exact hX _ _ ⟨M,by rw[<- hM];rfl,by lia,by lia,s1⟩
 rintro σ1 H1 ⟨M,rfl,M1,M4,s1⟩
 try dsimp only
 refine iG (fun σ' H'=>aT H1 H'/\∃(r:Addr) (us:List V) (b:Nat) (L:Int) (ds:List RD),σ'=[some (.ref a),some (.int (M:Int)),some (.ref r),none,none,none,none,none,none,none,none,none,none]/\SqL K H' r us/\Rts K H' us ds/\D69 M b L ds) (fun X hX=>?_) ?_
 ·refine⟨_,rfl,_,rfl,zl9 1,fun w hw=>?_⟩;have s2:=aI hw (.lst [.str "piece"]);have e2:upd H1 w (.lst [.str "piece"]) w=some (.lst [.str "piece"]):=aD;generalize upd H1 w (.lst [.str "piece"])=H2 at s2 e2 ⊢;refine⟨a,w,ns,M,7,[.pc],rfl,(s1.trans s2).seq hS,h63,M1,by lia,by lia,SqL.of e2,by decide,by decide,fun r us tt E H3 s3 nr er hR hg le=>?_⟩;obtain⟨b,L,W⟩:=Vr (bl:=0) hg M4 le;exact hX _ _ ⟨s2.trans s3,r,us,b,L,_,rfl,SqL.of er,hR,W⟩
 rintro σ2 H2 ⟨s2,r,us,b,L,ds,rfl,hr2,hR2,W⟩;have l10:=W.len;have lus:=hR2.length;refine iG (fun σ' H'=>aT H2 H'/\∃(n l:Addr),σ'=[some (.ref a),some (.int (M:Int)),some (.ref r),some (.ref n),none,none,none,none,none,none,none,none,none]/\eO CN K H' n l (M:Int) ds) (fun X hX=>?_) ?_
 ·exact⟨_,rfl,_,rfl,(M:Int),r,us,ds,rfl,by lia,by lia,hr2,hR2,(fun d hd=>(W.ok d hd).1),by lia,fun n l H3 s3 nl nt=>hX _ _ ⟨s3,n,l,rfl,nt⟩⟩
 rintro σ3 H3 ⟨s3,n,l,rfl,nt⟩;refine iG (fun σ' H'=>aT H3 H'/\∃(kw:Addr) (ws:List V) (H0:Hp),σ'=[some (.ref a),some (.int (M:Int)),some (.ref r),some (.ref n),some (.ref kw),none,none,none,none,none,none,none,none]/\SqL K H' kw ws/\Ils H0 H' ws ((trN M ds).map zi)) (fun X hX=>?_) ?_
 ·refine⟨_,rfl,n,l,M,ds,rfl,W.np nt,by lia,W.nh,by have:=W.p12;lia,fun l' ws H4 s4 n4 e4 I4 x4=>?_⟩;rw[Xb] at I4;exact hX _ _ ⟨s4,l',ws,_,rfl,SqL.of e4,I4⟩
 rintro σ4 H4 ⟨s4,kw,ws,H0,rfl,hW,hI⟩;have nt4:=nt.same s4;refine iG (fun σ' H'=>aT H4 H'/\∃(w:Addr) (p:Q2),σ'=[some (.ref a),some (.int (M:Int)),some (.ref r),some (.ref n),some (.ref kw),some (.ref w),none,none,none,none,none,none,none]/\Fq K H' w p/\Low p/\Bd 3400 p/\Mq.val p=fZ M ds/\fZ M ds≠0) (fun X hX=>?_) ?_
 ·exact⟨_,rfl,n,l,M,ds,rfl,nt4,W.ts,fun w p H5 s5 f5 l5 b5 v5 z5=>hX _ _ ⟨s5,w,p,rfl,f5,l5,b5,v5,z5 W.o⟩⟩
 rintro σ5 H5 ⟨s5,w,p,rfl,fp,lp,bp,vp,t0⟩;have s35:=s4.trans s5;have s25:=s3.trans s35;obtain⟨lt,pt⟩:=W.lists (t:=M - 1) (by lia);have ts:=zN W.o.m1 (by lia) W.o.pt;have p0:=Rk lp (by rw[vp,<- ts];exact Nr fun x hx=>(pt x hx).2) (by rw[vp];exact t0);refine iG (fun σ' H'=>aT H5 H'/\σ'=[some (.ref a),some (.int (M:Int)),some (.ref r),some (.ref n),some (.ref kw),some (.ref w),none,none,none,none,none,none,none]) (fun X hX=>?_) ?_
 ·refine⟨_,rfl,_,rfl,_,rfl,r,kw,us,ws,ds,_,H0,rfl,s25.seq hr2,hR2.same s25,by lia,s5.seq hW,iR s5 hI,pt,lt,fun p6 a6 H6 s6 f6 l6 b6 v6=>?_⟩;have e:p6=p:=wX l6 lp (by rw[v6,vp];exact ts);subst e;refine⟨w,a6,_,rfl,s6.fq fp,f6,_,rfl,fB ?_⟩;refine⟨_,rfl,w,_,_,_,rfl,rfl,s6.fq fp,rfl,_,_,rfl,rfl,_,rfl,L2.ifF (by show decide (p6.1<=0)=false;exact decide_eq_false (by lia)) ?_⟩;exact hX _ _ ⟨s6,rfl⟩
 rintro σ6 H6 ⟨s6,rfl⟩;have hS6:=(s1.trans (s2.trans (s25.trans s6))).seq hS;refine iG (fun σ' H'=>aT H6 H'/\∃x:Nat,σ'=[some (.ref a),some (.int (M:Int)),some (.ref r),some (.ref n),some (.ref kw),some (.ref w),some (.int (x:Int)),none,none,none,none,none,none]/\x < M) (fun X hX=>?_) ?_
 ·refine⟨_,rfl,a,ns,1,1,rfl,rfl,hS6,h63,fun c H7 s7=>?_⟩;refine⟨_,rfl,c,3,(M:Int),rfl,by decide,by decide,by lia,fun q H8 q0 q1 s8=>?_⟩;obtain⟨x,rfl⟩:∃x:Nat,q=(x:Int):=⟨q.toNat,by lia⟩
  exact hX _ _ ⟨s7.trans s8,x,rfl,by lia⟩
 rintro σ7 H7 ⟨s7,x,rfl,hx⟩;refine iG (fun σ' H'=>aT H7 H'/\∃y:Nat,σ'=[some (.ref a),some (.int (M:Int)),some (.ref r),some (.ref n),some (.ref kw),some (.ref w),some (.int (x:Int)),some (.int (y:Int)),none,none,none,none,none]/\y < M) (fun X hX=>?_) ?_
 ·refine⟨_,rfl,a,ns,1,1,rfl,rfl,s7.seq hS6,h63,fun c H8 s8=>?_⟩;refine⟨_,rfl,c,4,(M:Int),rfl,by decide,by decide,by lia,fun q H9 q0 q1 s9=>?_⟩;obtain⟨y,rfl⟩:∃y:Nat,q=(y:Int):=⟨q.toNat,by lia⟩
  exact hX _ _ ⟨s8.trans s9,y,rfl,by lia⟩
 rintro σ8 H8 ⟨s8,y,rfl,hy⟩;have s58:=s6.trans (s7.trans s8);have s28:=s25.trans s58;have nt8:=nt4.same (s5.trans s58);obtain⟨lq,pq⟩:=W.lists (t:=M - 2) (by lia);have sub:∀z∈ptN M ds x y,z∈(dZ (sgF ds) (pcs ds) M (M - 2)).map (·.1):=fun z hz=>by
  obtain⟨v,hv,rfl⟩:=mem_map.mp hz;exact mem_map.mpr ⟨v,(mem_filter.mp hv).1,rfl⟩
 have lpt:(ptN M ds x y).length<=2000:=by
  refine Nat.le_trans ?_ lq;rw[length_map,length_map];exact length_filter_le _ _
 refine iG (fun σ' H'=>aT H8 H'/\∃(pp:Addr) (g:Q2),σ'=[some (.ref a),some (.int (M:Int)),some (.ref r),some (.ref n),some (.ref kw),some (.ref w),some (.int (x:Int)),some (.int (y:Int)),some (.ref pp),none,none,none,none]/\Fq K H' pp g/\Low g/\Mq.val g=shR ds (ptN M ds x y)) (fun X hX=>?_) ?_
 ·refine⟨_,rfl,_,rfl,_,rfl,_,rfl,n,l,M,x,y,ds,rfl,W.np nt8,by lia,hx,hy,W.nh,by have:=W.p12;lia,fun l' qs H9 s9 n9 e9 I9 x9=>?_⟩;rw[Kt] at I9;refine⟨r,l',us,qs,ds,_,H8,rfl,(s28.trans s9).seq hr2,hR2.same (s28.trans s9),by lia,SqL.of e9,I9,fun z hz=>pq z (sub z hz),lpt,fun g a9 HA sA fA lA bA vA=>?_⟩;exact hX _ _ ⟨s9.trans sA,a9,g,rfl,fA,lA,vA⟩
 rintro σ9 H9 ⟨s9,pp,g,rfl,fg,lg,vg⟩;have s59:=s58.trans s9;refine iG (fun σ' H'=>aT H9 H'/\σ'=[some (.ref a),some (.int (M:Int)),some (.ref r),some (.ref n),some (.ref kw),some (.ref w),some (.int (x:Int)),some (.int (y:Int)),some (.ref pp),none,none,none,none]) (fun X hX=>?_) ?_
 ·refine⟨_,rfl,_,rfl,_,rfl,_,rfl,n,l,M,b,fun _=>20,L,ds,x,y,rfl,W.nb (nt8.same s9),hx,hy,fun r1 p1 v1 HA sA fA lA bA sol vA=>?_⟩;have ps:=pU W.o.m1 M4 W.o.pt W.nh sol hx hy;have hb:=W.hbw;refine⟨_,rfl,r1,w,p1,p,531,3400,rfl,fA,(s59.trans sA).fq fp,lA.pos,lp.pos,bA.mono (by lia),bp,by decide,fun r4 HB sB eB=>?_⟩;have e:g=tO p1 p:=wX lg (uW lA.pos lp.pos) (by rw[vg,ps,vU lA.pos lp.pos,vA,vp]);rw[<- e] at eB;exact Lu ((sA.trans sB).fq fg) (Fq.of eB) ⟨_,rfl,fB (hX _ _ ⟨sA.trans sB,rfl⟩)⟩
 rintro σA HA ⟨sA,rfl⟩;have s5A:=s59.trans sA;have s2A:=s25.trans s5A;have hr2A:=s2A.seq hr2;have hRA:=hR2.same s2A;refine iG (fun σ' H'=>aT HA H'/\∃(D:Addr) (ks:List Nat),σ'=[some (.ref a),some (.int (M:Int)),some (.ref r),some (.ref n),some (.ref kw),some (.ref w),some (.int (x:Int)),some (.int (y:Int)),some (.ref pp),some (.ref D),none,none,none]/\H' D=some (.lst ((ks.map fun (k:Nat)=>(k:Int)).map V.int))/\ks.length<=40/\∀k∈ks,k∈pcs ds) (fun X hX=>?_) ?_
 ·refine⟨_,rfl,r,us,rfl,.inl hr2A,(us.length:Int),rfl,by lia,by lia,fun D hD=>?_⟩;have sD:=aI hD (.lst []);refine tJ (n:=(us.length:Int).toNat) (fun i zs H'=>aT HA H'/\H' D=some (.lst zs)/\∃ks:List Nat,zs=(ks.map fun (k:Nat)=>(k:Int)).map V.int/\ks.length<=i/\∀k∈ks,k∈pcs ds) ⟨sD,aD,[],rfl,Nat.le_refl _,fun _ h=>by cases h⟩ (fun i zs H' h=>h.2.1) ?_ ?_
  ·rintro i zs HB hi ⟨sB,eB,ks,rfl,lks,hks⟩ C hC;have hi:i < ds.length:=by lia
   obtain⟨d,hd⟩:∃d,ds[i]?=some d:=⟨_,getElem?_eq_getElem hi⟩
   obtain⟨t,z,et,ht,fz⟩:=(hRA.same sB).at hd;have ea:atI us (0+(i:Int))=some (.ref t):=by rw[Int.zero_add];exact bS et
   refine⟨dC.1,dC.2,?_⟩;refine⟨_,rfl,_,rfl,r,us,_,_,rfl,rfl,sB.seq hr2A,ea,t,_,_,_,rfl,rfl,ht,rfl,rfl,_,rfl,?_⟩
   by_cases hk:d.1=.pc
   ·refine L2.ifT (by show decide (V.str d.1.wd=V.str "piece")=true;rw[Hc];exact decide_eq_true hk) ⟨_,rfl,eB,bL (by rw[length_map,length_map];lia),hC _ _ ⟨sB.change hD,aD,ks++[i],?_,by rw[List.length_append];simp only[length_cons,length_nil];lia,fun k hk'=>?_⟩⟩
    ·rw[map_append,map_append,Int.zero_add];rfl
    ·rcases mem_append.mp hk' with z | z
     ·exact hks k z
     ·rw[mem_singleton.mp z];exact mem_filter.mpr ⟨mem_range.mpr hi,by rw[kF hd];exact decide_eq_true hk⟩
   ·exact L2.ifF (by show decide (V.str d.1.wd=V.str "piece")=false;rw[Hc];exact decide_eq_false hk) (hC _ _ ⟨sB,eB,ks,rfl,by lia,hks⟩)
  ·rintro zs HB ⟨sB,eB,ks,rfl,lks,hks⟩;exact hX _ _ ⟨sB,D,ks,rfl,eB,by lia,hks⟩
 rintro σB HB ⟨sB,D,ks,rfl,eD,lks,hks⟩;refine⟨_,rfl,zl9 0,fun D2 hD2=>?_⟩;have s7':=aI hD2 (.lst []);have e7':upd HB D2 (.lst []) D2=some (.lst []):=aD;generalize upd HB D2 (.lst [])=HC at s7' e7' ⊢;have eDC:=s7' _ _ eD;refine Bb (SqL.of eDC) (SqL.of e7') ⟨_,rfl,?_⟩
 by_cases kz:ks=[]
 ·subst kz;exact L2.ifT rfl (q _)
 refine L2.ifF (by
  cases ks with
  |nil=>exact absurd rfl kz
  |cons _ _=>rfl) ?_
 have k1:0 < ks.length:=length_pos_iff.mpr kz;have s5C:=s5A.trans (sB.trans s7');have s2C:=s25.trans s5C;refine Wv (fun σ' H'=>aT HC H'/\∃c:Int,σ'=[some (.ref a),some (.int (M:Int)),some (.ref r),some (.ref n),some (.ref kw),some (.ref w),some (.int (x:Int)),some (.int (y:Int)),some (.ref pp),some (.ref D),some (.int c),none,none]) (fun X hX=>?_) ?_
 ·exact⟨_,rfl,a,ns,7,7,rfl,rfl,(s7.trans (s8.trans (s9.trans (sA.trans (sB.trans s7'))))).seq hS6,h63,fun c HD sD=>hX _ _ ⟨sD,c,rfl⟩⟩
 rintro σD HD ⟨sD,c,rfl⟩;have eDD:=sD _ _ eDC;have s5D:=s5C.trans sD;have s2D:=s25.trans s5D;have lkm:((ks.map fun (k:Nat)=>(k:Int)).map V.int).length=ks.length:=by rw[length_map,length_map]
 refine iG (fun σ' H'=>aT HD H'/\∃zk zt:Option V,σ'=[some (.ref a),some (.int (M:Int)),some (.ref r),some (.ref n),some (.ref kw),some (.ref w),some (.int (x:Int)),some (.int (y:Int)),some (.ref pp),some (.ref D),some (.int c),zk,zt]) (fun X hX=>?_) ?_
 ·refine⟨_,rfl,D,_,rfl,.inl (SqL.of eDD),3,_,rfl,_,rfl,?_⟩;rw[lkm];obtain⟨nn,hn3,en⟩:∃nn:Nat,nn<=3/\(if (ks.length:Int) < 3 then (ks.length:Int) else 3)=(nn:Int):=by
   by_cases c:(ks.length:Int) < 3
   ·exact⟨ks.length,by lia,by rw[if_pos c]⟩
   ·exact⟨3,by lia,by rw[if_neg c];rfl⟩
  rw[en];refine⟨by lia,by lia,?_⟩;refine fV (n:=(nn:Int).toNat) (fun i σ' H'=>aT HD H'/\∃zk zt:Option V,σ'=[some (.ref a),some (.int (M:Int)),some (.ref r),some (.ref n),some (.ref kw),some (.ref w),some (.int (x:Int)),some (.int (y:Int)),some (.ref pp),some (.ref D),some (.int c),zk,zt]) ⟨aT.refl _,none,none,rfl⟩ ?_ ?_
  ·rintro i σ' HE hi ⟨sE,zk,zt,rfl⟩;have eDE:=sE _ _ eDD;refine⟨_,rfl,_,rfl,_,rfl,c,_,rfl,by lia,by lia,fun pc=>?_⟩;refine⟨_,rfl,D,_,rfl,.inl (SqL.of eDE),pc,1,(ks.length:Int),by rw[lkm];rfl,by decide,by decide,by lia,fun q' HF q0 q1 sF=>?_⟩;obtain⟨j,rfl⟩:∃j:Nat,q'=(j:Int):=⟨q'.toNat,by lia⟩
   have hj:j < ks.length:=by lia
   obtain⟨k',hk'⟩:∃k',ks[j]?=some k':=⟨_,getElem?_eq_getElem hj⟩
   have s5F:=s5D.trans (sE.trans sF);have s2F:=s25.trans s5F;refine⟨D,_,_,.int (k':Int),rfl,rfl,SqL.of (sF _ _ eDE),bS (by rw[getElem?_map,getElem?_map,hk'];rfl),?_⟩;refine⟨_,rfl,_,rfl,_,rfl,_,rfl,_,rfl,n,l,r,kw,w,us,ws,M,b,k',L,ds,H0,p,rfl,W,nt4.same (s5.trans s5F),s2F.seq hr2,hR2.same s2F,hks k' (mem_of_getElem? hk'),(s5.trans s5F).seq hW,iR (s5.trans s5F) hI,s5F.fq fp,lp,bp,vp,fun HG sG=>⟨_,rfl,fB ⟨sE.trans (sF.trans sG),_,_,rfl⟩⟩⟩
  ·rintro σ' HE ⟨sE,zk,zt,rfl⟩;exact hX _ _ ⟨sE,zk,zt,rfl⟩
 rintro σE HE ⟨sE,zk,zt,rfl⟩;exact q _
end
theorem Yt {l:W.OpenLaw}{w:World}{K:Frag}{mg:Str->Option Value}{fa:Addr}(hfa:mg "law"=some (.ref fa)){c_Row c_Piece c_Push c_Hold c_Net f1 f2 f3 f4 f5 f6 f7 f8 f9 f10 f11 f12 f13 f14 f15 f16 f17 f18 f19 f20 f21 f22 f23 f24 f25 f26 f27 f28 f29 f30 f31 f32 f33 f34 f35 f36 f37 f38 f39 f40 f41 f42 f43 f44 f45 f46 f47 f48 f49 f50 f51 f52 f53 f54 f55 f56 f57 f58 f59 f60 f61 f62 f63 f64 f65 f66 f67 f68 f69 f70 f71 f72:Addr}{d1 d2 d3 d5 d6 d7 d8 d9 d10 d11 d12 d13 d14 d15 d16 d17 d18 d19 d20 d21 d22 d23 d24 d25 d26 d27 d28 d29 d30 d32 d33 d34 d35 d36 d37 d38 d39 d40 d41 d42 d43 d44 d45 d46 d47 d48 d49 d50 d51 d52 d53 d54 d55 d56 d57 d58 d59 d60 d61 d62 d63 d64 d65 d66 d67 d68 d69 d70 d71:FuncData}{od4 an4:Option Addr}{sl4:Array (Option Value)}{oc4 kV4 dc4 pm4 cd4 ct4:Value}{T4:Addr}{oT4:Value}{dT4:Option Addr}{nT4:Nat}{sT4:Array (Option Value)}{tk4:Tok}{od31 an31:Option Addr}{sl31:Array (Option Value)}{oc31 kV31 dc31 pm31 cd31 ct31:Value}{T31:Addr}{oT31:Value}{dT31:Option Addr}{nT31:Nat}{sT31:Array (Option Value)}{od72 an72:Option Addr}{sl72:Array (Option Value)}{oc72 kV72 dc72 pm72 cd72 ct72:Value}{aO:Addr}{dO:Option Addr}{nO:Nat}{sO:Array (Option Value)}{t2 t3:Tok}{aN:Addr}{dN:Option Addr}{nN:Nat}{sN:Array (Option Value)}{t0 t1:Tok}{aJ:Addr}{dJ:Option Addr}{nJ:Nat}{sJ:Array (Option Value)}{tj0 tj1:Tok}{tM:Tok}{tR:Tok}{tP:Tok}(mc_Row:mI9 mg "Row" c_Row)(mc_Piece:mI9 mg "Piece" c_Piece)(mc_Push:mI9 mg "Push" c_Push)(mc_Hold:mI9 mg "Hold" c_Hold)(mc_Net:mI9 mg "Net" c_Net)(m1:mI9 mg "is_whole" f1)(F1:aU K "is_whole" "is_whole" Dc .none f1 d1)(m2:mI9 mg "greatest_common" f2)(F2:aU K "greatest_common" "greatest_common" sGc .none f2 d2)(m3:mI9 mg "under" f3)(F3:aU K "under" "under" Cl .none f3 d3)(m4:mI9 mg "fraction" f4)(l4:K.lookup f4=some ⟨oc4,od4,.func (W.fnOf "fraction" "fraction" (dF jM) (cG jM) (aH jM) (.ref T4) kV4 dc4 pm4 an4 cd4 ct4),sl4⟩)(c4:W.codeIn K cd4 "fraction"=true)(k4:kI9 K f4)(lt4:K.lookup T4=some ⟨oT4,dT4,.seq #[.int 1 tk4] nT4,sT4⟩)(m5:mI9 mg "minus" f5)(F5:aU K "minus" "minus" Ch .none f5 d5)(m6:mI9 mg "plus" f6)(F6:aU K "plus" "plus" Lg .none f6 d6)(m7:mI9 mg "over" f7)(F7:aU K "over" "over" Pk .none f7 d7)(m8:mI9 mg "is_fraction" f8)(F8:aU K "is_fraction" "is_fraction" Vw .none f8 d8)(a9_0:W.findIn K (.ref c_Piece) "__init__"=some (some (.ref f9)))(a9_1:W.findIn K (.ref c_Push) "__init__"=some (some (.ref f9)))(a9_2:W.findIn K (.ref c_Hold) "__init__"=some (some (.ref f9)))(i9:W.isFn K (.ref f9)=true)(F9:aU K "__init__" "Row.__init__" Dx .none f9 d9)(a10_0:W.findIn K (.ref c_Piece) "word"=some (some (.ref f10)))(i10:W.isFn K (.ref f10)=true)(F10:aU K "word" "Piece.word" sY .none f10 d10)(a11_0:W.findIn K (.ref c_Push) "word"=some (some (.ref f11)))(i11:W.isFn K (.ref f11)=true)(F11:aU K "word" "Push.word" rB .none f11 d11)(a12_0:W.findIn K (.ref c_Hold) "word"=some (some (.ref f12)))(i12:W.isFn K (.ref f12)=true)(F12:aU K "word" "Hold.word" rX .none f12 d12)(a13_0:W.findIn K (.ref c_Piece) "joins"=some (some (.ref f13)))(i13:W.isFn K (.ref f13)=true)(F13:aU K "joins" "Piece.joins" oY .none f13 d13)(a14_0:W.findIn K (.ref c_Push) "joins"=some (some (.ref f14)))(i14:W.isFn K (.ref f14)=true)(F14:aU K "joins" "Push.joins" oX .none f14 d14)(a15_0:W.findIn K (.ref c_Hold) "joins"=some (some (.ref f15)))(i15:W.isFn K (.ref f15)=true)(F15:aU K "joins" "Hold.joins" pK .none f15 d15)(a16_0:W.findIn K (.ref c_Piece) "told"=some (some (.ref f16)))(a16_1:W.findIn K (.ref c_Push) "told"=some (some (.ref f16)))(a16_2:W.findIn K (.ref c_Hold) "told"=some (some (.ref f16)))(i16:W.isFn K (.ref f16)=true)(F16:aU K "told" "Row.told" Dj .none f16 d16)(m17:mI9 mg "row_of" f17)(F17:aU K "row_of" "row_of" Df .none f17 d17)(m18:mI9 mg "is_piece_size" f18)(F18:aU K "is_piece_size" "is_piece_size" sPS .none f18 d18)(m19:mI9 mg "is_number_below" f19)(F19:aU K "is_number_below" "is_number_below" sNB .none f19 d19)(m20:mI9 mg "refuse_size" f20)(F20:aU K "refuse_size" "refuse_size" sRS .none f20 d20)(m21:mI9 mg "refuse_points" f21)(F21:aU K "refuse_points" "refuse_points" sRP .none f21 d21)(a22_0:W.findIn K (.ref c_Net) "__init__"=some (some (.ref f22)))(i22:W.isFn K (.ref f22)=true)(F22:aU K "__init__" "Net.__init__" Eh .none f22 d22)(a23_0:W.findIn K (.ref c_Net) "many"=some (some (.ref f23)))(i23:W.isFn K (.ref f23)=true)(F23:aU K "many" "Net.many" Kz .none f23 d23)(a24_0:W.findIn K (.ref c_Net) "add"=some (some (.ref f24)))(i24:W.isFn K (.ref f24)=true)(F24:aU K "add" "Net.add" Vs .none f24 d24)(a25_0:W.findIn K (.ref c_Net) "rows"=some (some (.ref f25)))(i25:W.isFn K (.ref f25)=true)(F25:aU K "rows" "Net.rows" Mw .none f25 d25)(m26:mI9 mg "joined" f26)(F26:aU K "joined" "joined" xZ .none f26 d26)(m27:mI9 mg "marks_of" f27)(F27:aU K "marks_of" "marks_of" Cd .none f27 d27)(m28:mI9 mg "floating" f28)(F28:aU K "floating" "floating" Bx .none f28 d28)(m29:mI9 mg "steps_from" f29)(F29:aU K "steps_from" "steps_from" De .none f29 d29)(m30:mI9 mg "way_along" f30)(F30:aU K "way_along" "way_along" Za .none f30 d30)(m31:mI9 mg "rings" f31)(l31:K.lookup f31=some ⟨oc31,od31,.func (W.fnOf "rings" "rings" (dF gK) (cG gK) (aH gK) (.ref T31) kV31 dc31 pm31 an31 cd31 ct31),sl31⟩)(c31:W.codeIn K cd31 "rings"=true)(k31:kI9 K f31)(lt31:K.lookup T31=some ⟨oT31,dT31,.seq #[.none] nT31,sT31⟩)(m32:mI9 mg "raise_at" f32)(F32:aU K "raise_at" "raise_at" Dq .none f32 d32)(m33:mI9 mg "enter_stream" f33)(F33:aU K "enter_stream" "enter_stream" Ca .none f33 d33)(m34:mI9 mg "enter_piece" f34)(F34:aU K "enter_piece" "enter_piece" xN .none f34 d34)(m35:mI9 mg "enter_push" f35)(F35:aU K "enter_push" "enter_push" xI .none f35 d35)(m36:mI9 mg "enter_hold" f36)(F36:aU K "enter_hold" "enter_hold" zH .none f36 d36)(m37:mI9 mg "equations" f37)(F37:aU K "equations" "equations" Yz .none f37 d37)(m38:mI9 mg "in_wholes" f38)(F38:aU K "in_wholes" "in_wholes" sIW .none f38 d38)(m39:mI9 mg "pivot_place" f39)(F39:aU K "pivot_place" "pivot_place" Wa .none f39 d39)(m40:mI9 mg "cleared" f40)(F40:aU K "cleared" "cleared" Wm .none f40 d40)(m41:mI9 mg "cleared_rows" f41)(F41:aU K "cleared_rows" "cleared_rows" tV .none f41 d41)(m42:mI9 mg "eliminated" f42)(F42:aU K "eliminated" "eliminated" Kv .none f42 d42)(m43:mI9 mg "solved" f43)(F43:aU K "solved" "solved" zD .none f43 d43)(m44:mI9 mg "refuse_unanswered" f44)(F44:aU K "refuse_unanswered" "refuse_unanswered" Wg .none f44 d44)(m45:mI9 mg "heights_by" f45)(F45:aU K "heights_by" "heights_by" Wi .none f45 d45)(m46:mI9 mg "pushed_heights" f46)(F46:aU K "pushed_heights" "pushed_heights" Yh .none f46 d46)(m47:mI9 mg "between" f47)(F47:aU K "between" "between" Xh .none f47 d47)(m48:mI9 mg "refuse_holds" f48)(F48:aU K "refuse_holds" "refuse_holds" Yy .none f48 d48)(m49:mI9 mg "weight" f49)(F49:aU K "weight" "weight" yP .none f49 d49)(m50:mI9 mg "tree_sum" f50)(F50:aU K "tree_sum" "tree_sum" sTS .none f50 d50)(m51:mI9 mg "piece_numbers" f51)(F51:aU K "piece_numbers" "piece_numbers" Pw .none f51 d51)(m52:mI9 mg "is_behind" f52)(F52:aU K "is_behind" "is_behind" Xu .none f52 d52)(m53:mI9 mg "larger_forests" f53)(F53:aU K "larger_forests" "larger_forests" Ya .none f53 d53)(m54:mI9 mg "forests" f54)(F54:aU K "forests" "forests" Pm .none f54 d54)(m55:mI9 mg "refuse_many_pieces" f55)(F55:aU K "refuse_many_pieces" "refuse_many_pieces" Wl .none f55 d55)(m56:mI9 mg "trees" f56)(F56:aU K "trees" "trees" Du .none f56 d56)(m57:mI9 mg "partings" f57)(F57:aU K "partings" "partings" Nd .none f57 d57)(m58:mI9 mg "_law_draw" f58)(F58:aU K "_law_draw" "_law_draw" Po .none f58 d58)(m59:mI9 mg "_law_mix" f59)(F59:aU K "_law_mix" "_law_mix" wW .none f59 d59)(m60:mI9 mg "_law_part" f60)(F60:aU K "_law_part" "_law_part" La .none f60 d60)(m61:mI9 mg "_law_lowest" f61)(F61:aU K "_law_lowest" "_law_lowest" zC .none f61 d61)(m62:mI9 mg "_law_plus" f62)(F62:aU K "_law_plus" "_law_plus" Di .none f62 d62)(m63:mI9 mg "_law_times" f63)(F63:aU K "_law_times" "_law_times" xD .none f63 d63)(m64:mI9 mg "_law_by" f64)(F64:aU K "_law_by" "_law_by" Xz .none f64 d64)(m65:mI9 mg "_law_told" f65)(F65:aU K "_law_told" "_law_told" Nh .none f65 d65)(m66:mI9 mg "_law_size" f66)(F66:aU K "_law_size" "_law_size" Ml .none f66 d66)(m67:mI9 mg "_law_net" f67)(F67:aU K "_law_net" "_law_net" Dg .none f67 d67)(m68:mI9 mg "_law_put" f68)(F68:aU K "_law_put" "_law_put" Wy .none f68 d68)(m69:mI9 mg "_law_hanging" f69)(F69:aU K "_law_hanging" "_law_hanging" Me .none f69 d69)(m70:mI9 mg "_law_shares" f70)(F70:aU K "_law_shares" "_law_shares" Xl .none f70 d70)(m71:mI9 mg "_law_by_piece" f71)(F71:aU K "_law_by_piece" "_law_by_piece" Xc .none f71 d71)(m72:mI9 mg "law" f72)(l72:K.lookup f72=some ⟨oc72,od72,.func (W.fnOf "law" "law" (dF xK) (cG xK) (aH xK) .none kV72 dc72 pm72 an72 cd72 ct72),sl72⟩)(c72:W.codeIn K cd72 "law"=true)(k72:kI9 K f72)(mv_ONE:mI9 mg "ONE" aO)(mv_NOUGHT:mI9 mg "NOUGHT" aN)(mv_JOINING_WORDS:mI9 mg "JOINING_WORDS" aJ)(mv_MOST_POINTS:mg "MOST_POINTS"=some (.int 20 tM))(mv_MOST_ROWS:mg "MOST_ROWS"=some (.int 40 tR))(mv_MOST_PIECES:mg "MOST_PIECES"=some (.int 12 tP))(lO:K.lookup aO=some ⟨.type "tuple",dO,.seq #[.int 1 t2,.int 1 t3] nO,sO⟩)(lN:K.lookup aN=some ⟨.type "tuple",dN,.seq #[.int 0 t0,.int 1 t1] nN,sN⟩)(lJ:K.lookup aJ=some ⟨.type "tuple",dJ,.seq #[.str "piece" tj0,.str "hold" tj1] nJ,sJ⟩)(pg_Piece:W.plainGet K c_Piece Str.empty=true)(hd_Piece:W.hasDictIn K c_Piece=true)(po_Piece:W.plainOver K c_Piece=true)(sa_Piece:W.findIn K (.ref c_Piece) "__setattr__"=some (some (.builtin "object.__setattr__")))(mk_Piece:W.makesIn K c_Piece=true)(kc_Piece:kI9 K c_Piece)(t1_Piece:W.findIn K (.ref c_Piece) "__class__"=some (some (.builtin "object.__class__")))(t4_Piece:W.mroIn K c_Piece (.type "object")=some true)(na_Piece_start:W.findIn K (.ref c_Piece) "start"=some none)(na_Piece_goal:W.findIn K (.ref c_Piece) "goal"=some none)(na_Piece_size:W.findIn K (.ref c_Piece) "size"=some none)(pg_Push:W.plainGet K c_Push Str.empty=true)(hd_Push:W.hasDictIn K c_Push=true)(po_Push:W.plainOver K c_Push=true)(sa_Push:W.findIn K (.ref c_Push) "__setattr__"=some (some (.builtin "object.__setattr__")))(mk_Push:W.makesIn K c_Push=true)(kc_Push:kI9 K c_Push)(t1_Push:W.findIn K (.ref c_Push) "__class__"=some (some (.builtin "object.__class__")))(t4_Push:W.mroIn K c_Push (.type "object")=some true)(na_Push_start:W.findIn K (.ref c_Push) "start"=some none)(na_Push_goal:W.findIn K (.ref c_Push) "goal"=some none)(na_Push_size:W.findIn K (.ref c_Push) "size"=some none)(pg_Hold:W.plainGet K c_Hold Str.empty=true)(hd_Hold:W.hasDictIn K c_Hold=true)(po_Hold:W.plainOver K c_Hold=true)(sa_Hold:W.findIn K (.ref c_Hold) "__setattr__"=some (some (.builtin "object.__setattr__")))(mk_Hold:W.makesIn K c_Hold=true)(kc_Hold:kI9 K c_Hold)(t1_Hold:W.findIn K (.ref c_Hold) "__class__"=some (some (.builtin "object.__class__")))(t4_Hold:W.mroIn K c_Hold (.type "object")=some true)(na_Hold_start:W.findIn K (.ref c_Hold) "start"=some none)(na_Hold_goal:W.findIn K (.ref c_Hold) "goal"=some none)(na_Hold_size:W.findIn K (.ref c_Hold) "size"=some none)(tt2:W.specialIn K (.builtin "object.__class__") "__get__"=some (some (.builtin "getset_descriptor.__get__")))(tt3:W.takesIn K (.builtin "object.__class__")=some true)(isR_Piece:W.kitOne K (.ref c_Piece) (.ref c_Row)=some true)(isR_Push:W.kitOne K (.ref c_Push) (.ref c_Row)=some true)(isR_Hold:W.kitOne K (.ref c_Hold) (.ref c_Row)=some true)(isK_Piece_Push:W.kitOne K (.ref c_Piece) (.ref c_Push)=some false)(isK_Piece_Hold:W.kitOne K (.ref c_Piece) (.ref c_Hold)=some false)(isK_Push_Piece:W.kitOne K (.ref c_Push) (.ref c_Piece)=some false)(isK_Push_Hold:W.kitOne K (.ref c_Push) (.ref c_Hold)=some false)(isK_Hold_Piece:W.kitOne K (.ref c_Hold) (.ref c_Piece)=some false)(isK_Hold_Push:W.kitOne K (.ref c_Hold) (.ref c_Push)=some false)(pg_Net:W.plainGet K c_Net Str.empty=true)(hd_Net:W.hasDictIn K c_Net=true)(po_Net:W.plainOver K c_Net=true)(sa_Net:W.findIn K (.ref c_Net) "__setattr__"=some (some (.builtin "object.__setattr__")))(mk_Net:W.makesIn K c_Net=true)(kc_Net:kI9 K c_Net)(t1_Net:W.findIn K (.ref c_Net) "__class__"=some (some (.builtin "object.__class__")))(t4_Net:W.mroIn K c_Net (.type "object")=some true)(na_Net_point_count:W.findIn K (.ref c_Net) "point_count"=some none)(na_Net_kept:W.findIn K (.ref c_Net) "kept"=some none)(n_isinstance:mg "isinstance"=none)(n_int:mg "int"=none)(n_bool:mg "bool"=none)(n_abs:mg "abs"=none)(n_len:mg "len"=none)(n_range:mg "range"=none)(n_str:mg "str"=none)(n_tuple:mg "tuple"=none)(n_list:mg "list"=none)(n_all:mg "all"=none)(n_zip:mg "zip"=none)(n_enumerate:mg "enumerate"=none)(n_min:mg "min"=none) :
  ∃fd:FuncData,(∀(s:Shared) (v:Value),BindsTo s fd ⟨[v],[]⟩ [("_law_script",v)])/\∀base:Heap,K.In base->base.Ns mainGlobals mg->aM l.prog w K mg base CX0 11 fa fd ["_law_script"] (Eo K):=by
 have e:=hfa.symm.trans m72
 cases e
 have b1:=F1.b1 "thing" (by intros;rfl);have b2:=F2.b2 "one" "other" (by intros;rfl);have b3:=F3.b2 "one" "other" (by intros;rfl);have F4:=qK (st:=jM) l4 c4 k4;have b4:aL K _ ["top","bottom"] []:=fun s us XX hl=>match us,hl with | [_,_],_=>W.binds_K (fd:=W.fnOf "fraction" "fraction" (dF jM) (cG jM) (aH jM) (.ref T4) kV4 dc4 pm4 an4 cd4 ct4) XX rfl lt4 rfl rfl rfl
 have bd4:aL K _ ["top","bottom"] [.int 1 tk4]:=fun s us XX hl=>match us,(show us.length=1 by simp at hl;lia) with | [_],_=>W.binds_K (fd:=W.fnOf "fraction" "fraction" (dF jM) (cG jM) (aH jM) (.ref T4) kV4 dc4 pm4 an4 cd4 ct4) XX rfl lt4 rfl rfl rfl
 have b5:=F5.b2 "one" "other" (by intros;rfl);have b6:=F6.b2 "one" "other" (by intros;rfl);have b7:=F7.b2 "one" "other" (by intros;rfl);have b8:=F8.b1 "thing" (by intros;rfl);have b9:=F9.b4 "self" "start" "goal" "size" (by intros;rfl);have b10:=F10.b1 "self" (by intros;rfl);have b11:=F11.b1 "self" (by intros;rfl);have b12:=F12.b1 "self" (by intros;rfl);have b13:=F13.b1 "self" (by intros;rfl);have b14:=F14.b1 "self" (by intros;rfl);have b15:=F15.b1 "self" (by intros;rfl);have b16:=F16.b1 "self" (by intros;rfl);have b17:=F17.b1 "told" (by intros;rfl);have b18:=F18.b1 "thing" (by intros;rfl);have b19:=F19.b2 "thing" "bound" (by intros;rfl);have b20:=F20.b2 "word" "size" (by intros;rfl);have b21:=F21.b2 "some" "many" (by intros;rfl);have b22:=F22.b2 "self" "many" (by intros;rfl);have b23:=F23.b1 "self" (by intros;rfl);have b24:=F24.b2 "self" "row" (by intros;rfl);have b25:=F25.b1 "self" (by intros;rfl);have b26:=F26.b2 "marks" "row" (by intros;rfl);have b27:=F27.b1 "net" (by intros;rfl);have b28:=F28.b1 "net" (by intros;rfl);have b29:=F29.b3 "rows" "numbers" "point" (by intros;rfl);have b30:=F30.b4 "rows" "numbers" "begin" "end" (by intros;rfl);have F31:=qK (st:=gK) l31 c31 k31;have b31:aL K _ ["net","words"] []:=fun s us XX hl=>match us,hl with | [_,_],_=>W.binds_K (fd:=W.fnOf "rings" "rings" (dF gK) (cG gK) (aH gK) (.ref T31) kV31 dc31 pm31 an31 cd31 ct31) XX rfl lt31 rfl rfl rfl
 have bd31:aL K _ ["net","words"] [.none]:=fun s us XX hl=>match us,(show us.length=1 by simp at hl;lia) with | [_],_=>W.binds_K (fd:=W.fnOf "rings" "rings" (dF gK) (cG gK) (aH gK) (.ref T31) kV31 dc31 pm31 an31 cd31 ct31) XX rfl lt31 rfl rfl rfl
 have b32:=F32.b3 "line" "column" "amount" (by intros;rfl);have b33:=F33.b4 "matrix" "row" "column" "amount" (by intros;rfl);have b34:=F34.b2 "matrix" "row" (by intros;rfl);have b35:=F35.b2 "right" "row" (by intros;rfl);have b36:=F36.b4 "matrix" "right" "row" "column" (by intros;rfl);have b37:=F37.b1 "net" (by intros;rfl);have b38:=F38.b1 "some" (by intros;rfl);have b39:=F39.b3 "rows" "rank" "column" (by intros;rfl);have b40:=F40.b4 "row" "upper" "column" "divisor" (by intros;rfl);have b41:=F41.b4 "rows" "rank" "column" "divisor" (by intros;rfl);have b42:=F42.b2 "rows" "width" (by intros;rfl);have b43:=F43.b2 "matrix" "right" (by intros;rfl);have b44:=F44.b1 "net" (by intros;rfl);have b45:=F45.b3 "net" "matrix" "right" (by intros;rfl);have b46:=F46.b3 "net" "start" "goal" (by intros;rfl);have b47:=F47.b3 "net" "a" "b" (by intros;rfl);have b48:=F48.b1 "net" (by intros;rfl);have b49:=F49.b1 "matrix" (by intros;rfl);have b50:=F50.b1 "net" (by intros;rfl);have b51:=F51.b1 "net" (by intros;rfl);have b52:=F52.b2 "number" "numbers" (by intros;rfl);have b53:=F53.b2 "net" "found" (by intros;rfl);have b54:=F54.b2 "net" "size" (by intros;rfl);have b55:=F55.b1 "net" (by intros;rfl);have b56:=F56.b1 "net" (by intros;rfl);have b57:=F57.b3 "net" "a" "b" (by intros;rfl);have b58:=F58.b2 "_law_script" "_law_k" (by intros;rfl);have b59:=F59.b3 "_law_cell" "_law_turn" "_law_many" (by intros;rfl);have b60:=F60.b2 "_law_cell" "_law_k" (by intros;rfl);have b61:=F61.b2 "_law_top" "_law_bottom" (by intros;rfl);have b62:=F62.b2 "_law_one" "_law_other" (by intros;rfl);have b63:=F63.b2 "_law_one" "_law_other" (by intros;rfl);have b64:=F64.b2 "_law_one" "_law_other" (by intros;rfl);have b65:=F65.b2 "_law_found" "_law_due" (by intros;rfl);have b66:=F66.b1 "_law_cell" (by intros;rfl);have b67:=F67.b2 "_law_many" "_law_rows" (by intros;rfl);have b68:=F68.b4 "_law_rows" "_law_cell" "_law_word" "_law_ends" (by intros;rfl);have b69:=F69.b4 "_law_script" "_law_many" "_law_most" "_law_words" (by intros;rfl);have b70:=F70.b2 "_law_rows" "_law_some" (by intros;rfl);have b71:=F71.b5 "_law_net_here" "_law_rows" "_law_at" "_law_known" "_law_whole" (by intros;rfl);have F72:=qK (st:=xK) l72 c72 k72;refine⟨W.fnOf "law" "law" (dF xK) (cG xK) (aH xK) .none kV72 dc72 pm72 an72 cd72 ct72,fun s v=>.of_eq rfl,fun base _ _=>?_⟩;have bl:Bl mg:=⟨n_isinstance,n_int,n_bool,n_abs⟩
 have T:RT K mg c_Row (kd3 c_Piece c_Push c_Hold):=⟨iU ⟨pg_Piece,hd_Piece,po_Piece,sa_Piece⟩ ⟨pg_Push,hd_Push,po_Push,sa_Push⟩ ⟨pg_Hold,hd_Hold,po_Hold,sa_Hold⟩,iU na_Piece_start na_Push_start na_Hold_start,iU na_Piece_goal na_Push_goal na_Hold_goal,iU na_Piece_size na_Push_size na_Hold_size,iU t1_Piece t1_Push t1_Hold,tt2,tt3,iU t4_Piece t4_Push t4_Hold,iU isR_Piece isR_Push isR_Hold,iU (iU (tU _ _) isK_Piece_Push isK_Piece_Hold) (iU isK_Push_Piece (tU _ _) isK_Push_Hold) (iU isK_Hold_Piece isK_Hold_Push (tU _ _)),mc_Row,iU mc_Piece mc_Push mc_Hold⟩
 have fN:∀H,Fq K H aN (0,1):=Fq.mod lN;have fO:∀H,Fq K H aO (1,1):=Fq.mod lO;have fJ:∀H,SqT K H aJ [.str "piece",.str "hold"]:=fun H=>.inr ⟨_,_,_,lJ,rfl,rfl,(zl9 2),.cons ⟨_,rfl⟩ (.cons ⟨_,rfl⟩ .nil)⟩;have NTx:NT K mg c_Net:=⟨⟨pg_Net,hd_Net,po_Net,sa_Net⟩,na_Net_point_count,na_Net_kept,t1_Net,tt2,tt3,t4_Net,mc_Net⟩
 have R1:=Pf (P:=l.prog) (w:=w) (K:=K) (mg:=mg) (base:=base) (CX:=CX0) F1 bl;have R2:=qd7 (P:=l.prog) (w:=w) (K:=K) (mg:=mg) (base:=base) (CX:=CX0) F2 bl;have R3:=Mz (P:=l.prog) (w:=w) (K:=K) (mg:=mg) (base:=base) (CX:=CX0) F3;have R4:=Qy (P:=l.prog) (w:=w) (K:=K) (mg:=mg) (base:=base) (CX:=CX0) F4  R1 b1 F1.kp m1 R2 b2 F2.kp m2;have R5:=Kp (P:=l.prog) (w:=w) (K:=K) (mg:=mg) (base:=base) (CX:=CX0) F5  R4 b4 F4.kp m4;have R6:=Rp (P:=l.prog) (w:=w) (K:=K) (mg:=mg) (base:=base) (CX:=CX0) F6  R4 b4 F4.kp m4;have R7:=Tj (P:=l.prog) (w:=w) (K:=K) (mg:=mg) (base:=base) (CX:=CX0) F7  R4 b4 F4.kp m4;have R8:=Ww (P:=l.prog) (w:=w) (K:=K) (mg:=mg) (base:=base) (CX:=CX0) F8 bl n_len n_tuple R1 b1 F1.kp m1 R2 b2 F2.kp m2;have R9:=Oi (P:=l.prog) (w:=w) (K:=K) (mg:=mg) (base:=base) (CX:=CX0) F9 T;have R10:=Do (P:=l.prog) (w:=w) (K:=K) (mg:=mg) (base:=base) (CX:=CX0) F10;have R11:=Cu (P:=l.prog) (w:=w) (K:=K) (mg:=mg) (base:=base) (CX:=CX0) F11;have R12:=Dn (P:=l.prog) (w:=w) (K:=K) (mg:=mg) (base:=base) (CX:=CX0) F12;have GW:∀k,aM l.prog w K mg base CX0 1 (kd3 f10 f11 f12 k) (kd3 _ _ _ k) ["self"] (jC k):=iU (R10) (R11) (R12);have bW:∀k,aL K (kd3 _ _ _ k) ["self"] []:=iU (b10) (b11) (b12);have mW:∀k,fR K (kd3 c_Piece c_Push c_Hold k) "word" (kd3 f10 f11 f12 k):=iU (⟨a10_0,i10,F10.kp⟩) (⟨a11_0,i11,F11.kp⟩) (⟨a12_0,i12,F12.kp⟩);have R13:=Bg (P:=l.prog) (w:=w) (K:=K) (mg:=mg) (base:=base) (CX:=CX0) F13;have R14:=Ab (P:=l.prog) (w:=w) (K:=K) (mg:=mg) (base:=base) (CX:=CX0) F14;have R15:=Ac (P:=l.prog) (w:=w) (K:=K) (mg:=mg) (base:=base) (CX:=CX0) F15;have GJ:∀k,aM l.prog w K mg base CX0 1 (kd3 f13 f14 f15 k) (kd3 _ _ _ k) ["self"] (mV k):=iU (R13) (R14) (R15);have bJ:∀k,aL K (kd3 _ _ _ k) ["self"] []:=iU (b13) (b14) (b15);have mJ:∀k,fR K (kd3 c_Piece c_Push c_Hold k) "joins" (kd3 f13 f14 f15 k):=iU (⟨a13_0,i13,F13.kp⟩) (⟨a14_0,i14,F14.kp⟩) (⟨a15_0,i15,F15.kp⟩);have R16:=Ot (P:=l.prog) (w:=w) (K:=K) (mg:=mg) (base:=base) (CX:=CX0) F16 T GW bW mW;have mT:∀k,fR K (kd3 c_Piece c_Push c_Hold k) "told" f16:=iU (⟨a16_0,i16,F16.kp⟩) (⟨a16_1,i16,F16.kp⟩) (⟨a16_2,i16,F16.kp⟩);have MK:∀k,Mk K (kd3 c_Piece c_Push c_Hold k) f9:=iU (⟨mk_Piece,a9_0,i9,kc_Piece⟩) (⟨mk_Push,a9_1,i9,kc_Push⟩) (⟨mk_Hold,a9_2,i9,kc_Hold⟩);have R17:=Kb (P:=l.prog) (w:=w) (K:=K) (mg:=mg) (base:=base) (CX:=CX0) F17 T bl n_str R9 b9 MK;have R18:=qd0 (P:=l.prog) (w:=w) (K:=K) (mg:=mg) (base:=base) (CX:=CX0) F18 fN mv_NOUGHT (Ba R8) b8 F8.kp m8 R3 b3 F3.kp m3;have R19:=qb7 (P:=l.prog) (w:=w) (K:=K) (mg:=mg) (base:=base) (CX:=CX0) F19  R1 b1 F1.kp m1;have R20:=qb6 (P:=l.prog) (w:=w) (K:=K) (mg:=mg) (base:=base) (CX:=CX0) F20 (Ba R8) b8 F8.kp m8 R18 b18 F18.kp m18;have R21:=qe8 (P:=l.prog) (w:=w) (K:=K) (mg:=mg) (base:=base) (CX:=CX0) F21 n_all R19 b19 F19.kp m19;have R22:=Kf (P:=l.prog) (w:=w) (K:=K) (mg:=mg) (base:=base) (CX:=CX0) F22 NTx mv_MOST_POINTS R1 b1 F1.kp m1;have R23:=Tw (P:=l.prog) (w:=w) (K:=K) (mg:=mg) (base:=base) (CX:=CX0) F23 NTx;have R24:=Xw (P:=l.prog) (w:=w) (K:=K) (mg:=mg) (base:=base) (CX:=CX0) F24 NTx mv_MOST_ROWS n_len T R16 b16 mT R21 b21 F21.kp m21 R20 b20 F20.kp m20;have R25:=Rt (P:=l.prog) (w:=w) (K:=K) (mg:=mg) (base:=base) (CX:=CX0) F25 NTx R17 b17 F17.kp m17;have MN:Mk K c_Net f22:=⟨mk_Net,a22_0,i22,kc_Net⟩
 have R26:=Jb (P:=l.prog) (w:=w) (K:=K) (mg:=mg) (base:=base) (CX:=CX0) F26 T;have R27:=Nw (P:=l.prog) (w:=w) (K:=K) (mg:=mg) (base:=base) (CX:=CX0) F27 n_list n_range NTx T GJ bJ mJ R23 b23 ⟨a23_0,i23,F23.kp⟩ R25 b25 ⟨a25_0,i25,F25.kp⟩ R26 b26 F26.kp m26;have R28:=Ma (P:=l.prog) (w:=w) (K:=K) (mg:=mg) (base:=base) (CX:=CX0) F28 n_enumerate R27 b27 F27.kp m27;have R29:=Oo (P:=l.prog) (w:=w) (K:=K) (mg:=mg) (base:=base) (CX:=CX0) F29 T;have R30:=Yf (P:=l.prog) (w:=w) (K:=K) (mg:=mg) (base:=base) (CX:=CX0) F30 n_len R29 b29 F29.kp m29;have R31:=Nj (P:=l.prog) (w:=w) (K:=K) (mg:=mg) (base:=base) (CX:=CX0) F31 NTx T n_enumerate fJ mv_JOINING_WORDS GW bW mW R25 b25 ⟨a25_0,i25,F25.kp⟩ R30 b30 F30.kp m30;have R32:=Mg (P:=l.prog) (w:=w) (K:=K) (mg:=mg) (base:=base) (CX:=CX0) F32  R6 b6 F6.kp m6;have R33:=Nq (P:=l.prog) (w:=w) (K:=K) (mg:=mg) (base:=base) (CX:=CX0) F33 T fN mv_NOUGHT R32 b32 F32.kp m32 R5 b5 F5.kp m5;have R34:=Hm (P:=l.prog) (w:=w) (K:=K) (mg:=mg) (base:=base) (CX:=CX0) F34 T fN mv_NOUGHT fO mv_ONE R7 b7 F7.kp m7 R33 b33 F33.kp m33 R5 b5 F5.kp m5;have R35:=Ih (P:=l.prog) (w:=w) (K:=K) (mg:=mg) (base:=base) (CX:=CX0) F35 T fN mv_NOUGHT R32 b32 F32.kp m32 R5 b5 F5.kp m5;have R36:=Il (P:=l.prog) (w:=w) (K:=K) (mg:=mg) (base:=base) (CX:=CX0) F36 T fN mv_NOUGHT fO mv_ONE R33 b33 F33.kp m33 R32 b32 F32.kp m32 R5 b5 F5.kp m5;have R37:=Zd (P:=l.prog) (w:=w) (K:=K) (mg:=mg) (base:=base) (CX:=CX0) F37 NTx T n_len n_range fN mv_NOUGHT GW bW mW R25 b25 ⟨a25_0,i25,F25.kp⟩ R23 b23 ⟨a23_0,i23,F23.kp⟩ R34 b34 F34.kp m34 R35 b35 F35.kp m35 R36 b36 F36.kp m36;have R38:=Zs (P:=l.prog) (w:=w) (K:=K) (mg:=mg) (base:=base) (CX:=CX0) F38  R2 b2 F2.kp m2;have R39:=Yb (P:=l.prog) (w:=w) (K:=K) (mg:=mg) (base:=base) (CX:=CX0) F39 n_len n_range;have R40:=Zg (P:=l.prog) (w:=w) (K:=K) (mg:=mg) (base:=base) (CX:=CX0) F40 n_zip;have R41:=Da (P:=l.prog) (w:=w) (K:=K) (mg:=mg) (base:=base) (CX:=CX0) F41 n_enumerate R40 b40 F40.kp m40;have R42:=Rq (P:=l.prog) (w:=w) (K:=K) (mg:=mg) (base:=base) (CX:=CX0) F42 n_range n_list R39 b39 F39.kp m39 R41 b41 F41.kp m41;have R43:=Hv (P:=l.prog) (w:=w) (K:=K) (mg:=mg) (base:=base) (CX:=CX0) F43 n_len n_zip R38 b38 F38.kp m38 R42 b42 F42.kp m42 R4 b4 F4.kp m4;have R44:=Wn (P:=l.prog) (w:=w) (K:=K) (mg:=mg) (base:=base) (CX:=CX0) F44 n_len R31 b31 F31.kp m31 R28 b28 F28.kp m28;have R45:=Xd (P:=l.prog) (w:=w) (K:=K) (mg:=mg) (base:=base) (CX:=CX0) F45 NTx fN mv_NOUGHT R23 b23 ⟨a23_0,i23,F23.kp⟩ R43 b43 F43.kp m43;have R46:=Ws (P:=l.prog) (w:=w) (K:=K) (mg:=mg) (base:=base) (CX:=CX0) F46 T n_len fN mv_NOUGHT fO mv_ONE R9 b9 MK R37 b37 F37.kp m37 R35 b35 F35.kp m35 R45 b45 F45.kp m45;have R47:=Xv (P:=l.prog) (w:=w) (K:=K) (mg:=mg) (base:=base) (CX:=CX0) F47 NTx R23 b23 ⟨a23_0,i23,F23.kp⟩ R21 b21 F21.kp m21 R44 b44 F44.kp m44 R46 b46 F46.kp m46 R5 b5 F5.kp m5;have R48:=Wo (P:=l.prog) (w:=w) (K:=K) (mg:=mg) (base:=base) (CX:=CX0) F48 n_enumerate NTx T GW bW mW R25 b25 ⟨a25_0,i25,F25.kp⟩;have R49:=Jj (P:=l.prog) (w:=w) (K:=K) (mg:=mg) (base:=base) (CX:=CX0) F49 fN mv_NOUGHT n_len R38 b38 F38.kp m38 R42 b42 F42.kp m42 R4 b4 F4.kp m4;have R50:=qc2 (P:=l.prog) (w:=w) (K:=K) (mg:=mg) (base:=base) (CX:=CX0) F50 (CN:=c_Net) R48 b48 F48.kp m48 R49 b49 F49.kp m49 R37 b37 F37.kp m37;have R51:=Ti (P:=l.prog) (w:=w) (K:=K) (mg:=mg) (base:=base) (CX:=CX0) F51 n_enumerate NTx T GW bW mW R25 b25 ⟨a25_0,i25,F25.kp⟩;have R52:=Xq (P:=l.prog) (w:=w) (K:=K) (mg:=mg) (base:=base) (CX:=CX0) F52 n_len;have R53:=Yo (P:=l.prog) (w:=w) (K:=K) (mg:=mg) (base:=base) (CX:=CX0) F53 NTx T R25 b25 ⟨a25_0,i25,F25.kp⟩ R51 b51 F51.kp m51 R52 b52 F52.kp m52 R26 b26 F26.kp m26;have R54:=Tb (P:=l.prog) (w:=w) (K:=K) (mg:=mg) (base:=base) (CX:=CX0) F54 n_list n_range NTx R23 b23 ⟨a23_0,i23,F23.kp⟩ R53 b53 F53.kp m53;have R55:=Zf (P:=l.prog) (w:=w) (K:=K) (mg:=mg) (base:=base) (CX:=CX0) F55 (CN:=c_Net) mv_MOST_PIECES n_len R51 b51 F51.kp m51;have R56:=Ov (P:=l.prog) (w:=w) (K:=K) (mg:=mg) (base:=base) (CX:=CX0) F56 NTx R23 b23 ⟨a23_0,i23,F23.kp⟩ R48 b48 F48.kp m48 R55 b55 F55.kp m55 R54 b54 F54.kp m54;have R57:=Qj (P:=l.prog) (w:=w) (K:=K) (mg:=mg) (base:=base) (CX:=CX0) F57 NTx R23 b23 ⟨a23_0,i23,F23.kp⟩ R48 b48 F48.kp m48 R55 b55 F55.kp m55 R54 b54 F54.kp m54 R21 b21 F21.kp m21;have R58:=Sy (P:=l.prog) (w:=w) (K:=K) (mg:=mg) (base:=base) (CX:=CX0) F58;have R59:=Wq (P:=l.prog) (w:=w) (K:=K) (mg:=mg) (base:=base) (CX:=CX0) F59 n_range;have R60:=Te (P:=l.prog) (w:=w) (K:=K) (mg:=mg) (base:=base) (CX:=CX0) F60 n_range;have R61:=Id (P:=l.prog) (w:=w) (K:=K) (mg:=mg) (base:=base) (CX:=CX0) F61 bl;have R62:=Qh (P:=l.prog) (w:=w) (K:=K) (mg:=mg) (base:=base) (CX:=CX0) F62  R61 b61 F61.kp m61;have R63:=Jq (P:=l.prog) (w:=w) (K:=K) (mg:=mg) (base:=base) (CX:=CX0) F63  R61 b61 F61.kp m61;have R64:=Vl (P:=l.prog) (w:=w) (K:=K) (mg:=mg) (base:=base) (CX:=CX0) F64  R61 b61 F61.kp m61;have R65:=Rf (P:=l.prog) (w:=w) (K:=K) (mg:=mg) (base:=base) (CX:=CX0) F65 bl n_len n_tuple;have R66:=Qk (P:=l.prog) (w:=w) (K:=K) (mg:=mg) (base:=base) (CX:=CX0) F66  R59 b59 F59.kp m59 R61 b61 F61.kp m61;have R67:=Qd (P:=l.prog) (w:=w) (K:=K) (mg:=mg) (base:=base) (CX:=CX0) F67 NTx R24 b24 ⟨a24_0,i24,F24.kp⟩ R22 b22 MN R17 b17 F17.kp m17;have R68:=Wf (P:=l.prog) (w:=w) (K:=K) (mg:=mg) (base:=base) (CX:=CX0) F68 n_len R59 b59 F59.kp m59 R61 b61 F61.kp m61 R66 b66 F66.kp m66;have R69:=Ue (P:=l.prog) (w:=w) (K:=K) (mg:=mg) (base:=base) (CX:=CX0) F69 n_range n_len R58 b58 F58.kp m58 R59 b59 F59.kp m59 R68 b68 F68.kp m68;have R70:=Ym (P:=l.prog) (w:=w) (K:=K) (mg:=mg) (base:=base) (CX:=CX0) F70  R64 b64 F64.kp m64 R62 b62 F62.kp m62;have R71:=Vp (P:=l.prog) (w:=w) (K:=K) (mg:=mg) (base:=base) (CX:=CX0) F71 (CN:=c_Net) n_len R63 b63 F63.kp m63 R64 b64 F64.kp m64 R47 b47 F47.kp m47 R70 b70 F70.kp m70 R57 b57 F57.kp m57;exact We (P:=l.prog) (w:=w) (K:=K) (mg:=mg) (base:=base) (CX:=CX0) F72 (CN:=c_Net) n_len n_range n_min R58 b58 F58.kp m58 R69 b69 F69.kp m69 R67 b67 F67.kp m67 R56 b56 F56.kp m56 R50 b50 F50.kp m50 R65 b65 F65.kp m65 R70 b70 F70.kp m70 R59 b59 F59.kp m59 R57 b57 F57.kp m57 R63 b63 F63.kp m63 R47 b47 F47.kp m47 R60 b60 F60.kp m60 R71 b71 F71.kp m71
theorem qh9 {l:W.OpenLaw}{q:Program}{loose:List Str}{XP:(Str->Option Value)->Heap->Prop}{YP:World->Heap->Prop}{d:DefRec}{K:Params->Frag}(hn:l.most=some 63)(hdf:d.params.defaults=[])(hY:∀(w:World) (h:Heap),YP w h->(K w.params).In h)(F:∀(w:World) (mg:Str->Option Value) (fa:Addr) (h:Heap),(K w.params).In h->h.Ns mainGlobals mg->mg d.name=some (.ref fa)->
   ∃fd:FuncData,(∀(s:Shared) (u:Value),BindsTo s fd ⟨[u],[]⟩ [("_law_script",u)])/\∀base:Heap,(K w.params).In base->base.Ns mainGlobals mg->aM l.prog w (K w.params) mg base CX0 11 fa fd ["_law_script"] (Eo (K w.params))) :
  W.WalkO q loose XP YP l.row.toRowW d [] (fun f vs=>PySem.call f vs):=
 L2.Tl (n:=63) (k:=11) (x:="_law_script") (CX:=fun _=>CX0) (sp:=fun w=>Eo (K w.params)) hn (by decide) hdf ⟨rfl,by decide,by decide⟩ hY F (fun _ _ a ns hl _ hS=>⟨a,ns,rfl,hS,hl,fun _=>rfl⟩) fun _ _ _ _ _ z=>z
end K69
local macro_rules | `(tactic| walk_at "F9")=>`(tactic| (refine' L2.qK ?l9 ?c9 ?kk9;(case l9=>k_is);(case c9=>k_is);(case kk9=>show _=_;k_is)))
namespace PySem.W.Fast
def Q:=Nat
def tw9790468860259469926:=Q
def tw7359557825093135508:=Q
def tw4789057980474515668:=Q
def tw9570083687918145207:=Q
def tw17583890146847619430:=Q
def tw17110436563861107189:=Q
def tw2926634334138937400:=Q
def tw2142365723146740250:=Q
def tw10546986499643294679:=Q
def tw4780951939347553531:=Q
def tw7489167240916089777:=Q
def tw6970015907320036610:=Q
def tw6939844365287019316:=Q
def tw6802495409772968330:=Q
def tw12701290129586145978:=Q
def tw17968373130215538921:=Q
def tw3232759517484326693:=Q
def tw5582972488281611438:=Q
def tw14963538536850789548:=Q
def tw17421092209309895735:=Q
def tw10792047134334119420:=Q
def tw5802305797421759118:=Q
def tw17956866085065379082:=Q
def tw13010597371095047239:=Q
def tw15823289754665259697:=Q
def tw16395739172956039490:=Q
def tw11246965606643489981:=Q
def tw7558052265965777172:=Q
def tw7559199648018018068:=Q
def tw1726221580903521915:=Q
def tw8419428229038921528:=Q
def tw15188117610342089866:=Q
def tw17569243977931889301:=Q
def tw1863961492073943410:=Q
def tw8122535025527540713:=Q
def tw15148720874426414006:=Q
def tw9268099084099292014:=Q
def tw2261199715921241176:=Q
def tw16375753077679850835:=Q
def tw11725070787918074641:=Q
def tw12325680828310932947:=Q
def tw7511943949279971606:=Q
def tw236055315469036127:=Q
def tw10066167274706350730:=Q
def tw4919535682299654702:=Q
def tw11610663587915320639:=Q
def tw5973371617493685593:=Q
def tw3083813956265689679:=Q
def tw9791977620911178245:=Q
def tw17787378185407782429:=Q
def tw10311180482953257696:=Q
def tw15890062478356416446:=Q
def tw3762361569416043565:=Q
def tw12394286176776822263:=Q
def tw7980506364539390723:=Q
def tw13397387841797572253:=Q
def tw6265292361923394263:=Q
def tw13030238070963633848:=Q
def tw3095373352529808826:=Q
def tw8483077789683174173:=Q
def tw16105337369284967957:=Q
def tw17729025999902109215:=Q
def tw8532223752536035712:=Q
def tw15084332371086242245:=Q
def tw6783013383415313083:=Q
def tw8959818554173921322:=Q
def tw1032927032190213093:=Q
def tw13037719006064584609:=Q
def tw9833738432020462721:=Q
def tw7767611317427759093:=Q
def tw12875709145770990623:=Q
def tw15845485140530268037:=Q
def tw3809740487503364822:=Q
def tw12101936961665615959:=Q
def tw13219389876664397452:=Q
def tw79512402314007564:=Q
def tw16664306082148335702:=Q
def tw14028470175279615064:=Q
def tw12144260730210038818:=Q
def tw10614878961390835909:=Q
def tw6692982644382116318:=Q
def tw16550717776413284882:=Q
def tw6188675105761580766:=Q
def tw8301887738769374207:=Q
def tw11432444889558202489:=Q
def tw3466001569129703287:=Q
def tw16105420446661734189:=Q
def tw17902385183013565304:=Q
def tw2292912181576057597:=Q
def tw15913490232644122425:=Q
def tw2191850019414183866:=Q
def tw2166087217685962888:=Q
def tw267503285739211247:=Q
def tw7686970968364077212:=Q
def tw7059487321263406712:=Q
def tw6140288711286723597:=Q
def tw14669076890783056522:=Q
def tw9276908406774832055:=Q
def tw3632963170122506402:=Q
def tw3323168887198993798:=Q
def tw111373019136222660:=Q
def tw8940763218899756907:=Q
def tw13780022784793746571:=Q
def tw17589311379925659097:=Q
def tw6056835861962749044:=Q
def tw17155643526540592426:=Q
def tw11346831751532479967:=Q
def tw7016945492895140736:=Q
def tw12117881183051230702:=Q
def tw3281956388677239285:=Q
def tw13565399536499113269:=Q
def tw1805919599070866107:=Q
def tw12801408597528592972:=Q
def tw587011827829694194:=Q
def tw5440082761561464995:=Q
def tw7762031364524585382:=Q
def tw9054793945067699320:=Q
def tw12588908707144288982:=Q
def tw3646795700262842681:=Q
def tw13286116125985206502:=Q
def tw12884119853117437030:=Q
def tw4262409123712728983:=Q
def tw18056485961319475531:=Q
def tw10627861265906506007:=Q
def tw4964874701442222829:=Q
def tw10439484744584907705:=Q
def tw6365047213516016817:=Q
def tw6788072438977395783:=Q
def tw14583077164814190860:=Q
def tw9349244038034136095:=Q
def tw9488204363406448487:=Q
def tw5025324987293247817:=Q
def tw2750012824176852547:=Q
def tw11158902197652345212:=Q
def tw3573204107842263099:=Q
def tw14340061569752633224:=Q
def tw16317189510172431129:=Q
def tw3756981071507357934:=Q
def tw10999199661135002126:=Q
def tw5536514895839036605:=Q
def tw17417595738292153987:=Q
def tw14033555796700961322:=Q
def tw6977058787571756787:=Q
def tw16294712524872150195:=Q
def tw2196966596542837856:=Q
def tw11379118298585409595:=Q
def tw291350587315076624:=Q
def tw1061030394122550289:=Q
def tw2646535126293716466:=Q
def tw1798417877467194667:=Q
def tw12335495730029375793:=Q
def tw11247564838215429538:=Q
def tw16462139179526441971:=Q
def tw1656779479963734845:=Q
def tw14816933761015777403:=Q
def tw10134299624792720100:=Q
def tw2795438570807316926:=Q
def tw10023341114668012582:=Q
def tw1914160587739545242:=Q
def tw9926813320415978443:=Q
def tw17687954492999985075:=Q
def tw18063812728071232411:=Q
def tw18091564782938364345:=Q
def tw13377297070785298368:=Q
def tw12434644696069129818:=Q
def tw8601349585831474059:=Q
def tw16493429086393164391:=Q
def tw17083127489135526924:=Q
def tw3477541321703872889:=Q
def tw762585976893108504:=Q
def tw9610909957463122344:=Q
def tw10526489100592077952:=Q
def tw12980981115206968195:=Q
def tw13902669535712933811:=Q
def tw2161377241745583085:=Q
def tw9703095619218252182:=Q
def tw18269646891972387858:=Q
def tw14482615421114607088:=Q
def tw4540861729406062482:=Q
def tw13798833133335717936:=Q
def tw5513412596832456623:=Q
def tw9722140273964989474:=Q
def tw6955499827398987112:=Q
def tw5058925139488070692:=Q
def tw11812930329470427512:=Q
def tw13200106031206841933:=Q
def tw8562255460682262310:=Q
def tw2520324861879853980:=Q
def tw9573297339058712157:=Q
def tw7423282490174166132:=Q
def tw1494529949659902223:=Q
def tw10350381385235845148:=Q
def tw14200120222208131236:=Q
def tw15385082141708989087:=Q
def tw1640233824005840555:=Q
def tw14269301237808005946:=Q
def tw10455620238345209002:=Q
def tw5599364783588859247:=Q
def tw9486346037381587028:=Q
def tw5382507652386479158:=Q
def tw7167205942282436434:=Q
def tw8981249478010121477:=Q
def tw9977053617114463513:=Q
def tw6798408986583678968:=Q
def tw11592840605890853045:=Q
def tw9961587029966140726:=Q
def tw2444228681593886830:=Q
def tw6654922893039652411:=Q
def tw18285123223693898349:=Q
def tw14261221684697136503:=Q
def tw423623025291388269:=Q
def tw6921965317290781:=Q
def tw18445761448369013308:=Q
def tw7179563446670839379:=Q
def tw12959311385281993101:=Q
def tw15902750462000098063:=Q
def tw1492817952600368232:=Q
def tw16734810760685984029:=Q
def tw1379177647670163419:=Q
def tw18276692431547224927:=Q
def tw6167979471599556161:=Q
def tw8263699484134772828:=Q
def tw17846339600526983121:=Q
def tw12722352317661230556:=Q
def tw16501575111392579714:=Q
def tw2017285079413791657:=Q
def tw7951331608773784859:=Q
def tw5407758030823365841:=Q
def tw12019039972876646699:=Q
def tw12015381958766320666:=Q
def tw6693253286014221256:=Q
def tw9742280352864569879:=Q
def tw2797042761273015207:=Q
def tw5708618887936253013:=Q
def tw8772548566201663548:=Q
def tw16317106801274439093:=Q
def tw2459026853889061895:=Q
def tw876097022072934967:=Q
def tw7613112693243252975:=Q
def tw41848955994246868:=Q
def tw5642160918775001277:=Q
def tw7095251928475012019:=Q
def tw16419819270876113143:=Q
def tw16273948147306264883:=Q
def tw17993298733979571678:=Q
def tw15545412204695924468:=Q
def tw8717266565604997339:=Q
def tw14064026549542529149:=Q
def tw11278229417378259312:=Q
def tw3562319015094461480:=Q
def tw18258732752296044112:=Q
def tw5792111652569019949:=Q
def tw7860621830898267039:=Q
def tw10217944825619543807:=Q
def tw13880789394240066170:=Q
def tw10597609133073413078:=Q
def tw16244862487482659551:=Q
def tw6557091184293868276:=Q
def tw11916926860137728984:=Q
def tw6336780897546726159:=Q
def tw1451422425901742704:=Q
def tw18243647017757830:=Q
def tw15199835243191005816:=Q
def tw4231909263385833760:=Q
def tw17334885206665403131:=Q
def tw7953137240615609173:=Q
def tw1289002646586973598:=Q
def tw6103752093339029646:=Q
def tw1174895513337215784:=Q
def tw16436878296843028231:=Q
def tw14456943049876329321:=Q
def tw1659602399808969880:=Q
def tw6637111107137699417:=Q
def tw14489438140736957918:=Q
def tw655450887013047915:=Q
def tw12692254529496525973:=Q
def tw3205254373828133783:=Q
def tw17463380826991388737:=Q
def tw5442312526462114236:=Q
def tw16264778285497337518:=Q
def tw11838646092593176360:=Q
def tw17477150920356998898:=Q
def tw15989932808653559406:=Q
def tw4242193756487934620:=Q
def tw13995695805553199341:=Q
def tw9518206122080432966:=Q
def tw17756806119263270869:=Q
def tw9780360811123128155:=Q
def tw2428303323025255387:=Q
def tw3115185962735584834:=Q
def tw4734801104705760309:=Q
def tw8745401828988851733:=Q
def tw15656341026320106284:=Q
def tw2929405473504838805:=Q
def tw11136428106443105978:=Q
def tw2792766652594220505:=Q
def tw13002319425809636315:=Q
def tw15832668817732993677:=Q
def tw6817706673731996417:=Q
def tw3446867762738328330:=Q
def tw12234098442703713448:=Q
def tw16732812854240832082:=Q
def tw16189838279712360845:=Q
def tw3342622779441704699:=Q
def tw12493624774599066065:=Q
def tw1252754328794730213:=Q
def tw14505996759110492851:=Q
def tw16174691240804583868:=Q
def tw7082812111173636730:=Q
def tw8701226186202202393:=Q
def tw13447942644237407726:=Q
def tw14619634763475498360:=Q
def tw8117071280739288167:=Q
def tw5945871618935383986:=Q
def tw18383042380263931258:=Q
def tw11845730106537141531:=Q
def tw2590334754002832761:=Q
def tw2870163632134334466:=Q
def tw18422775461373757074:=Q
def tw9415086388407109296:=Q
def tw3272841551855109653:=Q
def tw16968578558255206748:=Q
def tw4946641829126291037:=Q
def tw7888415696327838062:=Q
def tw17080821564213425207:=Q
def tw2422692084246636349:=Q
def tw5564822243637868726:=Q
def tw7447781634179775098:=Q
def tw11338893762469337114:=Q
def tw1908896756382544645:=Q
def tw11765656889416444890:=Q
def tw4580091173021589972:=Q
def tw12224450872151617391:=Q
def tw17777579884039068876:=Q
def tw11347637649742507842:=Q
def tw13459249394900449347:=Q
def tw13432377513188150985:=Q
def tw1460063072560733727:=Q
def tw4365572281773138762:=Q
def tw1705331273585119268:=Q
def tw17619977086430843875:=Q
def tw9408340671138924244:=Q
def tw1175185920303533958:=Q
def tw15672111817063051142:=Q
def tw1281961498180189270:=Q
def tw7026266928835164364:=Q
def tw5863235411847173867:=Q
def tw6425733698634330243:=Q
def tw11349945607414129820:=Q
def tw5185760336536836372:=Q
def tw13560784594428966398:=Q
def tw1505619482635180664:=Q
def tw13052532353209880807:=Q
def tw4744551356800059471:=Q
def tw4889534995892803066:=Q
def tw14630022525763503579:=Q
def tw366296941450195091:=Q
def tw1664265577784000170:=Q
def tw6182042750636164209:=Q
def tw7207379028471132351:=Q
def tw16426771016391968073:=Q
def tw12053461331738304288:=Q
def tw18097266049012453558:=Q
def tw15416228956931295043:=Q
def tw6219086796650991632:=Q
def tw5816381582266312275:=Q
def tw1342082026143486955:=Q
def tw6254400868852800251:=Q
def tw11056124543041373284:=Q
def tw9545519166716495500:=Q
def tw7230717163423752982:=Q
def tw6322942373935078416:=Q
def tw3662050282304345234:=Q
def tw17539365751067822934:=Q
def tw13169003006681587476:=Q
def tw12397133779074000730:=Q
def tw961101096827011185:=Q
def tw1718668059663143261:=Q
def tw2401492184651804653:=Q
def tw1035434520835142383:=Q
def tw1257735675612732329:=Q
def tw1728140805044859471:=Q
def tw16900771841641574234:=Q
def tw9448405037021321855:=Q
def tw13479744184689659740:=Q
def tw4908379557690274273:=Q
def tw15265910689824937634:=Q
def tw5556131122562994016:=Q
def tw11768574189252494886:=Q
def tw420948820292686013:=Q
def tw9701848816275025377:=Q
def tw3356494117250679546:=Q
def tw1624839194188392070:=Q
def tw18078272432261300137:=Q
def tw9104981591113261867:=Q
def tw8352295308027404370:=Q
def tw17478883457151594350:=Q
def tw8586553044244925283:=Q
def tw3789089150287242954:=Q
def tw1965961535513717666:=Q
def tw16999719004706779296:=Q
def tw10380293382368785696:=Q
def tw4831968748228836435:=Q
def tw7544369048614804167:=Q
def tw6870171579039748310:=Q
def tw8067681115207547124:=Q
def tw11704658122527941980:=Q
def tw1273303504315552622:=Q
def tw3227312698794079328:=Q
def tw9259141416617572366:=Q
def tw4181813222034204783:=Q
def tw7730452441049984215:=Q
def tw12179466737206126374:=Q
def tw14207824376454343710:=Q
def tw10943118721492099690:=Q
def tw9326616246592314643:=Q
def tw1035412342660193440:=Q
def tw6289209644929135614:=Q
def tw9999297176688072992:=Q
def tw1619311994451206942:=Q
def tw16365425447512160675:=Q
def tw13083666519908930520:=Q
def tw18202729501958830956:=Q
def tw15001054238969154590:=Q
def tw10341505658107936496:=Q
def tw1721150754715342825:=Q
def tw13284842099542381514:=Q
def tw17871818795108665450:=Q
def tw3481456571966891521:=Q
def tw14416569240397242617:=Q
def tw2627304623184635702:=Q
def tw3767381920118760650:=Q
def tw10733872639179018760:=Q
def tw5325793682686034712:=Q
def tw116850233434688546:=Q
def tw3741891166305974613:=Q
def tw15287896231309837360:=Q
def tw11296700967352899019:=Q
def tw7954461210439953832:=Q
def tw5211346387052127321:=Q
def tw6152181500636330067:=Q
def tw4056704590071101206:=Q
def tw10764359783949555500:=Q
def tw15133217229433488579:=Q
def tw2544837342771770708:=Q
def tw145584235981700815:=Q
def tw7068108840883800646:=Q
def tw10778779203685219154:=Q
def tw4539495425950320910:=Q
def tw15130190207679714845:=Q
def tw16151896164540213039:=Q
def tw13499647705927464402:=Q
def tw542236410334262281:=Q
def tw11919964886047452812:=Q
def tw17393579510896301073:=Q
def tw3754740383755650240:=Q
def tw3728265542703314105:=Q
def tw16627444976930143161:=Q
def tw7055792683820749234:=Q
def tw7161106554121960461:=Q
def tw15790973959430846059:=Q
def tw11346593251264879527:=Q
def tw12255053965309583492:=Q
def tw13829839185779317962:=Q
def tw140565244440021301:=Q
def tw9559538329849110931:=Q
def tw5182481684704934766:=Q
def tw17227265815396261790:=Q
def tw16963310144831687469:=Q
def tw8635142279598307850:=Q
def tw12303687914427820339:=Q
def tw7985744417391104429:=Q
def tw8168548401833058213:=Q
def tw12815585448022391002:=Q
def tw1790586768435258761:=Q
def tw7548602616908371518:=Q
def tw9457971727126769560:=Q
def tw17306035531139963419:=Q
def tw14098888952102583643:=Q
def tw2551802518552059360:=Q
def tw16604838378621745520:=Q
def tw11088964273751567471:=Q
def tw13687891718929101373:=Q
def tw3569341208925007154:=Q
def tw13991939610933847006:=Q
def tw6321511280369779668:=Q
def tw451224415791568932:=Q
def tw16304422085280068941:=Q
def tw10061925575290553148:=Q
def tw12748393798435118465:=Q
def tw10567531036302038326:=Q
def tw16091986504056774056:=Q
def tw1121637468152449875:=Q
def tw5355909742921230786:=Q
def tw14752350005204102592:=Q
def tw13004190736452521903:=Q
def tw8439847944365253479:=Q
def tw3910048592926177166:=Q
def tw3799092290586296432:=Q
def tw3431614013298347810:=Q
def tw1550879036853618894:=Q
def tw11738754693763392727:=Q
def tw2944185020771906546:=Q
def tw673832623299843361:=Q
def tw17793045743626871280:=Q
def tw15352046551312512296:=Q
def tw7343496256239902588:=Q
def tw16219771193396105529:=Q
def tw12449759645572004345:=Q
def tw5317893346534270681:=Q
def tw4605572045274056585:=Q
def tw7917198333477075375:=Q
def tw309152226446918360:=Q
def tw4324150198662959443:=Q
def tw10183939113009693288:=Q
def tw9080850001529237346:=Q
def tw1667385970757164614:=Q
def tw1308144299470799857:=Q
def tw7967895492663312074:=Q
def tw13517709185503324505:=Q
def tw8373127310465190909:=Q
def tw4610857569644205495:=Q
def tw6806913170583526560:=Q
def tw6349296788260059729:=Q
def tw14871658462495298202:=Q
def tw16210110051383344442:=Q
def tw15013824321835759633:=Q
def tw18077683371140814939:=Q
def tw17984701427111745092:=Q
def tw12220381921145144215:=Q
def tw8046647651111421312:=Q
def tw18130340190905941218:=Q
def tw337616172208283691:=Q
def tw12638236154164423876:=Q
def tw6449090671280142451:=Q
def tw1268336345295455482:=Q
def tw8207557787685112995:=Q
def tw3717782478686192823:=Q
def tw4735726491836950333:=Q
def tw14131388071531835463:=Q
def tw5424629268848121423:=Q
end PySem.W.Fast
open PySem PySem.W PyProof.Rows
set_option maxRecDepth 100000 in
set_option maxHeartbeats 0 in
theorem PySem.Challenge.cw_ohmyard_k69_whole_trees_by_trees_holds : PySem.Challenge.rw_ohmyard_k69_whole_trees_by_trees.Holds := by
  w_on; o_law; z_head; (case hw => w_witness2)
  k_fill
  refine L2.Lw (fun _ => by kernel_rfl) (K69.qh9 (l := PySem.Challenge.rw_ohmyard_k69_whole_trees_by_trees) rfl rfl (fun w h Y => Y) ?F)
  case F =>
    intro w mg fa h KX G hmg
    refine' K69.Yt hmg (mg_of KX G ?y_Row) (mg_of KX G ?y_Piece) (mg_of KX G ?y_Push) (mg_of KX G ?y_Hold) (mg_of KX G ?y_Net) (mg_of KX G ?a1) ?F1 (mg_of KX G ?a2) ?F2 (mg_of KX G ?a3) ?F3 (mg_of KX G ?a4) ?l4 ?c4 ?k4 ?lt4 (mg_of KX G ?a5) ?F5 (mg_of KX G ?a6) ?F6 (mg_of KX G ?a7) ?F7 (mg_of KX G ?a8) ?F8 ?a9_0 ?a9_1 ?a9_2 ?i9 ?F9 ?a10_0 ?i10 ?F10 ?a11_0 ?i11 ?F11 ?a12_0 ?i12 ?F12 ?a13_0 ?i13 ?F13 ?a14_0 ?i14 ?F14 ?a15_0 ?i15 ?F15 ?a16_0 ?a16_1 ?a16_2 ?i16 ?F16 (mg_of KX G ?a17) ?F17 (mg_of KX G ?a18) ?F18 (mg_of KX G ?a19) ?F19 (mg_of KX G ?a20) ?F20 (mg_of KX G ?a21) ?F21 ?a22_0 ?i22 ?F22 ?a23_0 ?i23 ?F23 ?a24_0 ?i24 ?F24 ?a25_0 ?i25 ?F25 (mg_of KX G ?a26) ?F26 (mg_of KX G ?a27) ?F27 (mg_of KX G ?a28) ?F28 (mg_of KX G ?a29) ?F29 (mg_of KX G ?a30) ?F30 (mg_of KX G ?a31) ?l31 ?c31 ?k31 ?lt31 (mg_of KX G ?a32) ?F32 (mg_of KX G ?a33) ?F33 (mg_of KX G ?a34) ?F34 (mg_of KX G ?a35) ?F35 (mg_of KX G ?a36) ?F36 (mg_of KX G ?a37) ?F37 (mg_of KX G ?a38) ?F38 (mg_of KX G ?a39) ?F39 (mg_of KX G ?a40) ?F40 (mg_of KX G ?a41) ?F41 (mg_of KX G ?a42) ?F42 (mg_of KX G ?a43) ?F43 (mg_of KX G ?a44) ?F44 (mg_of KX G ?a45) ?F45 (mg_of KX G ?a46) ?F46 (mg_of KX G ?a47) ?F47 (mg_of KX G ?a48) ?F48 (mg_of KX G ?a49) ?F49 (mg_of KX G ?a50) ?F50 (mg_of KX G ?a51) ?F51 (mg_of KX G ?a52) ?F52 (mg_of KX G ?a53) ?F53 (mg_of KX G ?a54) ?F54 (mg_of KX G ?a55) ?F55 (mg_of KX G ?a56) ?F56 (mg_of KX G ?a57) ?F57 (mg_of KX G ?a58) ?F58 (mg_of KX G ?a59) ?F59 (mg_of KX G ?a60) ?F60 (mg_of KX G ?a61) ?F61 (mg_of KX G ?a62) ?F62 (mg_of KX G ?a63) ?F63 (mg_of KX G ?a64) ?F64 (mg_of KX G ?a65) ?F65 (mg_of KX G ?a66) ?F66 (mg_of KX G ?a67) ?F67 (mg_of KX G ?a68) ?F68 (mg_of KX G ?a69) ?F69 (mg_of KX G ?a70) ?F70 (mg_of KX G ?a71) ?F71 (mg_of KX G ?a72) ?l72 ?c72 ?k72 (mg_of KX G ?v_ONE) (mg_of KX G ?v_NOUGHT) (mg_of KX G ?v_JOINING_WORDS) (mg_of KX G ?v_MOST_POINTS) (mg_of KX G ?v_MOST_ROWS) (mg_of KX G ?v_MOST_PIECES) ?lO ?lN ?lJ ?pg_Piece ?hd_Piece ?po_Piece ?sa_Piece ?mk_Piece ?kc_Piece ?t1_Piece ?t4_Piece ?na_Piece_start ?na_Piece_goal ?na_Piece_size ?pg_Push ?hd_Push ?po_Push ?sa_Push ?mk_Push ?kc_Push ?t1_Push ?t4_Push ?na_Push_start ?na_Push_goal ?na_Push_size ?pg_Hold ?hd_Hold ?po_Hold ?sa_Hold ?mk_Hold ?kc_Hold ?t1_Hold ?t4_Hold ?na_Hold_start ?na_Hold_goal ?na_Hold_size ?tt2 ?tt3 ?isR_Piece ?isR_Push ?isR_Hold ?isK_Piece_Push ?isK_Piece_Hold ?isK_Push_Piece ?isK_Push_Hold ?isK_Hold_Piece ?isK_Hold_Push ?pg_Net ?hd_Net ?po_Net ?sa_Net ?mk_Net ?kc_Net ?t1_Net ?t4_Net ?na_Net_point_count ?na_Net_kept (mg_none_of KX G ?z1) (mg_none_of KX G ?z2) (mg_none_of KX G ?z3) (mg_none_of KX G ?z4) (mg_none_of KX G ?z5) (mg_none_of KX G ?z6) (mg_none_of KX G ?z7) (mg_none_of KX G ?z8) (mg_none_of KX G ?z9) (mg_none_of KX G ?z10) (mg_none_of KX G ?z11) (mg_none_of KX G ?z12) (mg_none_of KX G ?z13)
    (case y_Row=>k_is)
    (case y_Piece=>k_is)
    (case y_Push=>k_is)
    (case y_Hold=>k_is)
    (case y_Net=>k_is)
    (case a1=>k_is)
    (case F1=>walk_at "F9")
    (case a2=>k_is)
    (case F2=>walk_at "F9")
    (case a3=>k_is)
    (case F3=>walk_at "F9")
    (case a4=>k_is)
    (case l4=>k_is)
    (case c4=>k_is)
    (case k4=>show _=_;k_is)
    (case lt4=>k_is)
    (case a5=>k_is)
    (case F5=>walk_at "F9")
    (case a6=>k_is)
    (case F6=>walk_at "F9")
    (case a7=>k_is)
    (case F7=>walk_at "F9")
    (case a8=>k_is)
    (case F8=>walk_at "F9")
    (case a9_0=>k_is)
    (case a9_1=>k_is)
    (case a9_2=>k_is)
    (case i9=>k_is)
    (case F9=>walk_at "F9")
    (case a10_0=>k_is)
    (case i10=>k_is)
    (case F10=>walk_at "F9")
    (case a11_0=>k_is)
    (case i11=>k_is)
    (case F11=>walk_at "F9")
    (case a12_0=>k_is)
    (case i12=>k_is)
    (case F12=>walk_at "F9")
    (case a13_0=>k_is)
    (case i13=>k_is)
    (case F13=>walk_at "F9")
    (case a14_0=>k_is)
    (case i14=>k_is)
    (case F14=>walk_at "F9")
    (case a15_0=>k_is)
    (case i15=>k_is)
    (case F15=>walk_at "F9")
    (case a16_0=>k_is)
    (case a16_1=>k_is)
    (case a16_2=>k_is)
    (case i16=>k_is)
    (case F16=>walk_at "F9")
    (case a17=>k_is)
    (case F17=>walk_at "F9")
    (case a18=>k_is)
    (case F18=>walk_at "F9")
    (case a19=>k_is)
    (case F19=>walk_at "F9")
    (case a20=>k_is)
    (case F20=>walk_at "F9")
    (case a21=>k_is)
    (case F21=>walk_at "F9")
    (case a22_0=>k_is)
    (case i22=>k_is)
    (case F22=>walk_at "F9")
    (case a23_0=>k_is)
    (case i23=>k_is)
    (case F23=>walk_at "F9")
    (case a24_0=>k_is)
    (case i24=>k_is)
    (case F24=>walk_at "F9")
    (case a25_0=>k_is)
    (case i25=>k_is)
    (case F25=>walk_at "F9")
    (case a26=>k_is)
    (case F26=>walk_at "F9")
    (case a27=>k_is)
    (case F27=>walk_at "F9")
    (case a28=>k_is)
    (case F28=>walk_at "F9")
    (case a29=>k_is)
    (case F29=>walk_at "F9")
    (case a30=>k_is)
    (case F30=>walk_at "F9")
    (case a31=>k_is)
    (case l31=>k_is)
    (case c31=>k_is)
    (case k31=>show _=_;k_is)
    (case lt31=>k_is)
    (case a32=>k_is)
    (case F32=>walk_at "F9")
    (case a33=>k_is)
    (case F33=>walk_at "F9")
    (case a34=>k_is)
    (case F34=>walk_at "F9")
    (case a35=>k_is)
    (case F35=>walk_at "F9")
    (case a36=>k_is)
    (case F36=>walk_at "F9")
    (case a37=>k_is)
    (case F37=>walk_at "F9")
    (case a38=>k_is)
    (case F38=>walk_at "F9")
    (case a39=>k_is)
    (case F39=>walk_at "F9")
    (case a40=>k_is)
    (case F40=>walk_at "F9")
    (case a41=>k_is)
    (case F41=>walk_at "F9")
    (case a42=>k_is)
    (case F42=>walk_at "F9")
    (case a43=>k_is)
    (case F43=>walk_at "F9")
    (case a44=>k_is)
    (case F44=>walk_at "F9")
    (case a45=>k_is)
    (case F45=>walk_at "F9")
    (case a46=>k_is)
    (case F46=>walk_at "F9")
    (case a47=>k_is)
    (case F47=>walk_at "F9")
    (case a48=>k_is)
    (case F48=>walk_at "F9")
    (case a49=>k_is)
    (case F49=>walk_at "F9")
    (case a50=>k_is)
    (case F50=>walk_at "F9")
    (case a51=>k_is)
    (case F51=>walk_at "F9")
    (case a52=>k_is)
    (case F52=>walk_at "F9")
    (case a53=>k_is)
    (case F53=>walk_at "F9")
    (case a54=>k_is)
    (case F54=>walk_at "F9")
    (case a55=>k_is)
    (case F55=>walk_at "F9")
    (case a56=>k_is)
    (case F56=>walk_at "F9")
    (case a57=>k_is)
    (case F57=>walk_at "F9")
    (case a58=>k_is)
    (case F58=>walk_at "F9")
    (case a59=>k_is)
    (case F59=>walk_at "F9")
    (case a60=>k_is)
    (case F60=>walk_at "F9")
    (case a61=>k_is)
    (case F61=>walk_at "F9")
    (case a62=>k_is)
    (case F62=>walk_at "F9")
    (case a63=>k_is)
    (case F63=>walk_at "F9")
    (case a64=>k_is)
    (case F64=>walk_at "F9")
    (case a65=>k_is)
    (case F65=>walk_at "F9")
    (case a66=>k_is)
    (case F66=>walk_at "F9")
    (case a67=>k_is)
    (case F67=>walk_at "F9")
    (case a68=>k_is)
    (case F68=>walk_at "F9")
    (case a69=>k_is)
    (case F69=>walk_at "F9")
    (case a70=>k_is)
    (case F70=>walk_at "F9")
    (case a71=>k_is)
    (case F71=>walk_at "F9")
    (case a72=>k_is)
    (case l72=>k_is)
    (case c72=>k_is)
    (case k72=>show _=_;k_is)
    (case v_ONE=>k_is)
    (case v_NOUGHT=>k_is)
    (case v_JOINING_WORDS=>k_is)
    (case v_MOST_POINTS=>k_is)
    (case v_MOST_ROWS=>k_is)
    (case v_MOST_PIECES=>k_is)
    (case lO=>k_is)
    (case lN=>k_is)
    (case lJ=>k_is)
    (case pg_Piece=>k_is)
    (case hd_Piece=>k_is)
    (case po_Piece=>k_is)
    (case sa_Piece=>k_is)
    (case mk_Piece=>k_is)
    (case kc_Piece=>show _=_;k_is)
    (case t1_Piece=>k_is)
    (case t4_Piece=>k_is)
    (case na_Piece_start=>k_is)
    (case na_Piece_goal=>k_is)
    (case na_Piece_size=>k_is)
    (case pg_Push=>k_is)
    (case hd_Push=>k_is)
    (case po_Push=>k_is)
    (case sa_Push=>k_is)
    (case mk_Push=>k_is)
    (case kc_Push=>show _=_;k_is)
    (case t1_Push=>k_is)
    (case t4_Push=>k_is)
    (case na_Push_start=>k_is)
    (case na_Push_goal=>k_is)
    (case na_Push_size=>k_is)
    (case pg_Hold=>k_is)
    (case hd_Hold=>k_is)
    (case po_Hold=>k_is)
    (case sa_Hold=>k_is)
    (case mk_Hold=>k_is)
    (case kc_Hold=>show _=_;k_is)
    (case t1_Hold=>k_is)
    (case t4_Hold=>k_is)
    (case na_Hold_start=>k_is)
    (case na_Hold_goal=>k_is)
    (case na_Hold_size=>k_is)
    (case tt2=>k_is)
    (case tt3=>k_is)
    (case isR_Piece=>kit_is)
    (case isR_Push=>kit_is)
    (case isR_Hold=>kit_is)
    (case isK_Piece_Push=>kit_is)
    (case isK_Piece_Hold=>kit_is)
    (case isK_Push_Piece=>kit_is)
    (case isK_Push_Hold=>kit_is)
    (case isK_Hold_Piece=>kit_is)
    (case isK_Hold_Push=>kit_is)
    (case pg_Net=>k_is)
    (case hd_Net=>k_is)
    (case po_Net=>k_is)
    (case sa_Net=>k_is)
    (case mk_Net=>k_is)
    (case kc_Net=>show _=_;k_is)
    (case t1_Net=>k_is)
    (case t4_Net=>k_is)
    (case na_Net_point_count=>k_is)
    (case na_Net_kept=>k_is)
    (case z1=>k_is)
    (case z2=>k_is)
    (case z3=>k_is)
    (case z4=>k_is)
    (case z5=>k_is)
    (case z6=>k_is)
    (case z7=>k_is)
    (case z8=>k_is)
    (case z9=>k_is)
    (case z10=>k_is)
    (case z11=>k_is)
    (case z12=>k_is)
    (case z13=>k_is)
