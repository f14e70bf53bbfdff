import PyProof.Rows.All
import Wide.All
import OpenK.AllK
import Wide.FinOn
import Lean
import PyProof.EqAt
import PyProof.EqKinds
import PyProof.TupleCall
import PyProof.Cells
import PyProof.SumWalkG
import PyProof.EnumStmt
import PyProof.EnumMake
import PyProof.InstStoreFacts
import KE.KDictList
import PySem.Challenge.RW_ohmyard_k67_one_piece_more
set_option Elab.async false
set_option linter.all false
set_option maxRecDepth 100000
open PySem.W (Frag)
set_option maxHeartbeats 4000000
namespace L2
open PySem PySem.Spec PyProof.Rows
abbrev Key:=Sum Int Str
def vB:Key->Value->Bool
 | .inl k,v=>Value.isInt k v
 | .inr x,v=>Value.isStrOf x v
def qd2 (w:World):Key->Int
 | .inl k=>hashInt k
 | .inr x=>hashStr w x
theorem dL:∀{k:Key} {v:Value},vB k v=true->(∃i t,k=Sum.inl i/\v=Value.int i t)\/(∃x t,k=Sum.inr x/\v=Value.str x t)
 | .inl i,v,h=>by
  obtain⟨t,e⟩:=Value.isInt_shape (k:=i) (v:=v) h;exact .inl ⟨i,t,rfl,e⟩
 | .inr x,v,h=>by
  obtain⟨t,e⟩:=Value.isStrOf_shape (x:=x) (v:=v) h;exact .inr ⟨x,t,rfl,e⟩
theorem Ke (i:Int)(t:Tok):vB (.inl i) (.int i t)=true:=by simp[vB,Value.isInt]
theorem Hl (x:Str)(t:Tok):vB (.inr x) (.str x t)=true:=by simp[vB,Value.isStrOf]
theorem Ww (a b:Int):decide ((Sum.inl a:Key)=Sum.inl b)=(a == b):=by
 by_cases e:a=b
 ·subst e;simp
 ·have h:¬(Sum.inl a:Key)=Sum.inl b:=fun q=>e (Sum.inl.inj q);rw[decide_eq_false h];exact(beq_eq_false_iff_ne.mpr e).symm
theorem Ux (a b:Str):decide ((Sum.inr a:Key)=Sum.inr b)=decide (a=b):=by
 by_cases e:a=b
 ·subst e;simp
 ·have h:¬(Sum.inr a:Key)=Sum.inr b:=fun q=>e (Sum.inr.inj q);rw[decide_eq_false h,decide_eq_false e]
theorem Vf (a:Int)(b:Str):decide ((Sum.inl a:Key)=Sum.inr b)=false:=decide_eq_false (fun q=>nomatch q)
theorem Vp (a:Str)(b:Int):decide ((Sum.inr a:Key)=Sum.inl b)=false:=decide_eq_false (fun q=>nomatch q)
def dH (prog:Program)(w:World):PySem.KeyKind prog w Key where
 is:=vB
 hash:=qd2 w
 inj:=fun v a b ha hb=>by
  rcases dL ha with ⟨i,t,rfl,rfl⟩ | ⟨x,t,rfl,rfl⟩
  ·rcases dL hb with ⟨j,u,rfl,e⟩ | ⟨y,u,rfl,e⟩
   ·injection e with e1 _;rw[e1]
   ·exact nomatch e
  ·rcases dL hb with ⟨j,u,rfl,e⟩ | ⟨y,u,rfl,e⟩
   ·exact nomatch e
   ·injection e with e1 _;rw[e1]
 byValue:=fun k v h=>by
  rcases dL h with ⟨i,t,rfl,rfl⟩ | ⟨x,t,rfl,rfl⟩<;>rfl
 pyHash:=fun hv h=>by
  rcases dL hv with ⟨i,t,rfl,rfl⟩ | ⟨x,t,rfl,rfl⟩
  ·exact wpAny_pyHash_int h
  ·exact wpAny_pyHash_str h
 eqBool:=fun hu hv h=>by
  rcases dL hu with ⟨i,t,rfl,rfl⟩ | ⟨x,t,rfl,rfl⟩
  ·rcases dL hv with ⟨j,u,rfl,rfl⟩ | ⟨y,u,rfl,rfl⟩
   ·rw[Ww] at h;exact wpAny_eqBool_int h
   ·rw[Vf] at h;exact SeqAt.EqAt.int_str i t y u _ _ _ _ h
  ·rcases dL hv with ⟨j,u,rfl,rfl⟩ | ⟨y,u,rfl,rfl⟩
   ·rw[Vp] at h;exact SeqAt.EqAt.str_int x t j u _ _ _ _ h
   ·rw[Ux] at h;exact wpAny_eqBool_str h
 «strs»:=fun k x t v h=>by
  rcases dL h with ⟨i,u,rfl,e⟩ | ⟨y,u,rfl,e⟩
  ·exact nomatch e
  ·injection e with e1 _
   subst e1
   cases v<;>rfl
theorem As (prog:Program)(w:World)(i:Int)(t:Tok):(dH prog w).is (.inl i) (.int i t)=true:=Ke i t
theorem Cv (prog:Program)(w:World)(x:Str)(t:Tok):(dH prog w).is (.inr x) (.str x t)=true:=Hl x t
inductive V where
 |non | bl (b:Bool) | int (i:Int) | str (x:Str) | byt (b:Array UInt8) | flt (b:UInt64) | ref (a:Addr) | ty (n:String)
 deriving DecidableEq
def bV:V->Value->Prop
 | .non,u=>u=Value.none
 | .bl b,u=>u=Value.bool b
 | .int i,u=>∃t,u=Value.int i t
 | .str x,u=>∃t,u=Value.str x t
 | .byt b,u=>∃t,u=Value.bytes b t
 | .flt b,u=>∃t,u=Value.float b t
 | .ref a,u=>u=Value.ref a
 | .ty n,u=>u=Value.type n
abbrev bX:List V->List Value->Prop:=Paired bV
theorem bX.length {xs:List V}{us:List Value}(r:bX xs us):xs.length=us.length:=Paired.length r
theorem bX.get:∀{xs:List V} {us:List Value} {i:Nat} {x:V},bX xs us->xs[i]?=some x->∃u,us[i]?=some u/\bV x u
 |_,_,_,_,.nil,e=>by simp at e
 |_,_,0,_,.cons r _,e=>by simp at e;subst e;exact⟨_,rfl,r⟩
 |_,_,i+1,x,.cons _ t,e=>by
  obtain⟨u,h1,h2⟩:=bX.get (i:=i) (x:=x) t (by simpa using e);exact⟨u,by simpa using h1,h2⟩
theorem bX.set {x:V}{u:Value}(r:bV x u):∀{xs:List V} {us:List Value} (i:Nat),bX xs us->bX (xs.set i x) (us.set i u)
 |_,_,_,.nil=>.nil
 |_,_,0,.cons _ t=>.cons r t
 |_,_,i+1,.cons q t=>.cons q (bX.set r i t)
theorem bX.append:∀{xs ys:List V} {us ws:List Value},bX xs us->bX ys ws->bX (xs++ys) (us++ws)
 |_,_,_,_,.nil,s=>s
 |_,_,_,_,.cons r t,s=>.cons r (bX.append t s)
theorem bX.take:∀{xs:List V} {us:List Value} (n:Nat),bX xs us->bX (xs.take n) (us.take n)
 |_,_,0,_=>.nil
 |_,_,_+1,.nil=>.nil
 |_,_,n+1,.cons r t=>.cons r (bX.take n t)
theorem bX.drop:∀{xs:List V} {us:List Value} (n:Nat),bX xs us->bX (xs.drop n) (us.drop n)
 |_,_,0,r=>r
 |_,_,_+1,.nil=>.nil
 |_,_,n+1,.cons _ t=>bX.drop n t
def kF:Option V->Option Value->Prop
 |some v,some u=>bV v u
 |none,none=>True
 |_,_=>False
def KV {κ:Type}:List (κ × V)->List (κ × Value)->Prop:=Paired fun (p:κ × V) (q:κ × Value)=>p.1=q.1/\bV p.2 q.2
def kV:Key->V
 | .inl i=>.int i
 | .inr x=>.str x
inductive HO where
 |lst (xs:List V)
 |tup (xs:List V)
 |dK (kvs:List (Key × V)) | dT (kvs:List (List Key × V))
 |set (S:Int->Bool) (n:Nat)
 |ins (C dx:Addr) (fs:List (Str × V))
 |own (x:Addr)
 |xd (fs:List (Str × V))
 |met (f x:Addr)
 |rng (lo hi:Int)
 |frz (o:Obj) (u:HO)
 |tbl (ps:Array Value)
 |ext (φ:Heap->Prop)
abbrev Hp:=Addr->Option HO
def upd (H:Hp)(a:Addr)(o:HO):Hp:=fun b=>if b=a then some o else H b
theorem aD {H:Hp}{a:Addr}{o:HO}:upd H a o a=some o:=by unfold upd;rw[if_pos rfl]
theorem aV {H:Hp}{a b:Addr}{o:HO}(h:b≠a):upd H a o b=H b:=by unfold upd;rw[if_neg h]
theorem oP {H:Hp}{a:Addr}{o u:HO}:upd (upd H a o) a u=upd H a u:=by
 funext b;unfold upd;split<;>rfl
theorem jD {H:Hp}{a b:Addr}{o u:HO}(h:H a=some o)(h':H b=some u)(d:o≠u):a≠b:=by
 intro e;subst e;rw[h] at h';exact d (Option.some.inj h')
theorem bC {H:Hp}{a b:Addr}{o:HO}(h:H a=some o)(h':H b=none):a≠b:=by
 intro e;subst e;rw[h] at h';cases h'
section
variable (P:Program) (w:World)
def dR (H:Hp)(h:Heap)(a:Addr):HO->Prop
 | .lst xs=>xs.length<=sizeLine/\∃(its:List Value) (n:Nat),bX xs its/\h.get? a=some { cls:=.type "list",data:=.seq its.toArray n }
 | .tup xs=>xs.length<=sizeLine/\∃its:List Value,bX xs its/\IsTup h a its.toArray
 | .dK kvs=>kvs.length<=sizeLine/\(a == sysModules)=false/\∃vs,KV kvs vs/\h.DictOf (dH P w) a vs
 | .dT kvs=>kvs.length<=sizeLine/\(a == sysModules)=false/\∃xs:List (List Key × Addr × Value),
   Paired (fun (p:List Key × V) (q:List Key × Addr × Value)=>p.1=q.1/\H q.2.1=some (.tup (p.1.map kV))/\bV p.2 q.2.2) kvs xs/\
   ∃o es ep,h.get? a=some o/\o.ExactDict/\o.data=.dict es ep/\es.toList=xs.map (entryOfKey (tupleKind (dH P w)))/\(xs.map (·.1)).Nodup
 | .set S n=>h.SetOf (intKind P w) a S n
 | .ins C dx fs=>H dx=some (.own a)/\fs.length<=1000/\dx≠a/\h.get? a=some (PySem.W.instObj C dx)/\
   ∃mA,h.Ns1 dx mA/\(∀f,kF (fs.lookup f) (mA f))/\PySem.Within mA (fs.map (·.1))
 | .own _=>∃o,h.get? a=some o
 | .xd fs=>∃mA,h.Ns1 a mA/\∀f,kF (fs.lookup f) (mA f)
 | .rng lo hi=>∃t u v,h.get? a=some { cls:=.type "range",data:=.fields #[.int lo t,.int hi u,.int 1 v] }
 | .frz o u=>h.get? a=some o/\dR H h a u
 | .tbl ps=>h.get? a=some { cls:=.none,data:=.fields ps }
 | .met f x=>h.get? a=some (PySem.W.methodObj (.ref f) (.ref x))
 | .ext φ=>φ h/\(∃o,h.get? a=some o)/\∀h1 h2:Heap,φ h1->(∀o,h1.get? a=some o->h2.get? a=some o)->φ h2
def HOk (H:Hp)(h:Heap):Prop:=∀a o,H a=some o->dR P w H h a o
end
section
variable {P:Program} {w:World} {H H':Hp} {h h':Heap} {a:Addr} {o:HO}
theorem dR.lt (x:dR P w H h a o):a < h.objs.size:=by
 cases o with
 |lst xs=>obtain⟨_,_,_,_,e⟩:=x;exact Heap.lt_size e
 |tup xs=>obtain⟨_,_,_,p⟩:=x;exact p.lt
 |dK kvs=>obtain⟨_,_,_,_,o,_,_,e,_⟩:=x;exact Heap.lt_size e
 |dT kvs=>obtain⟨_,_,_,_,o,_,_,e,_⟩:=x;exact Heap.lt_size e
 |set S n=>obtain⟨o,_,_,_,e,_⟩:=x;exact Heap.lt_size e
 |ins C dx fs=>obtain⟨_,_,_,e,_⟩:=x;exact Heap.lt_size e
 |own y=>obtain⟨_,e⟩:=x;exact Heap.lt_size e
 |xd fs=>obtain⟨_,⟨_,_,_,e,_⟩,_⟩:=x;exact Heap.lt_size e
 |rng lo hi=>obtain⟨_,_,_,e⟩:=x;exact Heap.lt_size e
 |frz ob u=>obtain⟨e,_⟩:=x;exact Heap.lt_size e
 |tbl ps=>exact Heap.lt_size (show h.get? a=some _ from x)
 |met f y=>exact Heap.lt_size (show h.get? a=some _ from x)
 |ext φ=>obtain⟨_,⟨_,e⟩,_⟩:=x;exact Heap.lt_size e
theorem Paired.mapP {α β:Type}{F G:α->β->Prop}:∀{l₁:List α} {l₂:List β},Paired F l₁ l₂->(∀a b,F a b->G a b)->Paired G l₁ l₂
 |_,_,.nil,_=>.nil
 |_,_,.cons r t,f=>.cons (f _ _ r) (Paired.mapP t f)
theorem dR.stay (x:dR P w H h a o)(k:∀b u,(b=a\/H b=some (.own a))->h.get? b=some u->h'.get? b=some u)(ho:∀b,H b=some (.own a)->H' b=some (.own a))(ht:∀b xs,H b=some (.tup xs)->H' b=some (.tup xs)):dR P w H' h' a o:=by
 induction o with
 |lst xs=>obtain⟨z,its,n,r,e⟩:=x;exact⟨z,its,n,r,k _ _ (.inl rfl) e⟩
 |tup xs=>obtain⟨z,its,r,ob,e,c⟩:=x;exact⟨z,its,r,ob,k _ _ (.inl rfl) e,c⟩
 |dK kvs=>obtain⟨z,y,vs,r,ob,es,ep,e,c⟩:=x;exact⟨z,y,vs,r,ob,es,ep,k _ _ (.inl rfl) e,c⟩
 |dT kvs=>
  obtain⟨z,y,xs,r,ob,es,ep,e,c⟩:=x;exact⟨z,y,xs,Paired.mapP r fun p q z=>⟨z.1,ht _ _ z.2.1,z.2.2⟩,ob,es,ep,k _ _ (.inl rfl) e,c⟩
 |set S n=>obtain⟨ob,es,ep,t,e,c⟩:=x;exact⟨ob,es,ep,t,k _ _ (.inl rfl) e,c⟩
 |ins C dx fs=>
  obtain⟨d,z,ne,e,mA,⟨od,es,ep,e2,c⟩,r⟩:=x;exact⟨ho _ d,z,ne,k _ _ (.inl rfl) e,mA,⟨od,es,ep,k _ _ (.inr d) e2,c⟩,r⟩
 |own y=>obtain⟨ob,e⟩:=x;exact⟨ob,k _ _ (.inl rfl) e⟩
 |xd fs=>obtain⟨mA,⟨od,es,ep,e,c⟩,r⟩:=x;exact⟨mA,⟨od,es,ep,k _ _ (.inl rfl) e,c⟩,r⟩
 |rng lo hi=>obtain⟨t,u,v,e⟩:=x;exact⟨t,u,v,k _ _ (.inl rfl) e⟩
 |frz ob u ih=>obtain⟨e,q⟩:=x;exact⟨k _ _ (.inl rfl) e,ih q⟩
 |tbl ps=>
  have e:h.get? a=some { cls:=.none,data:=.fields ps }:=x;show h'.get? a=some { cls:=.none,data:=.fields ps };exact k a _ (.inl rfl) e
 |met f y=>
  have e:h.get? a=some (PySem.W.methodObj (.ref f) (.ref y)):=x;show h'.get? a=some (PySem.W.methodObj (.ref f) (.ref y));exact k a _ (.inl rfl) e
 |ext φ=>obtain⟨p,⟨o,e⟩,st⟩:=x;exact⟨st _ _ p fun o q=>k _ _ (.inl rfl) q,⟨o,k _ _ (.inl rfl) e⟩,st⟩
theorem HOk.lt (x:HOk P w H h)(e:H a=some o):a < h.objs.size:=(x a o e).lt
theorem HOk.fresh (x:HOk P w H h)(e:h.objs.size<=a):H a=none:=by
 cases q:H a with
 |none=>rfl
 |some u=>exact absurd (Nat.lt_of_lt_of_le (x.lt q) e) (Nat.lt_irrefl _)
theorem HOk.kept (x:HOk P w H h)(k:∀b u,h.get? b=some u->h'.get? b=some u):HOk P w H h':=fun a o e=>
 (x a o e).stay (fun b u _ q=>k b u q) (fun _ q=>q) fun _ _ q=>q
theorem HOk.laid (x:HOk P w H h)(k:∀b u,h.get? b=some u->h'.get? b=some u)(hp:h.objs.size<=a)(new:dR P w (upd H a o) h' a o):HOk P w (upd H a o) h':=fun b u e=>by
 have hn:=x.fresh hp
 by_cases hb:b=a
 ·subst hb;rw[aD] at e;cases e;exact new
 ·rw[aV hb] at e;exact(x b u e).stay (fun c v _ q=>k c v q) (fun c q=>by rw[aV (bC q hn)];exact q) fun c xs q=>by rw[aV (bC q hn)];exact q
end
def Rd (H:Hp)(a:Addr)(u:HO):Prop:=H a=some u\/∃o,H a=some (.frz o u)
theorem Rd.ok {P:Program}{w:World}{H:Hp}{h:Heap}{a:Addr}{u:HO}(r:Rd H a u)(x:HOk P w H h):dR P w H h a u:=by
 rcases r with r | ⟨o,r⟩
 ·exact x a u r
 ·obtain⟨_,q⟩:=x a _ r;exact q
def Mut:Option HO->Prop
 |some (.lst _)=>True
 |some (.dK _)=>True
 |some (.dT _)=>True
 |some (.set _ _)=>True
 |some (.ins _ _ _)=>True
 |some (.ext _)=>True
 |_=>False
section
variable {P:Program} {w:World} {H:Hp} {h h':Heap} {x e:Addr} {o':HO}
theorem HOk.write (ok:HOk P w H h)(mu:Mut (H x))(he:e=x\/H e=some (.own x))(k:∀b u,b≠e->h.get? b=some u->h'.get? b=some u)(heo:∃u,h'.get? e=some u)(new:dR P w (upd H x o') h' x o'):HOk P w (upd H x o') h':=fun b u q=>by
 have nown:∀c y,H c=some (.own y)->c≠x:=fun c y r z=>by subst z;rw[r] at mu;exact mu
 have ntup:∀c xs,H c=some (.tup xs)->c≠x:=fun c xs r z=>by subst z;rw[r] at mu;exact mu
 by_cases hb:b=x
 ·subst hb;rw[aD] at q;cases q;exact new
 ·rw[aV hb] at q
  by_cases hbe:b=e
  ·have q':H b=some (.own x):=by
    rcases he with z | z
    ·exact absurd (hbe.trans z) hb
    ·rw[hbe];exact z
   rw[q] at q';cases q';obtain⟨v,hv⟩:=heo;exact⟨v,by rw[hbe];exact hv⟩
  ·refine(ok b u q).stay (fun c v hc r=>k c v ?_ r) (fun c r=>by rw[aV (nown c b r)];exact r) fun c xs r=>by rw[aV (ntup c xs r)];exact r
   rcases hc with rfl | hc
   ·exact hbe
   ·rintro rfl;rcases he with z | z
    ·exact nown c b hc z
    ·rw[hc] at z;cases z;exact hb rfl
end
structure Un (fs ex:List Addr) (H H':Hp) (h h':Heap):Prop where
 keep:∀b o,h.get? b=some o->H b=none->b∉fs->b∉ex->h'.get? b=some o
 slot:∀b o,h.get? b=some o->H b=none->b∈fs->b∉ex->∃sl,h'.get? b=some { o with slots:=sl }
 free:∀b o,h.get? b=some o->H b=none->b∉ex->H' b=none
 there:∀b o,h.get? b=some o->b∉ex->∃o',h'.get? b=some o'
 tups:∀b xs,H b=some (.tup xs)->H' b=some (.tup xs)
 frzs:∀b o u,H b=some (.frz o u)->H' b=some (.frz o u)
 tbls:∀b ps,H b=some (.tbl ps)->∃more,H' b=some (.tbl (ps++more))
section
variable {fs fs' ex ex':List Addr} {H H1 H2:Hp} {h h1 h2 h':Heap} {a x e:Addr} {o:HO}
theorem Un.any (u:Un fs ex H H1 h h1){b:Addr}{ob:Obj}(q:h.get? b=some ob)(n:H b=none)(hx:b∉ex):∃sl,h1.get? b=some { ob with slots:=sl }:=by
 by_cases hb:b∈fs
 ·exact u.slot b ob q n hb hx
 ·exact⟨ob.slots,u.keep b ob q n hb hx⟩
theorem Un.kept (k:∀b u,h.get? b=some u->h'.get? b=some u):Un fs ex H H h h':=
 ⟨fun b ob q _ _ _=>k b ob q,fun b ob q _ _ _=>⟨ob.slots,k b ob q⟩,fun _ _ _ n _=>n,fun b ob q _=>⟨ob,k b ob q⟩,fun _ _ q=>q,fun _ _ _ q=>q,fun _ ps q=>⟨#[],by rw[q];simp⟩⟩
theorem Un.refl:Un fs ex H H h h:=Un.kept fun _ _ q=>q
theorem Un.laid (k:∀b u,h.get? b=some u->h'.get? b=some u)(hp:h.objs.size<=a)(hn:H a=none):Un fs ex H (upd H a o) h h' where
 keep:=fun b u q _ _ _=>k b u q
 slot:=fun b u q _ _ _=>⟨u.slots,k b u q⟩
 free:=fun b u q n _=>by rw[aV (Nat.ne_of_lt (Nat.lt_of_lt_of_le (Heap.lt_size q) hp))];exact n
 there:=fun b u q _=>⟨u,k b u q⟩
 tups:=fun b xs q=>by rw[aV (bC q hn)];exact q
 frzs:=fun b u xs q=>by rw[aV (bC q hn)];exact q
 tbls:=fun b ps q=>⟨#[],by rw[aV (bC q hn),q];simp⟩
theorem Un.write (mu:Mut (H x))(he:e=x\/H e=some (.own x))(k:∀b u,b≠e->h.get? b=some u->h'.get? b=some u)(heo:∃u,h'.get? e=some u):Un fs ex H (upd H x o) h h':=by
 have hx:∀b,H b=none->b≠x:=fun b n z=>by subst z;rw[n] at mu;exact mu
 have hb:∀b,H b=none->b≠e:=fun b n z=>by
  subst z;rcases he with r | r
  ·exact hx b n r
  ·rw[n] at r;cases r
 have hm:∀b u,H b=some u->¬Mut (some u)->b≠x:=fun b u q nm z=>by subst z;rw[q] at mu;exact nm mu
 refine⟨fun b u q n _ _=>k b u (hb b n) q,fun b u q n _ _=>⟨u.slots,k b u (hb b n) q⟩,fun b u q n _=>by rw[aV (hx b n)];exact n,fun b u q _=>?_,
  fun b xs q=>by rw[aV (hm b _ q fun z=>z)];exact q,fun b u xs q=>by rw[aV (hm b _ q fun z=>z)];exact q,fun b ps q=>⟨#[],by rw[aV (hm b _ q fun z=>z),q];simp⟩⟩
 by_cases hbe:b=e
 ·subst hbe;exact heo
 ·exact⟨u,k b u hbe q⟩
end
def trk (h:Heap)(H:Hp):List Addr:=(List.range h.objs.size).filter fun a=>(H a).isSome
def An (h:Heap)(H:Hp):Heap:=PySem.W.hideAll h (trk h H)
theorem Hk (h:Heap)(H:Hp):(An h H).objs.size=h.objs.size:=PySem.W.hideAll_size _ _
theorem Pp {h:Heap}{H:Hp}{b:Addr}{o:Obj}(e:h.get? b=some o)(n:H b=none):(An h H).get? b=some o:=
 PySem.W.hideAll_get _ e fun hm=>by
  have q:(H b).isSome=true:=(List.mem_filter.mp hm).2;rw[n] at q;simp at q
theorem Ql {h:Heap}{H:Hp}{b:Addr}{o:Obj}(e:(An h H).get? b=some o):h.get? b=some o/\H b=none:=by
 have e':h.get? b=some o:=PySem.W.of_hideAll (trk h H) e;refine⟨e',?_⟩
 cases q:H b with
 |none=>rfl
 |some x=>
  have hm:b∈trk h H:=List.mem_filter.mpr ⟨List.mem_range.mpr (Heap.lt_size e'),by simp[q]⟩;have z:(An h H).get? b=none:=PySem.W.hideAll_none (trk h H) hm;rw[z] at e;cases e
structure Mod (K:Frag) (mg:Str->Option Value) (base:Heap):Prop where
 kin:K.In base
 glob:base.Ns mainGlobals mg
 blt:∃mb,base.Ns builtinsNs mb/\∀x:Str,x≠"__name__"->mb x=bootBuiltins x
 nolimit:base.NoLimit
structure Cx where
 prog:Program
 w:World
 K:Frag
 mg:Str->Option Value
 base:Heap
 A:Around
 N:List Str
 s₀:Shared
 H₀:Hp
 env:Env
 outer:List Env
 stack:List Env
 ex:List Addr
 fn:Str->Bool
 calm:Bool
 pn:List (Addr × Obj)
 xe:Value->Shared->Prop
def frs (l:List Env):List Addr:=l.filterMap (·.frame)
abbrev Cx.fs (X:Cx):List Addr:=frs X.outer
def Vis (sc:Scope)(x:Str):Prop:=sc.names.lookup x=some .local\/sc.names.lookup x=some .cell\/sc.names.lookup x=some .free
def Loc (sc:Scope)(x:Str):Prop:=sc.names.lookup x=some .local\/sc.names.lookup x=some .cell
def qc2 (env:Env)(h:Heap)(m:Str->Option Value)(x:Str)(u:Value):Prop:=
 (env.kindOf x=some .local/\m x=some u)\/((env.kindOf x=some .cell\/env.kindOf x=some .free)/\∃c,env.cells.lookup x=some c/\h.IsCell c (some u))
structure Cx.Ok (X:Cx):Prop where
 mod:Mod X.K X.mg X.base
 kind:X.env.scope.kind=.function
 glob:X.env.globals=mainGlobals
 blt:X.env.builtins=builtinsNs
 above:X.s₀.heap.objs.size<=X.env.locals
 inj:∀x y c,X.env.cells.lookup x=some c->X.env.cells.lookup y=some c->x=y
 has:∀x,(X.env.kindOf x=some .cell\/X.env.kindOf x=some .free)->∃c,X.env.cells.lookup x=some c
 cab:∀x c,X.fn x=true->X.env.cells.lookup x=some c->X.s₀.heap.objs.size<=c
 hd:X.calm=true->X.A.handled=none
 frames:X.A.frames=some X.stack
 stk:X.stack=X.outer\/(X.stack=X.env :: X.outer/\X.env.frame=some X.env.locals)
 exf:∀b∈X.ex,b≠X.env.locals/\∀x c,X.env.cells.lookup x=some c->c≠b
 bs:∀b o,X.base.get? b=some o->X.s₀.heap.get? b=some o/\X.H₀ b=none
 bsz:X.base.objs.size<=X.s₀.heap.objs.size
 noex:∀b o,X.base.get? b=some o->b∉X.ex
 exfs:∀b∈X.ex,b∉X.fs
 funs:X.s₀.heap.FunFrames X.base X.outer
 frf:∀b∈X.fs,X.H₀ b=none
structure Inv (X:Cx) (pins:List (Addr × Obj)) (σ:List (Option V)) (H:Hp) (s:Shared):Prop where
 ok:X.Ok
 os:s.os=X.s₀.os
 bare:AllBare s.gens
 base:Un X.fs X.ex X.H₀ H X.s₀.heap s.heap
 loc:∃m,s.heap.Ns X.env.locals m/\∀(i:Nat) (x:Str) (v:V),X.N[i]?=some x->σ[i]?=some (some v)->Vis X.env.scope x->∃u,bV v u/\qc2 X.env s.heap m x u
 cell:∀x c,X.env.cells.lookup x=some c->∃v,s.heap.IsCell c v
 free:H X.env.locals=none
 freeC:∀x c,X.env.cells.lookup x=some c->H c=none
 pin:∀p∈X.pn++pins,s.heap.get? p.1=some p.2/\H p.1=none/\p.1≠X.env.locals/\p.1∉X.fs/\∀v,p.2.data≠.cell v
 hok:HOk X.prog X.w H s.heap
 len:σ.length=X.N.length
section
variable {X:Cx} {pins:List (Addr × Obj)} {σ:List (Option V)} {H H':Hp} {s:Shared} {h':Heap}
theorem Cx.Ok.nofr (ok:X.Ok){b:Addr}{o:Obj}(e:X.base.get? b=some o):b∉X.fs:=fun hb=>by
 have:=(ok.funs.mem hb).1;rw[e] at this;cases this
theorem Inv.bs (I:Inv X pins σ H s):∀b o,X.base.get? b=some o->s.heap.get? b=some o/\H b=none:=fun b o e=>
 ⟨I.base.keep b o (I.ok.bs b o e).1 (I.ok.bs b o e).2 (I.ok.nofr e) (I.ok.noex b o e),I.base.free b o (I.ok.bs b o e).1 (I.ok.bs b o e).2 (I.ok.noex b o e)⟩
theorem Inv.bk (I:Inv X pins σ H s):∀b o,X.base.get? b=some o->s.heap.get? b=some o:=fun b o e=>(I.bs b o e).1
theorem Inv.mod (I:Inv X pins σ H s):Mod X.K X.mg X.base:=I.ok.mod
theorem Inv.kIn (I:Inv X pins σ H s):X.K.In s.heap:=I.ok.mod.kin.keeps I.bk
theorem Inv.lt (I:Inv X pins σ H s):X.env.locals < s.heap.objs.size:=let ⟨_,hn,_⟩:=I.loc;hn.lt
theorem Inv.sz (I:Inv X pins σ H s):X.s₀.heap.objs.size<=s.heap.objs.size:=Nat.le_trans I.ok.above (Nat.le_of_lt I.lt)
theorem Inv.nofs (I:Inv X pins σ H s){a:Addr}(h:s.heap.objs.size<=a):a∉X.fs:=fun hb=>by
 obtain⟨_,o,ho,_⟩:=I.ok.funs.mem hb;exact absurd (Nat.lt_of_lt_of_le (Heap.lt_size ho) (Nat.le_trans I.sz h)) (Nat.lt_irrefl _)
theorem Inv.cne (I:Inv X pins σ H s):∀x c,X.env.cells.lookup x=some c->c≠X.env.locals:=fun x c e z=>by
 obtain⟨v,o,ho,hd⟩:=I.cell x c e;obtain⟨m,⟨o',es,ep,ho',hd',_⟩,_⟩:=I.loc;rw[z,ho'] at ho;cases ho;rw[hd'] at hd;cases hd
theorem Inv.funs (I:Inv X pins σ H s):s.heap.FunFrames X.base X.outer:=by
 have all:∀(l:List Env),(∀b∈frs l,b∈X.fs)->X.s₀.heap.FunFrames X.base l->s.heap.FunFrames X.base l:=by
  intro l
  induction l with
  |nil=>intro _ _;trivial
  |cons env r ih=>
   intro hs hl;obtain⟨hk,⟨L,o,hf,hn,ho,hd⟩,hr⟩:=hl;have hL:L∈X.fs:=hs L (by unfold frs;rw[List.filterMap_cons,hf];exact List.mem_cons_self);obtain⟨sl,e⟩:=I.base.slot L o ho (I.ok.frf L hL) hL fun z=>I.ok.exfs L z hL;exact⟨hk,⟨L,_,hf,hn,e,hd⟩,ih (fun b hb=>hs b (by unfold frs;rw[List.filterMap_cons,hf];exact List.mem_cons_of_mem _ hb)) hr⟩
 exact all X.outer (fun _ hb=>hb) I.ok.funs
theorem Inv.stack (I:Inv X pins σ H s):s.heap.FunFrames X.base X.stack:=by
 rcases I.ok.stk with e | ⟨e,hf⟩
 ·rw[e];exact I.funs
 ·rw[e];obtain⟨m,hn,_⟩:=I.loc;refine .cons (by rw[I.ok.kind];decide) hf hn ?_ I.funs;exact Heap.get?_none_of_le (Nat.le_trans I.ok.bsz I.ok.above)
theorem Inv.stkSub (I:Inv X pins σ H s):∀b∈frs X.stack,b∈X.env.locals :: X.fs:=fun b hb=>by
 rcases I.ok.stk with e | ⟨e,hf⟩
 ·rw[e] at hb;exact List.mem_cons_of_mem _ hb
 ·rw[e] at hb;unfold frs at hb;rw[List.filterMap_cons,hf] at hb;exact hb
theorem Inv.stkFree (I:Inv X pins σ H s):∀b∈frs X.stack,H b=none:=fun b hb=>by
 rcases List.mem_cons.mp (I.stkSub b hb) with e | hb
 ·rw[e];exact I.free
 ·obtain⟨_,o,ho,_⟩:=I.ok.funs.mem hb;exact I.base.free b o ho (I.ok.frf b hb) fun z=>I.ok.exfs b z hb
theorem Inv.step {g':Array GenState}{t':Nat}{d':Drawn}{ch:List Addr}(I:Inv X pins σ H s)(hch:∀b∈ch,(b∈X.ex\/X.s₀.heap.objs.size<=b)/\b≠X.env.locals/\(∀x c,X.env.cells.lookup x=some c->c≠b)/\∀p∈X.pn++pins,p.1≠b)(keep:∀b o,b≠X.env.locals->b∉X.fs->b∉ch->s.heap.get? b=some o->H b=none->h'.get? b=some o)(slot:∀b o,b≠X.env.locals->b∈X.fs->b∉ch->s.heap.get? b=some o->H b=none->∃sl,h'.get? b=some { o with slots:=sl })(free:∀b o,b∉ch->s.heap.get? b=some o->H b=none->H' b=none)(there:∀b o,b∉ch->s.heap.get? b=some o->∃o',h'.get? b=some o')(tups:∀b xs,H b=some (.tup xs)->H' b=some (.tup xs))(frzs:∀b o u,H b=some (.frz o u)->H' b=some (.frz o u))(tbls:∀b ps,H b=some (.tbl ps)->∃more,H' b=some (.tbl (ps++more)))(ns:∀m,s.heap.Ns X.env.locals m->h'.Ns X.env.locals m)(hok:HOk X.prog X.w H' h')(hg:AllBare g') :
  Inv X pins σ H' { s with heap:=h',gens:=g',drawn:=d',toks:=t' }:=by
 have neL:∀b o,X.s₀.heap.get? b=some o->b≠X.env.locals:=fun b o e=>Nat.ne_of_lt (Nat.lt_of_lt_of_le (Heap.lt_size e) I.ok.above);have neC:∀b o,X.s₀.heap.get? b=some o->b∉X.ex->b∉ch:=fun b o e hx hb=>by
  rcases (hch b hb).1 with z | z
  ·exact hx z
  ·exact absurd (Nat.lt_of_lt_of_le (Heap.lt_size e) z) (Nat.lt_irrefl _)
 have cellK:∀x c,X.env.cells.lookup x=some c->∀v,s.heap.IsCell c v->h'.IsCell c v:=fun x c e v ⟨o,ho,hd⟩=>by
  have nch:c∉ch:=fun z=>(hch c z).2.2.1 x c e rfl
  by_cases hc:c∈X.fs
  ·obtain⟨sl,q⟩:=slot c o (I.cne x c e) hc nch ho (I.freeC x c e);exact⟨_,q,hd⟩
  ·exact⟨o,keep c o (I.cne x c e) hc nch ho (I.freeC x c e),hd⟩
 refine⟨I.ok,I.os,hg,⟨fun b o e n hb hx=>?_,fun b o e n hb hx=>?_,fun b o e n hx=>?_,fun b o e hx=>?_,fun b xs e=>tups b xs (I.base.tups b xs e),fun b o xs e=>frzs b o xs (I.base.frzs b o xs e),fun b ps e=>?_⟩,?_,fun x c e=>?_,?_,fun x c e=>?_,fun p hp=>?_,hok,I.len⟩
 ·exact keep b o (neL b o e) hb (neC b o e hx) (I.base.keep b o e n hb hx) (I.base.free b o e n hx)
 ·obtain⟨sl,e1⟩:=I.base.slot b o e n hb hx;obtain⟨sl',e2⟩:=slot b _ (neL b o e) hb (neC b o e hx) e1 (I.base.free b o e n hx);exact⟨sl',e2⟩
 ·obtain⟨o',e1⟩:=I.base.there b o e hx;exact free b o' (neC b o e hx) e1 (I.base.free b o e n hx)
 ·obtain⟨o',e1⟩:=I.base.there b o e hx;exact there b o' (neC b o e hx) e1
 ·obtain⟨m1,e1⟩:=I.base.tbls b ps e;obtain⟨m2,e2⟩:=tbls b _ e1;exact⟨m1++m2,by rw[e2,Array.append_assoc]⟩
 ·obtain⟨m,hn,hl⟩:=I.loc;refine⟨m,ns m hn,fun i x v e1 e2 e3=>?_⟩;obtain⟨u,r,l⟩:=hl i x v e1 e2 e3;refine⟨u,r,?_⟩;rcases l with l | ⟨k,c,e,z⟩
  ·exact .inl l
  ·exact .inr ⟨k,c,e,cellK x c e _ z⟩
 ·obtain⟨v,z⟩:=I.cell x c e;exact⟨v,cellK x c e v z⟩
 ·obtain⟨m,⟨o,_,_,ho,_⟩,_⟩:=I.loc;exact free _ o (fun z=>(hch _ z).2.1 rfl) ho I.free
 ·obtain⟨v,o,ho,hd⟩:=I.cell x c e;exact free c o (fun z=>(hch c z).2.2.1 x c e rfl) ho (I.freeC x c e)
 ·obtain⟨e,n,ne,nf,d⟩:=I.pin p hp;have nch:p.1∉ch:=fun z=>(hch p.1 z).2.2.2 p hp rfl;exact⟨keep p.1 p.2 ne nf nch e n,free p.1 p.2 nch e n,ne,nf,d⟩
theorem Inv.un {t':Nat}(I:Inv X pins σ H s)(u:Un X.fs [] H H' s.heap h')(hok:HOk X.prog X.w H' h'):Inv X pins σ H' { s with heap:=h',toks:=t' }:=by
 obtain⟨m,⟨o,es,ep,ho,r⟩,_⟩:=id I.loc;obtain⟨sl,hL⟩:=u.any ho I.free (by simp);exact I.step (g':=s.gens) (d':=s.drawn) (ch:=[]) (fun _ z=>nomatch z) (fun b o _ hb _ e n=>u.keep b o e n hb (by simp)) (fun b o _ hb _ e n=>u.slot b o e n hb (by simp)) (fun b o _ e n=>u.free b o e n (by simp)) (fun b o _ e=>u.there b o e (by simp)) u.tups u.frzs u.tbls (fun m' hm=>by
  obtain⟨o',es',ep',ho',r'⟩:=hm;rw[ho] at ho';cases ho';exact⟨_,es',ep',hL,r'⟩) hok I.bare
theorem Inv.call {g':Array GenState}{t':Nat}{d':Drawn}{ch:List Addr}(I:Inv X pins σ H s)(u:Un (frs X.stack) ch H H' s.heap h')(hok:HOk X.prog X.w H' h')(hg:AllBare g')(hch:∀b∈ch,(b∈X.ex\/X.s₀.heap.objs.size<=b)/\b≠X.env.locals/\(∀x c,X.env.cells.lookup x=some c->c≠b)/\∀p∈X.pn++pins,p.1≠b) :
  Inv X pins σ H' { s with heap:=h',gens:=g',drawn:=d',toks:=t' }:=by
 obtain⟨m,⟨o,es,ep,ho,r⟩,_⟩:=id I.loc;obtain⟨sl,hL⟩:=u.any ho I.free fun z=>(hch _ z).2.1 rfl;exact I.step (ch:=ch) hch (fun b o hL hb hc e n=>u.keep b o e n (fun z=>(List.mem_cons.mp (I.stkSub b z)).elim hL hb) hc) (fun b o _ _ hc e n=>u.any e n hc) (fun b o hc e n=>u.free b o e n hc) (fun b o hc e=>u.there b o e hc) u.tups u.frzs u.tbls (fun m' hm=>by
  obtain⟨o',es',ep',ho',r'⟩:=hm;rw[ho] at ho';cases ho';exact⟨_,es',ep',hL,r'⟩) hok hg
theorem Inv.turned {t':Nat}{it:Addr}(I:Inv X pins σ H s)(k:∀b o,b≠it->s.heap.get? b=some o->h'.get? b=some o)(hn:H it=none)(hL:it≠X.env.locals)(h1:it∈X.ex\/X.s₀.heap.objs.size<=it)(h2:∀x c,X.env.cells.lookup x=some c->c≠it)(h3:∀p∈X.pn++pins,p.1≠it):Inv X pins σ H { s with heap:=h',toks:=t' }:=by
 have nit:∀b u,H b=some u->b≠it:=fun b u e z=>by rw[z,hn] at e;cases e
 refine I.step (g':=s.gens) (d':=s.drawn) (ch:=[it]) (fun b hb=>?_) (fun b o _ _ hc e _=>k b o (fun z=>hc (by simp[z])) e) (fun b o _ _ hc e _=>⟨o.slots,k b o (fun z=>hc (by simp[z])) e⟩) (fun _ _ _ _ n=>n)
  (fun b o hc e=>⟨o,k b o (fun z=>hc (by simp[z])) e⟩) (fun _ _ e=>e) (fun _ _ _ e=>e) (fun b ps e=>⟨#[],by rw[e];simp⟩) (fun m hm=>?_) (fun b u e=>?_) I.bare
 ·have e:b=it:=by simpa using hb
  subst e;exact⟨h1,hL,h2,h3⟩
 ·obtain⟨o,es,ep,ho,r⟩:=hm;exact⟨o,es,ep,k _ o (Ne.symm hL) ho,r⟩
 ·refine(I.hok b u e).stay (fun c v hc q=>k c v ?_ q) (fun _ q=>q) fun _ _ q=>q;rcases hc with z | z
  ·rw[z];exact nit b u e
  ·exact nit c _ z
theorem Inv.tok (I:Inv X pins σ H s)(t:Nat):Inv X pins σ H { s with toks:=t }:=I.un (h':=s.heap) (t':=t) Un.refl I.hok
theorem Inv.kept {t':Nat}(I:Inv X pins σ H s)(k:∀b u,s.heap.get? b=some u->h'.get? b=some u):Inv X pins σ H { s with heap:=h',toks:=t' }:=I.un (Un.kept k) (I.hok.kept k)
theorem Inv.laid {a:Addr}{o:HO}{t':Nat}(I:Inv X pins σ H s)(k:∀b u,s.heap.get? b=some u->h'.get? b=some u)(hp:s.heap.objs.size<=a)(new:dR X.prog X.w (upd H a o) h' a o) :
  Inv X pins σ (upd H a o) { s with heap:=h',toks:=t' }:=I.un (Un.laid k hp (I.hok.fresh hp)) (I.hok.laid k hp new)
theorem Inv.write {x e:Addr}{o:HO}{t':Nat}(I:Inv X pins σ H s)(mu:Mut (H x))(he:e=x\/H e=some (.own x))(k:∀b u,b≠e->s.heap.get? b=some u->h'.get? b=some u)(heo:∃u,h'.get? e=some u)(new:dR X.prog X.w (upd H x o) h' x o):Inv X pins σ (upd H x o) { s with heap:=h',toks:=t' }:=I.un (Un.write mu he k heo) (I.hok.write mu he k heo new)
theorem Inv.weak {σ':List (Option V)}(I:Inv X pins σ H s)(hl:σ'.length=σ.length)(w:∀(i:Nat) v,σ'[i]?=some (some v)->σ[i]?=some (some v)):Inv X pins σ' H s:=
 ⟨I.ok,I.os,I.bare,I.base,let ⟨m,hn,hl'⟩:=I.loc;⟨m,hn,fun i x v e1 e2 e3=>hl' i x v e1 (w i v e2) e3⟩,I.cell,I.free,I.freeC,I.pin,I.hok,hl.trans I.len⟩
theorem Inv.pins_of {pins':List (Addr × Obj)}(I:Inv X pins σ H s)(h:∀p∈pins',s.heap.get? p.1=some p.2/\H p.1=none/\p.1≠X.env.locals/\p.1∉X.fs/\∀v,p.2.data≠.cell v):Inv X pins' σ H s:=
 ⟨I.ok,I.os,I.bare,I.base,I.loc,I.cell,I.free,I.freeC,fun p hp=>(List.mem_append.mp hp).elim (fun z=>I.pin p (List.mem_append_left _ z)) (h p),I.hok,I.len⟩
theorem Bx {N:List Str}(hN:N.Nodup){i j:Nat}{x:Str}(a:N[i]?=some x)(b:N[j]?=some x):i=j:=by
 obtain⟨h1,e1⟩:=List.getElem?_eq_some_iff.mp a;obtain⟨h2,e2⟩:=List.getElem?_eq_some_iff.mp b;exact(List.getElem_inj hN).mp (e1.trans e2.symm)
theorem wS {M:Model}{A:Around}{E:Value->Shared->Prop}{i:Nat}{x:Str}{v:V}{u:Value}{Q:Unit->Shared->Prop}(I:Inv X pins σ H s)(hN:X.N.Nodup)(hi:X.N[i]?=some x)(hx:Loc X.env.scope x)(r:bV v u)(h:∀s',Inv X pins (σ.set i (some v)) H s'->(∃a,Heap.SameBut a s.heap s'.heap/\(a=X.env.locals\/X.env.cells.lookup x=some a))->Q () s')(hf:X.fn x=true\/X.env.scope.names.lookup x=some .local:=by first | exact .inl rfl | exact .inr rfl | assumption):wpAny M A (storeName X.env x u) Q E s:=by
 obtain⟨m,hn,hl⟩:=id I.loc;have hcls:(X.env.scope.kind == .class || (X.env.scope.kind == .module && X.env.locals != X.env.globals))=false:=by rw[I.ok.kind];rfl
 have hiσ:i < σ.length:=by rw[I.len];exact(List.getElem?_eq_some_iff.mp hi).1
 have cne:=I.cne;have tracked:∀{a:Addr} {h':Heap},(∃o,s.heap.get? a=some o/\H a=none)->Heap.SameBut a s.heap h'->HOk X.prog X.w H h':=fun {a h'} ha hs b ob e=>by
  obtain⟨_,_,hfree⟩:=ha;refine(I.hok b ob e).stay (fun c w' hc q=>(hs.2 c ?_).trans q) (fun _ q=>q) fun _ _ q=>q;rintro rfl;rcases hc with rfl | hc
  ·rw[hfree] at e;cases e
  ·rw[hfree] at hc;cases hc
 rcases hx with hk | hk
 ·refine wpAny_storeName_local hk hn (fun h' hn' hs=>?_) hcls;obtain⟨oL,_,_,hoL,_⟩:=id hn;refine h _ ⟨I.ok,I.os,I.bare,⟨fun b o e n hb hx=>?_,fun b o e n hb hx=>?_,I.base.free,fun b o e hx=>?_,I.base.tups,I.base.frzs,I.base.tbls⟩,⟨_,hn',fun j y v' e1 e2 e3=>?_⟩,fun y c e=>?_,I.free,I.freeC,fun p hp=>?_,tracked ⟨oL,hoL,I.free⟩ hs,by simpa using I.len⟩ ⟨_,hs,.inl rfl⟩
  ·exact(hs.2 b (Nat.ne_of_lt (Nat.lt_of_lt_of_le (Heap.lt_size e) I.ok.above))).trans (I.base.keep b o e n hb hx)
  ·obtain⟨sl,e1⟩:=I.base.slot b o e n hb hx;exact⟨sl,(hs.2 b (Nat.ne_of_lt (Nat.lt_of_lt_of_le (Heap.lt_size e) I.ok.above))).trans e1⟩
  ·obtain⟨o',e1⟩:=I.base.there b o e hx;exact⟨o',(hs.2 b (Nat.ne_of_lt (Nat.lt_of_lt_of_le (Heap.lt_size e) I.ok.above))).trans e1⟩
  ·by_cases hj:j=i
   ·subst hj;rw[hi] at e1;cases e1;rw[List.getElem?_set_self hiσ] at e2
    cases e2
    exact⟨u,r,.inl ⟨hk,by simp⟩⟩
   ·rw[List.getElem?_set_ne (Ne.symm hj)] at e2;obtain⟨u',r',q⟩:=hl j y v' e1 e2 e3;refine⟨u',r',?_⟩;rcases q with ⟨k,e⟩ | ⟨k,c,e,z⟩
    ·refine .inl ⟨k,?_⟩;have:y≠x:=fun e=>hj (Bx hN e1 (e ▸ hi));simp[this,e]
    ·exact .inr ⟨k,c,e,z.sameBut hs (cne y c e)⟩
  ·obtain⟨w',z⟩:=I.cell y c e;exact⟨w',z.sameBut hs (cne y c e)⟩
  ·obtain⟨e,n,ne,nf,d⟩:=I.pin p hp;exact⟨(hs.2 p.1 ne).trans e,n,ne,nf,d⟩
 ·have hfn:X.fn x=true:=by
   rcases hf with z | z
   ·exact z
   ·rw[z] at hk;cases hk
  obtain⟨c,hc⟩:=I.ok.has x (.inl hk);obtain⟨w',z⟩:=I.cell x c hc;refine wpAny_storeName_cell I.ok.kind hk hc z (fun h' hc' hs=>?_);obtain⟨oc,hoc,hocd⟩:=id z;refine h { s with heap:=h' } ⟨I.ok,I.os,I.bare,⟨fun b o e n hb hx=>?_,fun b o e n hb hx=>?_,I.base.free,fun b o e hx=>?_,I.base.tups,I.base.frzs,I.base.tbls⟩,⟨m,hn.sameBut hs (Ne.symm (cne x c hc)),fun j y v' e1 e2 e3=>?_⟩,fun y c' e=>?_,I.free,I.freeC,fun p hp=>?_,tracked ⟨oc,hoc,I.freeC x c hc⟩ hs,by simpa using I.len⟩ ⟨c,hs,.inr hc⟩
  ·exact(hs.2 b (Nat.ne_of_lt (Nat.lt_of_lt_of_le (Heap.lt_size e) (I.ok.cab x c hfn hc)))).trans (I.base.keep b o e n hb hx)
  ·obtain⟨sl,e1⟩:=I.base.slot b o e n hb hx;exact⟨sl,(hs.2 b (Nat.ne_of_lt (Nat.lt_of_lt_of_le (Heap.lt_size e) (I.ok.cab x c hfn hc)))).trans e1⟩
  ·obtain⟨o',e1⟩:=I.base.there b o e hx;exact⟨o',(hs.2 b (Nat.ne_of_lt (Nat.lt_of_lt_of_le (Heap.lt_size e) (I.ok.cab x c hfn hc)))).trans e1⟩
  ·by_cases hj:j=i
   ·subst hj;rw[hi] at e1;cases e1;rw[List.getElem?_set_self hiσ] at e2
    cases e2
    exact⟨u,r,.inr ⟨.inl hk,c,hc,hc'⟩⟩
   ·rw[List.getElem?_set_ne (Ne.symm hj)] at e2;obtain⟨u',r',q⟩:=hl j y v' e1 e2 e3;refine⟨u',r',?_⟩;rcases q with q | ⟨k,c',e,z'⟩
    ·exact .inl q
    ·refine .inr ⟨k,c',e,z'.sameBut hs ?_⟩;rintro rfl;exact hj (Bx hN e1 (I.ok.inj _ _ _ e hc ▸ hi))
  ·by_cases hcc:c'=c
   ·subst hcc;exact⟨_,hc'⟩
   ·obtain⟨w2,z2⟩:=I.cell y c' e;exact⟨w2,z2.sameBut hs hcc⟩
  ·obtain⟨e,n,ne,nf,d⟩:=I.pin p hp;refine⟨(hs.2 p.1 ?_).trans e,n,ne,nf,d⟩;intro q;rw[q,hoc] at e;have q':oc=p.2:=Option.some.inj e;exact d w' (by rw[<- q'];exact hocd)
theorem kQ {M:Model}{A:Around}{E:Value->Shared->Prop}{i:Nat}{x:Str}{v:V}{u:Value}{Q:Unit->Shared->Prop}(I:Inv X pins σ H s)(hN:X.N.Nodup)(hi:X.N[i]?=some x)(hx:Loc X.env.scope x)(r:bV v u)(h:∀s',Inv X pins (σ.set i (some v)) H s'->Q () s')(hf:X.fn x=true\/X.env.scope.names.lookup x=some .local:=by first | exact .inl rfl | exact .inr rfl | assumption):wpAny M A (storeName X.env x u) Q E s:=
 wS I hN hi hx r (fun s' I' _=>h s' I') hf
theorem Inv.call' {s':Shared}{ch:List Addr}(I:Inv X pins σ H s)(ho:s'.os=s.os)(u:Un (frs X.stack) ch H H' s.heap s'.heap)(hok:HOk X.prog X.w H' s'.heap)(hg:AllBare s'.gens)(hch:∀b∈ch,(b∈X.ex\/X.s₀.heap.objs.size<=b)/\b≠X.env.locals/\(∀x c,X.env.cells.lookup x=some c->c≠b)/\∀p∈X.pn++pins,p.1≠b):Inv X pins σ H' s':=by
 obtain⟨h',g',d',t',o'⟩:=s';have e:o'=s.os:=ho;subst e;exact I.call (g':=g') (t':=t') (d':=d') u hok hg hch
end
abbrev XK:=Value->Option Addr->Hp->Prop
abbrev St:=List (Option V)
abbrev VK:=V->Hp->Prop
abbrev TE:=St->Hp->VK->Prop
abbrev TT:=St->Hp->(Bool->Hp->Prop)->Prop
abbrev TA:=St->Hp->(List V->Hp->Prop)->Prop
structure kM where
 nx:St->Hp->Prop
 rt:VK
 bk:St->Hp->Prop:=fun _ _=>False
 ct:St->Hp->Prop:=fun _ _=>False
abbrev TS:=kM->St->Hp->Prop
def EP (X:Cx)(pins:List (Addr × Obj))(σ:St)(Q:VK)(u:Value)(s':Shared):Prop:=∃v H',Inv X pins σ H' s'/\bV v u/\Q v H'
def TP (X:Cx)(pins:List (Addr × Obj))(σ:St)(Q:Bool->Hp->Prop)(b:Bool)(s':Shared):Prop:=∃H',Inv X pins σ H' s'/\Q b H'
def AP (X:Cx)(pins:List (Addr × Obj))(σ:St)(Q:List V->Hp->Prop)(us:List Value)(s':Shared):Prop:=∃vs H',Inv X pins σ H' s'/\bX vs us/\Q vs H'
def SP (X:Cx)(pins:List (Addr × Obj))(D:kM)(f:Flow)(s':Shared):Prop:=
 match f with
 | .next=>∃σ' H',Inv X pins σ' H' s'/\D.nx σ' H'
 | .brk=>∃σ' H',Inv X pins σ' H' s'/\D.bk σ' H'
 | .cont=>∃σ' H',Inv X pins σ' H' s'/\D.ct σ' H'
 | .ret u=>∃v σ' H',Inv X pins σ' H' s'/\bV v u/\D.rt v H'
def PE (X:Cx)(e:Expr)(t:TE):Prop:=
 ∀(pins:List (Addr × Obj)) (s:Shared) (σ:St) (H:Hp) (Q:VK),Inv X pins σ H s->t σ H Q->wpAny (model X.prog X.w) X.A (eval e X.env) (EP X pins σ Q) X.xe s
def PT (X:Cx)(e:Expr)(t:TT):Prop:=
 ∀(pins:List (Addr × Obj)) (s:Shared) (σ:St) (H:Hp) (Q:Bool->Hp->Prop),Inv X pins σ H s->t σ H Q->wpAny (model X.prog X.w) X.A (isTrue e X.env (eval e X.env)) (TP X pins σ Q) X.xe s
def PW (X:Cx)(e:Expr)(t:TT):Prop:=
 ∀(whole:Sem Value) (pins:List (Addr × Obj)) (s:Shared) (σ:St) (H:Hp) (Q:Bool->Hp->Prop),Inv X pins σ H s->t σ H Q->wpAny (model X.prog X.w) X.A (isTrue e X.env whole) (TP X pins σ Q) X.xe s
theorem PW.pt {X:Cx}{e:Expr}{t:TT}(h:PW X e t):PT X e t:=h _
def PA (X:Cx)(es:List Expr)(t:TA):Prop:=
 ∀(pos:Pos) (pins:List (Addr × Obj)) (s:Shared) (σ:St) (H:Hp) (Q:List V->Hp->Prop),Inv X pins σ H s->t σ H Q->wpAny (model X.prog X.w) X.A (spliced (backTo pos (starEach es X.env))) (AP X pins σ Q) X.xe s
def PS (X:Cx)(st:Stmt)(t:TS):Prop:=
 ∀(pins:List (Addr × Obj)) (s:Shared) (σ:St) (H:Hp) (D:kM),Inv X pins σ H s->t D σ H->wpAny (model X.prog X.w) X.A (exec st X.env) (SP X pins D) X.xe s
def PSs (X:Cx)(st:List Stmt)(t:TS):Prop:=
 ∀(pins:List (Addr × Obj)) (s:Shared) (σ:St) (H:Hp) (D:kM),Inv X pins σ H s->t D σ H->wpAny (model X.prog X.w) X.A (execs st X.env) (SP X pins D) X.xe s
theorem thn {α:Type}{t:Sem α}{Q Q':α->Shared->Prop}{M:Model}{A:Around}{E:Value->Shared->Prop}{s:Shared}(h:wpAny M A t Q E s)(hQ:∀a s,Q a s->Q' a s):wpAny M A t Q' E s:=wpAny_mono h hQ fun _ _ x=>x
section
variable {X:Cx}
def Tt (i:Nat):TE:=fun σ H Q=>∃v,σ[i]?=some (some v)/\Q v H
def tC (v:V):TE:=fun _ H Q=>Q v H
theorem Pe {i:Nat}{x:Str}{pos:Pos}(hN:X.N[i]?=some x)(hv:Vis X.env.scope x)(hd:(x == ("__debug__":Str))=false:=by decide)(hcd:(x == ("__classdict__":Str))=false:=by decide):PE X (.Name x pos) (Tt i):=by
 intro pins s σ H Q I h;obtain⟨v,e,h⟩:=h;obtain⟨m,hn,hl⟩:=I.loc;obtain⟨u,r,l⟩:=hl i x v hN e hv;have fin:EP X pins σ Q u s:=⟨v,H,I,r,h⟩
 rcases l with ⟨hk,hm⟩ | ⟨hk,c,hc,hcell⟩
 ·exact wpAny_Name (wpAny_loadName_local I.ok.kind hk hn hm fin) hd
 ·rcases hk with hk | hk
  ·exact wpAny_Name (wpAny_loadName_cell I.ok.kind hk hc hcell fin) hd
  ·exact wpAny_Name (wpAny_loadName_free I.ok.kind hk hc hcell fin hcd) hd
theorem aF {i j pos}:PE X (.Constant (.int i) j pos) (tC (.int i)):=fun _ _ _ H _ I h=>wpAny_Constant_int ⟨.int i,H,I.tok _,⟨_,rfl⟩,h⟩
theorem jV {b j pos}:PE X (.Constant (.bool b) j pos) (tC (.bl b)):=fun _ _ _ H _ I h=>Constant_bool ⟨.bl b,H,I,rfl,h⟩
theorem Dq {j pos}:PE X (.Constant .none j pos) (tC .non):=fun _ _ _ H _ I h=>Constant_none ⟨.non,H,I,rfl,h⟩
theorem cW {x j pos}:PE X (.Constant (.str x) j pos) (tC (.str x)):=fun _ _ _ H _ I h=>Calls.Constant_str ⟨.str x,H,I.tok _,⟨_,rfl⟩,h⟩
def Gl (X:Cx)(x:Str):Prop:=X.env.kindOf x=some .globalImplicit
theorem zX {E:Value->Shared->Prop}{pins:List (Addr × Obj)}{s:Shared}{σ:St}{H:Hp}{x:Str}{u:Value}{pos:Pos}{Q:Value->Shared->Prop}(I:Inv X pins σ H s)(hg:Gl X x)(hm:X.mg x=some u)(h:Q u s)(hd:(x == ("__debug__":Str))=false:=by decide):wpAny (model X.prog X.w) X.A (eval (.Name x pos) X.env) Q E s:=
 Calls.Name_function_global I.ok.kind hg (Calls.loadGlobal_global (by rw[I.ok.glob];exact I.mod.glob.keeps I.bk) hm h) hd
theorem kC {E:Value->Shared->Prop}{pins:List (Addr × Obj)}{s:Shared}{σ:St}{H:Hp}{x:Str}{u:Value}{pos:Pos}{Q:Value->Shared->Prop}(I:Inv X pins σ H s)(hg:Gl X x)(hm:X.mg x=none)(hv:bootBuiltins x=some u)(h:Q u s)(hn:x≠"__name__":=by decide)(hd:(x == ("__debug__":Str))=false:=by decide):wpAny (model X.prog X.w) X.A (eval (.Name x pos) X.env) Q E s:=by
 obtain⟨mb,h1,h2⟩:=I.mod.blt;exact Calls.Name_function_global I.ok.kind hg (Calls.loadGlobal_builtin (by rw[I.ok.glob];exact I.mod.glob.keeps I.bk) hm (by rw[I.ok.blt];exact h1.keeps I.bk) ((h2 x hn).trans hv) h) hd
theorem dG {x:Str}{v:V}{u:Value}{pos:Pos}(hg:Gl X x)(hm:X.mg x=some u)(r:bV v u)(hd:(x == ("__debug__":Str))=false:=by decide):PE X (.Name x pos) (tC v):=
 fun _ _ _ H _ I h=>zX I hg hm ⟨v,H,I,r,h⟩ hd
theorem Rz {x:Str}{v:V}{u:Value}{pos:Pos}(hg:Gl X x)(hm:X.mg x=none)(hv:bootBuiltins x=some u)(r:bV v u)(hn:x≠"__name__":=by decide)(hd:(x == ("__debug__":Str))=false:=by decide):PE X (.Name x pos) (tC v):=
 fun _ _ _ H _ I h=>kC I hg hm hv ⟨v,H,I,r,h⟩ hn hd
variable {a b:Expr} {ta tb:TE} {pos:Pos}
def PC (X:Cx)(op:CmpOp)(a b:Expr)(t:TE):Prop:=
 ∀(pins:List (Addr × Obj)) (s:Shared) (σ:St) (H:Hp) (Q:VK),Inv X pins σ H s->t σ H Q->
  wpAny (model X.prog X.w) X.A (eval a X.env) (fun v s₁=>wpAny (model X.prog X.w) X.A (eval b X.env) (fun u s₂=>wpAny (model X.prog X.w) X.A (compareOp op v u) (EP X pins σ Q) X.xe s₂) X.xe s₁) X.xe s
theorem Pq (b:Expr){op:CmpOp}(h:op≠.In)(h2:op≠.NotIn):behindInMarks op b=false:=by
 have e1:(op == CmpOp.In)=false:=by cases op<;>first | rfl | exact absurd rfl h
 have e2:(op == CmpOp.NotIn)=false:=by cases op<;>first | rfl | exact absurd rfl h2
 cases b<;>simp[behindInMarks,e1,e2]
def qa9 (ta:TE):TE:=fun σ H Q=>ta σ H fun x H1=>Q (.bl (decide (x=.non))) H1
theorem bV.none_iff {x:V}{v:Value}(r:bV x v):(v == Value.none)=decide (x=.non):=by
 cases x with
 |non=>cases r;rfl
 |bl _=>cases r;rfl
 |int _=>obtain⟨t,rfl⟩:=r;rfl
 |str _=>obtain⟨t,rfl⟩:=r;rfl
 |byt _=>obtain⟨t,rfl⟩:=r;rfl
 |flt _=>obtain⟨t,rfl⟩:=r;rfl
 |ref _=>cases r;rfl
 |ty _=>cases r;rfl
theorem zK {j pos'}(ha:PE X a ta):PC X .Is a (.Constant .none j pos') (qa9 ta):=by
 intro pins s σ H Q I h;refine thn (ha pins s σ H _ I h) fun v s1 ⟨x,H1,I1,r1,q1⟩=>?_;exact Constant_none (is_none_gen ⟨.bl _,H1,I1,by rw[r1.none_iff];rfl,q1⟩)
def tB (t:TE):TT:=fun σ H Q=>t σ H fun x H1=>∃c,x=.bl c/\Q c H1
theorem lT {op:CmpOp}{t:TE}(h:PC X op a b t)(h1:behindInMarks op b=false:=by first | exact Pq _ (by decide) (by decide) | rfl):PT X (.Compare a [op] [b] pos) (tB t):=by
 intro pins s σ H Q I hw;refine wpAny_isTrue_Compare1 (thn (h pins s σ H _ I hw) fun v s1 h1=>thn h1 fun u s2 h2=>thn h2 fun c s3 ⟨x,H1,I1,r1,q1⟩=>?_) h1;obtain⟨d,rfl,q⟩:=q1
 cases r1
 exact wpAny_truthy_bool ⟨H1,I1,q⟩
theorem cY {e:Expr}{t:TE}(h:PE X e t)(he:∀whole,isTrue e X.env whole=(do let v <- whole;standAt e.pos;holding [v] (truthy v)):=by intro _;rfl):PT X e (tB t):=by
 intro pins s σ H Q I hw;refine isTrue_plain (thn (h pins s σ H _ I hw) fun v s1 ⟨x,H1,I1,r1,q1⟩=>?_) (he _);obtain⟨d,rfl,q⟩:=q1
 cases r1
 exact wpAny_truthy_bool ⟨H1,I1,q⟩
variable {tA tB':TT} {rest:List Expr}
def qd9 (t u:TT):TT:=fun σ H Q=>t σ H fun c H1=>if c=true then u σ H1 Q else Q false H1
def tOr (t u:TT):TT:=fun σ H Q=>t σ H fun c H1=>if c=true then Q true H1 else u σ H1 Q
def qd7 (t:TT):TT:=fun σ H Q=>t σ H fun c H1=>Q (!c) H1
theorem oV (ha:PT X a tA):PW X (.BoolOp .And [a] pos) tA:=by
 intro wh pins s σ H Q I h;refine isTrue_and (thn (ha pins s σ H Q I h) fun c s1 e=>?_)
 cases c with
 |true=>exact isTrue_and_nil e
 |false=>exact e
theorem jG (ha:PT X a tA):PW X (.BoolOp .Or [a] pos) tA:=by
 intro wh pins s σ H Q I h;refine isTrue_or (thn (ha pins s σ H Q I h) fun c s1 e=>?_)
 cases c with
 |false=>exact isTrue_or_nil e
 |true=>exact e
theorem uO (ha:PT X a tA)(hb:PW X (.BoolOp .And (b :: rest) pos) tB'):PW X (.BoolOp .And (a :: b :: rest) pos) (qd9 tA tB'):=by
 intro wh pins s σ H Q I h;refine isTrue_and (thn (ha pins s σ H _ I h) fun c s1 ⟨H1,I1,q1⟩=>?_)
 cases c with
 |true=>exact hb wh pins s1 σ H1 Q I1 q1
 |false=>exact⟨H1,I1,q1⟩
theorem jJ (ha:PT X a tA)(hb:PW X (.BoolOp .Or (b :: rest) pos) tB'):PW X (.BoolOp .Or (a :: b :: rest) pos) (tOr tA tB'):=by
 intro wh pins s σ H Q I h;refine isTrue_or (thn (ha pins s σ H _ I h) fun c s1 ⟨H1,I1,q1⟩=>?_)
 cases c with
 |true=>exact⟨H1,I1,q1⟩
 |false=>exact hb wh pins s1 σ H1 Q I1 q1
theorem eU (ha:PT X a tA):PT X (.UnaryOp .Not a pos) (qd7 tA):=by
 intro pins s σ H Q I h;exact isTrue_not (ha pins s σ H (fun c H1=>Q (!c) H1) I h)
def Yh (ta tb:TE):TE:=fun σ H Q=>ta σ H fun x H1=>∃c,x=.bl c/\if c=true then tb σ H1 Q else Q (.bl false) H1
def Zf (ta:TE):TE:=fun σ H Q=>ta σ H fun x H1=>∃c,x=.bl c/\Q (.bl (!c)) H1
theorem uL {op}{t:TE}(h:PE X a t):PE X (.BoolOp op [a] pos) t:=fun pins s σ H Q I hw=>BoolOp_one (h pins s σ H Q I hw)
theorem rK (ha:PE X a ta)(hb:PE X (.BoolOp .And (b :: rest) pos) tb):PE X (.BoolOp .And (a :: b :: rest) pos) (Yh ta tb):=by
 intro pins s σ H Q I h;refine BoolOp_and (thn (ha pins s σ H _ I h) fun v s1 ⟨x,H1,I1,r1,q1⟩=>?_);obtain⟨c,rfl,q1⟩:=q1
 cases r1
 refine wpAny_truthy_bool ?_
 cases c with
 |true=>exact hb pins s1 σ H1 Q I1 q1
 |false=>exact⟨.bl false,H1,I1,rfl,q1⟩
theorem Uy (ha:PE X a ta):PE X (.UnaryOp .Not a pos) (Zf ta):=by
 intro pins s σ H Q I h;refine UnaryOp_ (thn (ha pins s σ H _ I h) fun v s1 ⟨x,H1,I1,r1,q1⟩=>?_);obtain⟨c,rfl,q1⟩:=q1
 cases r1
 exact not_of (wpAny_truthy_bool ⟨.bl (!c),H1,I1,rfl,q1⟩)
def tIf (t:TT)(ta tb:TE):TE:=fun σ H Q=>t σ H fun c H1=>if c=true then ta σ H1 Q else tb σ H1 Q
theorem kO {c:Expr}(hc:PT X c tA)(ha:PE X a ta)(hb:PE X b tb):PE X (.IfExp c a b pos) (tIf tA ta tb):=by
 intro pins s σ H Q I h;refine wpAny_IfExp (thn (hc pins s σ H _ I h) fun d s1 ⟨H1,I1,q1⟩=>?_)
 cases d with
 |true=>exact ha pins s1 σ H1 Q I1 q1
 |false=>exact hb pins s1 σ H1 Q I1 q1
end
def SqL (K:Frag)(H:Hp)(a:Addr)(xs:List V):Prop:=
 Rd H a (.lst xs)\/
  ∃(o:Obj) (its:Array Value) (n:Nat),K.lookup a=some o/\o.cls=.type "list"/\o.dict=none/\o.data=.seq its n/\its.size<=sizeLine/\bX xs its.toList
def SqT (K:Frag)(H:Hp)(a:Addr)(xs:List V):Prop:=
 Rd H a (.tup xs)\/
  ∃(o:Obj) (its:Array Value) (n:Nat),K.lookup a=some o/\o.cls=.type "tuple"/\o.data=.seq its n/\its.size<=sizeLine/\bX xs its.toList
def qc6:Value->Option V
 | .none=>some .non
 | .bool b=>some (.bl b)
 | .int i _=>some (.int i)
 | .str x _=>some (.str x)
 | .bytes b _=>some (.byt b)
 | .float b _=>some (.flt b)
 | .ref a=>some (.ref a)
 | .type n=>some (.ty n)
 |_=>none
theorem bV.abs {x:V}{u:Value}(r:bV x u):qc6 u=some x:=by
 cases x with
 |non=>cases r;rfl
 |bl _=>cases r;rfl
 |int _=>obtain⟨t,rfl⟩:=r;rfl
 |str _=>obtain⟨t,rfl⟩:=r;rfl
 |byt _=>obtain⟨t,rfl⟩:=r;rfl
 |flt _=>obtain⟨t,rfl⟩:=r;rfl
 |ref _=>cases r;rfl
 |ty _=>cases r;rfl
theorem bV.inj {x y:V}{u:Value}(r:bV x u)(q:bV y u):x=y:=Option.some.inj (r.abs.symm.trans q.abs)
theorem bX.inj:∀{xs ys:List V} {us:List Value},bX xs us->bX ys us->xs=ys
 |_,_,_,.nil,.nil=>rfl
 |_,_,_,.cons r t,.cons r' t'=>by rw[r.inj r',bX.inj t t']
section
variable {X:Cx} {pins:List (Addr × Obj)} {σ:St} {H:Hp} {s:Shared} {a:Addr} {xs ys:List V}
theorem SqL.of {K:Frag}(h:H a=some (.lst xs)):SqL K H a xs:=.inl (.inl h)
theorem SqT.of {K:Frag}(h:H a=some (.tup xs)):SqT K H a xs:=.inl (.inl h)
theorem Inv.list (I:Inv X pins σ H s)(h:SqL X.K H a xs):∃its:List Value,bX xs its/\PlainL s.heap a its.toArray/\xs.length<=sizeLine:=by
 rcases h with h | ⟨o,its,n,hk,hc,hd,hs,hz,r⟩
 ·obtain⟨z,its,n,r,e⟩:=h.ok I.hok;exact⟨its,r,⟨_,n,e,rfl,rfl,rfl⟩,z⟩
 ·refine⟨its.toList,r,⟨o,n,I.kIn a o hk,hc,hd,by simpa using hs⟩,?_⟩;have e:=r.length;simp only[Array.length_toList] at e;omega
theorem Inv.tuple (I:Inv X pins σ H s)(h:SqT X.K H a xs):∃its:List Value,bX xs its/\IsTup s.heap a its.toArray/\xs.length<=sizeLine:=by
 rcases h with h | ⟨o,its,n,hk,hc,hs,hz,r⟩
 ·obtain⟨z,its,r,p⟩:=h.ok I.hok;exact⟨its,r,p,z⟩
 ·refine⟨its.toList,r,⟨o,I.kIn a o hk,hc,n,by simpa using hs⟩,?_⟩;have e:=r.length;simp only[Array.length_toList] at e;omega
theorem Inv.list_inj (I:Inv X pins σ H s)(h:SqL X.K H a xs)(h':SqL X.K H a ys):xs=ys:=by
 obtain⟨its,r,⟨o,n,e,_,_,d⟩,_⟩:=I.list h;obtain⟨its',r',⟨o',n',e',_,_,d'⟩,_⟩:=I.list h';rw[e] at e';cases e';rw[d] at d';injection d' with d1 _
 have:its=its':=by simpa using congrArg Array.toList d1
 subst this;exact r.inj r'
theorem Inv.tuple_inj (I:Inv X pins σ H s)(h:SqT X.K H a xs)(h':SqT X.K H a ys):xs=ys:=by
 obtain⟨its,r,⟨o,e,_,n,d⟩,_⟩:=I.tuple h;obtain⟨its',r',⟨o',e',_,n',d'⟩,_⟩:=I.tuple h';rw[e] at e';cases e';rw[d] at d';injection d' with d1 _
 have:its=its':=by simpa using congrArg Array.toList d1
 subst this;exact r.inj r'
end
abbrev Cx.wish (X:Cx)(E:Value->Shared->Prop):Cx:={ X with xe:=E }
abbrev Cx.nox (X:Cx):Cx:=X.wish fun _ _=>False
theorem Cx.Ok.wish {X:Cx}(ok:X.Ok)(E:Value->Shared->Prop):(X.wish E).Ok:=
 ⟨ok.mod,ok.kind,ok.glob,ok.blt,ok.above,ok.inj,ok.has,ok.cab,ok.hd,ok.frames,ok.stk,ok.exf,ok.bs,ok.bsz,ok.noex,ok.exfs,ok.funs,ok.frf⟩
theorem Cx.Ok.unwish {X:Cx}{E:Value->Shared->Prop}(ok:(X.wish E).Ok):X.Ok:=
 ⟨ok.mod,ok.kind,ok.glob,ok.blt,ok.above,ok.inj,ok.has,ok.cab,ok.hd,ok.frames,ok.stk,ok.exf,ok.bs,ok.bsz,ok.noex,ok.exfs,ok.funs,ok.frf⟩
section
variable {X:Cx} {pins:List (Addr × Obj)} {σ:St} {H:Hp} {s:Shared} {E:Value->Shared->Prop}
theorem Inv.wish (I:Inv X pins σ H s)(E:Value->Shared->Prop):Inv (X.wish E) pins σ H s:=⟨I.ok.wish E,I.os,I.bare,I.base,I.loc,I.cell,I.free,I.freeC,I.pin,I.hok,I.len⟩
theorem Inv.unwish (I:Inv (X.wish E) pins σ H s):Inv X pins σ H s:=⟨I.ok.unwish,I.os,I.bare,I.base,I.loc,I.cell,I.free,I.freeC,I.pin,I.hok,I.len⟩
theorem SP.unwish {D:kM}{f:Flow}{s':Shared}(h:SP (X.wish E) pins D f s'):SP X pins D f s':=by
 cases f with
 |next=>obtain⟨σ',H',I,q⟩:=h;exact⟨σ',H',I.unwish,q⟩
 |brk=>obtain⟨σ',H',I,q⟩:=h;exact⟨σ',H',I.unwish,q⟩
 |cont=>obtain⟨σ',H',I,q⟩:=h;exact⟨σ',H',I.unwish,q⟩
 |ret u=>obtain⟨v,σ',H',I,r,q⟩:=h;exact⟨v,σ',H',I.unwish,r,q⟩
theorem PSs.nox {st:List Stmt}{t:TS}(h:PSs X.nox st t):PSs X st t:=fun pins s σ H D I hw=>
 wpAny_mono (h pins s σ H D (I.wish _) hw) (fun _ _ q=>q.unwish) fun _ _ z=>False.elim z
end
section
variable {X:Cx} {st:Stmt} {rest:List Stmt} {t u:TS} {e:Expr} {te:TE} {pos:Pos}
def Ze:TS:=fun D σ H=>D.nx σ H
def fK (t u:TS):TS:=fun D σ H=>t { D with nx:=u D } σ H
theorem bK:PSs X [] Ze:=fun _ _ σ H _ I h=>wpAny_execs_nil ⟨σ,H,I,h⟩
theorem aC (h1:PS X st t)(h2:PSs X rest u):PSs X (st :: rest) (fK t u):=by
 intro pins s σ H D I h;refine wpAny_execs_cons (thn (h1 pins s σ H { D with nx:=u D } I h) fun f s1 q=>?_)
 cases f with
 |next=>
  obtain⟨σ',H',I',q⟩:=q;exact h2 pins s1 σ' H' D I' q
 |ret v=>exact q
 |brk=>exact q
 |cont=>exact q
theorem aH (h1:PS X st t):PSs X [st] t:=by
 intro pins s σ H D I h;refine wpAny_execs_cons (thn (h1 pins s σ H D I h) fun f s1 q=>?_)
 cases f with
 |next=>exact wpAny_execs_nil q
 |ret v=>exact q
 |brk=>exact q
 |cont=>exact q
def Zi:TS:=fun D σ H=>D.ct σ H
theorem Bj:PS X (.Continue pos) Zi:=fun _ _ σ H _ I h=>wpAny_Continue ⟨σ,H,I,h⟩
theorem Inv.quiet {pins:List (Addr × Obj)}{σ:St}{H:Hp}{s:Shared}(I:Inv X pins σ H s):interactive X.env=false:=by simp[interactive,I.ok.kind]
def Zk (te:TE):TS:=fun D σ H=>te σ H fun _ H1=>D.nx σ H1
theorem bU (he:PE X e te)(hs:swapsWith e none pos.line X.env=pure false:=by rfl):PS X (.Expr e pos) (Zk te):=by
 intro pins s σ H D I h;exact wpAny_Expr_any (thn (he pins s σ H _ I h) fun v s1 ⟨x,H1,I1,r1,q1⟩=>⟨σ,H1,I1,q1⟩) I.quiet hs
def qc1 (te:TE):TS:=fun D σ H=>te σ H D.rt
theorem aZ (he:PE X e te):PS X (.Return (some e) pos) (qc1 te):=by
 intro pins s σ H D I h;exact wpAny_Return_some (thn (he pins s σ H _ I h) fun v s1 ⟨x,H1,I1,r1,q1⟩=>⟨x,σ,H1,I1,r1,q1⟩)
def qb2 (c:TT)(t u:TS):TS:=fun D σ H=>c σ H fun b H1=>if b=true then t D σ H1 else u D σ H1
theorem cK {c:Expr}{a b:List Stmt}{tc:TT}(hc:PT X c tc)(ha:PSs X a t)(hb:PSs X b u):PS X (.If c a b pos) (qb2 tc t u):=by
 intro pins s σ H D I h;refine wpAny_If (thn (hc pins s σ H _ I h) fun d s1 ⟨H1,I1,q1⟩=>?_)
 cases d with
 |true=>exact ha pins s1 σ H1 D I1 q1
 |false=>exact hb pins s1 σ H1 D I1 q1
def Lm:TS:=fun _ _ _=>False
theorem fR:PS X st Lm:=fun _ _ _ _ _ _ h=>h.elim
theorem Jt {sts:List Stmt}:PSs X sts Lm:=fun _ _ _ _ _ _ h=>h.elim
end
abbrev TG:=V->St->Hp->(St->Hp->Prop)->Prop
abbrev TGs:=List V->St->Hp->(St->Hp->Prop)->Prop
def PG (X:Cx)(target:Expr)(t:TG):Prop:=
 ∀(pins:List (Addr × Obj)) (s:Shared) (σ:St) (H:Hp) (v:V) (u:Value) (Q:St->Hp->Prop),Inv X pins σ H s->bV v u->t v σ H Q->
  wpAny (model X.prog X.w) X.A (assign target X.env u) (fun _ s'=>∃σ' H',Inv X pins σ' H' s'/\Q σ' H') X.xe s
def PGs (X:Cx)(ts:List Expr)(t:TGs):Prop:=
 ∀(pins:List (Addr × Obj)) (s:Shared) (σ:St) (H:Hp) (vs:List V) (us:List Value) (Q:St->Hp->Prop),Inv X pins σ H s->bX vs us->t vs σ H Q->
  wpAny (model X.prog X.w) X.A (assignInOrder ((assignEach ts X.env).map (·.2)) us) (fun _ s'=>∃σ' H',Inv X pins σ' H' s'/\Q σ' H') X.xe s
abbrev Xw:=V->V->V->Hp->(Hp->Prop)->Prop
def Ys (X:Cx)(t:Xw):Prop:=
 ∀(pins:List (Addr × Obj)) (s:Shared) (σ:St) (H:Hp) (o i v:V) (ov iv u:Value) (Q:Hp->Prop),Inv X pins σ H s->bV o ov->bV i iv->bV v u->t o i v H Q->
  wpAny (model X.prog X.w) X.A (setItem ov iv u) (fun _ s'=>∃H',Inv X pins σ H' s'/\Q H') X.xe s
abbrev TIp:=V->V->Hp->VK->Prop
def PIp (X:Cx)(op:Operator)(t:TIp):Prop:=
 ∀(pins:List (Addr × Obj)) (s:Shared) (σ:St) (H:Hp) (x y:V) (v u:Value) (Q:VK),Inv X pins σ H s->bV x v->bV y u->t x y H Q->
  wpAny (model X.prog X.w) X.A (inplaceOp op v u) (EP X pins σ Q) X.xe s
section
variable {X:Cx} {pos:Pos}
def jL (i:Nat):TG:=fun v σ H Q=>Q (σ.set i (some v)) H
theorem bL {i:Nat}{x:Str}(hN:X.N.Nodup)(hi:X.N[i]?=some x)(hx:Loc X.env.scope x)(hf:X.fn x=true\/X.env.scope.names.lookup x=some .local:=by first | exact .inl rfl | exact .inr rfl | assumption):PG X (.Name x pos) (jL i):=by
 intro pins s σ H v u Q I r h;exact wpAny_assign_Name (kQ I hN hi hx r (fun s' I'=>⟨_,H,I',h⟩) hf)
def Ir:TGs:=fun vs σ H Q=>vs=[]/\Q σ H
def lL (t:TG)(u:TGs):TGs:=fun vs σ H Q=>∃v r,vs=v :: r/\t v σ H fun σ' H'=>u r σ' H' Q
theorem iY:PGs X [] Ir:=by
 intro pins s σ H vs us Q I r h;obtain⟨e,h⟩:=h;subst e
 cases r
 exact assignInOrder_nil ⟨σ,H,I,h⟩
theorem dC {e:Expr}{es:List Expr}{t:TG}{u:TGs}(h1:PG X e t)(h2:PGs X es u)(hs:(assignEach (e :: es) X.env).map (·.2)=assign e X.env :: (assignEach es X.env).map (·.2):=by rfl):PGs X (e :: es) (lL t u):=by
 intro pins s σ H vs us Q I r h;obtain⟨v,vr,e1,h⟩:=h;subst e1
 cases r with
 |cons r rr=>
  rw[hs];refine assignInOrder_cons (thn (h1 pins s σ H _ _ _ I r h) fun _ s1 ⟨σ1,H1,I1,q1⟩=>?_);exact h2 pins s1 σ1 H1 _ _ Q I1 rr q1
def Ju (K:Frag)(n:Nat)(t:TGs):TG:=fun v σ H Q=>∃a xs,v=.ref a/\SqT K H a xs/\xs.length=n/\t xs σ H Q
theorem lF {es:List Expr}{k:Nat}{t:TGs}{n:Nat}(hc:X.calm=true)(h:PGs X es t)(hn:(assignEach es X.env).length=n:=by rfl)(hst:(assignEach es X.env).findIdx? (·.1)=none:=by rfl):PG X (.Tuple es k pos) (Ju X.K n t):=by
 intro pins s σ H v u Q I r hw;obtain⟨a,xs,e1,hq,hl,hw⟩:=hw;subst e1
 cases r
 obtain⟨its,rv,ht,hz⟩:=I.tuple hq;refine assign_Tuple_tuple (I.ok.hd hc) ht (by simp[hn,<- hl,rv.length]) hst fun h' hx=>?_;have I1:Inv X pins σ H { s with heap:=h' }:=I.kept (t':=s.toks) fun b o e=>hx b o (Nat.ne_of_lt (Heap.lt_size e)) e;exact h pins _ σ H xs _ Q I1 (by simpa using rv) hw
def qc0 (to ti:TE)(t:Xw):TG:=fun v σ H Q=>to σ H fun o H1=>ti σ H1 fun i H2=>t o i v H2 fun H3=>Q σ H3
theorem uS {o i:Expr}{to ti:TE}{t:Xw}(ho:PE X o to)(hi:PE X i ti)(hs:Ys X t)(ha:∀v,assign (.Subscript o i pos) X.env v=(do
   let ov <- holding [v] (eval o X.env)
   let iv <- holding [v,ov] (eval i X.env)
   standAt pos
   holding [v,ov,iv] (setItem ov iv v)
   release [v,ov,iv] []):=by intro _;rfl):PG X (.Subscript o i pos) (qc0 to ti t):=by
 intro pins s σ H v u Q I r h;rw[ha];refine wpAny_bind (wpAny_holding (thn (ho pins s σ H _ I h) fun ov s1 ⟨x,H1,I1,r1,q1⟩=>?_));refine wpAny_bind (wpAny_holding (thn (hi pins s1 σ H1 _ I1 q1) fun iv s2 ⟨y,H2,I2,r2,q2⟩=>?_));refine wpAny_bind (wpAny_standAt (wpAny_bind (wpAny_holding (thn (hs pins s2 σ H2 x y v ov iv u _ I2 r1 r2 r q2) fun _ s3 ⟨H3,I3,q3⟩=>?_))));exact wpAny_release ⟨σ,H3,I3,q3⟩
def Xa (te:TE)(g:TG):TS:=fun D σ H=>te σ H fun x H1=>g x σ H1 D.nx
theorem qF {tg e:Expr}{te:TE}{g:TG}(he:PE X e te)(hg:PG X tg g)(hs:swapsWithSole [tg] e pos.line X.env=pure false:=by rfl)(hw:swappedStores [tg] e X.env=pure none:=by rfl)(h1:(assignEach [tg] X.env).map (·.2)=[assign tg X.env]:=by rfl):PS X (.Assign [tg] e pos) (Xa te g):=by
 intro pins s σ H D I h;refine wpAny_Assign_stores (thn (he pins s σ H _ I h) fun v s1 ⟨x,H1,I1,r1,q1⟩=>?_) hs hw;rw[h1];exact thn (hg pins s1 σ H1 x v _ I1 r1 q1) fun _ s2 q=>q
theorem aS {i:Nat}{x:Str}{e:Expr}{te:TE}{pos':Pos}(hN:X.N.Nodup)(hi:X.N[i]?=some x)(hx:Loc X.env.scope x)(he:PE X e te)(hs:swapsWith e (some (.Name x pos')) pos.line X.env=pure false:=by rfl)(hf:X.fn x=true\/X.env.scope.names.lookup x=some .local:=by first | exact .inl rfl | exact .inr rfl | assumption) :
  PS X (.Assign [.Name x pos'] e pos) (Xa te (jL i)):=by
 intro pins s σ H D I h;refine wpAny_Assign_Name (thn (he pins s σ H _ I h) fun v s1 ⟨y,H1,I1,r1,q1⟩=>?_) hs;exact kQ I1 hN hi hx r1 (fun s2 I2=>⟨_,H1,I2,q1⟩) hf
def qb0 (i j:Nat)(ta:TA):TS:=fun D σ H=>ta σ H fun vs H1=>∃v w,vs=[v,w]/\D.nx ((σ.set i (some v)).set j (some w)) H1
theorem Nx {i j:Nat}{x y:Str}{a b:Expr}{ta:TA}{px py pt:Pos}{kt k2 pt2}(hc:X.calm=true)(hN:X.N.Nodup)(hi:X.N[i]?=some x)(hj:X.N[j]?=some y)(hij:i≠j)(hx:X.env.scope.names.lookup x=some .local)(hy:X.env.scope.names.lookup y=some .local)(ha:PA X [a,b] ta)(hw:swappedStores [.Tuple [.Name x px,.Name y py] kt pt] (.Tuple [a,b] k2 pt2) X.env=pure (some [x,y]))(hs:swapsWithSole [.Tuple [.Name x px,.Name y py] kt pt] (.Tuple [a,b] k2 pt2) pos.line X.env=pure false:=by rfl) :
  PS X (.Assign [.Tuple [.Name x px,.Name y py] kt pt] (.Tuple [a,b] k2 pt2) pos) (qb0 i j ta):=by
 intro pins s σ H D I h;rw[exec_Assign_arm];refine wpAny_bind (wpAny_standAt ?_);rw[hs];refine wpAny_bind (wpAny_pure ?_);rw[if_neg (by decide)];refine wpAny_bind (Tuple_ (thn (ha _ pins s σ H _ I h) fun us s1 ⟨vs,H1,I1,r1,q1⟩=>?_));obtain⟨v,w,e1,q1⟩:=q1;subst e1;obtain⟨u1,u2,rfl,rv,rw'⟩:∃u1 u2,us=[u1,u2]/\bV v u1/\bV w u2:=by
  cases r1 with
  |cons p q=>
   cases q with
   |cons p' q'=>
    cases q'
    exact⟨_,_,rfl,p,p'⟩
 refine wpAny_newObj_type ?_ (by show 2<=sizeLine;decide);have I2:Inv X pins σ H1 { s1 with heap:=s1.heap.push { cls:=.type "tuple",data:=.seq [u1,u2].toArray } }:=I1.kept (t':=s1.toks) fun b o e=>Heap.get?_push_of_some _ e;rw[hw];refine wpAny_bind (wpAny_pure ?_);show wpAny (model X.prog X.w) X.A (do rule "assign.swapped-stores";let items <- unpackItems (.ref s1.heap.objs.size) 2 none;assignInOrder [fun v=>bindName X.env y v,fun v=>bindName X.env x v] items.reverse;pure Flow.next) _ _ _;refine wpAny_bind (wpAny_rule (wpAny_bind (unpackItems_tuple (items:=#[u1,u2]) (I.ok.hd hc) (IsTup.new s1.heap _) fun h' hx'=>?_)));have I3:=I2.kept (h':=h') (t':=s1.toks) fun b o e=>hx' b o (Nat.ne_of_lt (Heap.lt_size e)) e;show wpAny _ _ (assignInOrder [fun v=>bindName X.env y v,fun v=>bindName X.env x v] [u2,u1] >>= fun _=>pure Flow.next) _ _ _;refine wpAny_bind (assignInOrder_cons (wpAny_bindName (kQ I3 hN hj (.inl hy) rw' (fun s2 I4=>?_) (.inr hy))));refine assignInOrder_cons (wpAny_bindName (kQ I4 hN hi (.inl hx) rv (fun s3 I5=>assignInOrder_nil (wpAny_pure ?_)) (.inr hx)));rw[List.set_comm _ _ (Ne.symm hij)] at I5;exact⟨_,H1,I5,q1⟩
def qc8 (i:Nat)(te:TE)(ti:TIp):TS:=fun D σ H=>∃x,σ[i]?=some (some x)/\te σ H fun y H1=>ti x y H1 fun z H2=>D.nx (σ.set i (some z)) H2
theorem Nh {i:Nat}{x:Str}{e:Expr}{te:TE}{op:Operator}{ti:TIp}{pos':Pos}(hN:X.N.Nodup)(hi:X.N[i]?=some x)(hx:Loc X.env.scope x)(he:PE X e te)(ho:PIp X op ti)(hf:X.fn x=true\/X.env.scope.names.lookup x=some .local:=by first | exact .inl rfl | exact .inr rfl | assumption) :
  PS X (.AugAssign (.Name x pos') op e pos) (qc8 i te ti):=by
 intro pins s σ H D I h;obtain⟨v,e1,h⟩:=h;obtain⟨m,hn,hl⟩:=I.loc;have vis:Vis X.env.scope x:=by rcases hx with k | k;exact .inl k;exact .inr (.inl k)
 obtain⟨u,r,l⟩:=hl i x v hi e1 vis;refine wpAny_AugAssign_Name ?_;have go:wpAny (model X.prog X.w) X.A (eval e X.env) (fun w s₂=>wpAny (model X.prog X.w) X.A (inplaceOp op u w) (fun r s₃=>wpAny (model X.prog X.w) X.A (storeName X.env x r) (fun _=>SP X pins D .next) X.xe s₃) X.xe s₂) X.xe s:=by
  refine thn (he pins s σ H _ I h) fun w s1 ⟨y,H1,I1,r1,q1⟩=>?_;refine thn (ho pins s1 σ H1 v y u w _ I1 r r1 q1) fun z s2 ⟨zv,H2,I2,r2,q2⟩=>?_;exact kQ I2 hN hi hx r2 (fun s3 I3=>⟨_,H2,I3,q2⟩) hf
 rcases l with ⟨hk,hm⟩ | ⟨hk,c,hc,hcell⟩
 ·exact wpAny_loadName_local I.ok.kind hk hn hm go
 ·rcases hk with hk | hk
  ·exact wpAny_loadName_cell I.ok.kind hk hc hcell go
  ·rcases hx with k | k
   ·have:X.env.scope.names.lookup x=some .free:=hk;rw[k] at this;cases this
   ·have:X.env.scope.names.lookup x=some .free:=hk;rw[k] at this;cases this
def ipI (f:Int->Int->Int):TIp:=fun x y H Q=>∃i j,x=.int i/\y=.int j/\Q (.int (f i j)) H
theorem Pj:PIp X .Add (ipI fun i j=>i+j):=by
 intro pins s σ H x y v u Q I r1 r2 h;obtain⟨i,j,e1,e2,q⟩:=h;subst e1;subst e2;obtain⟨t,rfl⟩:=r1;obtain⟨t',rfl⟩:=r2;exact iadd_int ⟨.int _,H,I.tok _,⟨_,rfl⟩,q⟩
def Ot (c:TT)(tb:TS):TS:=fun D σ H=>∃W:Nat->St->Hp->Prop,(∃m,W m σ H)/\∀m σ H,W m σ H->
 c σ H fun b H1=>if b=true then ∃N:St->Hp->Prop,(∀σ' H',N σ' H'->∃m',m' < m/\W m' σ' H')/\tb { D with nx:=N,ct:=N,bk:=D.nx } σ H1 else D.nx σ H1
theorem oW {c:Expr}{body:List Stmt}{tc:TT}{tb:TS}(hp:PassesOwn (model X.prog X.w) X.A X.env X.xe)(hc:PT X c tc)(hb:PSs X body tb):PS X (.While c body [] pos) (Ot tc tb):=by
 intro pins s σ H D I h;obtain⟨W,⟨m0,w0⟩,turn⟩:=h;refine wpAny_While (codeAny_whileLoop (fun n s'=>∃σ' H',Inv X pins σ' H' s'/\W n σ' H') ?_ m0 ⟨σ,H,I,w0⟩);rintro n s1 ⟨σ1,H1,I1,w1⟩;refine wpAny_passesOwn hp (thn (hc pins s1 σ1 H1 _ I1 (turn n σ1 H1 w1)) fun b s2 ⟨H2,I2,q2⟩=>?_)
 cases b with
 |true=>
  obtain⟨N,hN,q2⟩:=q2;rw[if_pos rfl];refine wpAny_passesOwn hp (thn (hb pins s2 σ1 H2 _ I2 q2) fun f s3 q3=>?_)
  cases f with
  |next=>
   obtain⟨σ3,H3,I3,n3⟩:=q3;obtain⟨m',hm,w3⟩:=hN σ3 H3 n3;exact⟨m',hm,σ3,H3,I3,w3⟩
  |cont=>
   obtain⟨σ3,H3,I3,n3⟩:=q3;obtain⟨m',hm,w3⟩:=hN σ3 H3 n3;exact⟨m',hm,σ3,H3,I3,w3⟩
  |brk=>exact q3
  |ret v=>exact q3
 |false=>
  rw[if_neg Bool.false_ne_true];exact wpAny_execs_nil ⟨σ1,H2,I2,q2⟩
end
structure It where
 go:Nat->Hp->Prop
 yld:Nat->Hp->V->Hp->Prop
 stop:Nat->Hp->Prop
def mS (X:Cx)(pins:List (Addr × Obj))(H:Hp)(b:Addr):Prop:=
 H b=none/\b≠X.env.locals/\b∉X.fs/\(b∈X.ex\/X.s₀.heap.objs.size<=b)/\(∀x c,X.env.cells.lookup x=some c->c≠b)/\∀p∈X.pn++pins,p.1≠b
theorem Inv.fpOk {X:Cx}{pins:List (Addr × Obj)}{σ:St}{H H':Hp}{s:Shared}{b:Addr}(I:Inv X pins σ H s)(hb:s.heap.objs.size<=b)(hn:H' b=none):mS X pins H' b:=by
 refine⟨hn,Nat.ne_of_gt (Nat.lt_of_lt_of_le I.lt hb),I.nofs hb,.inr (Nat.le_trans I.sz hb),fun x c e z=>?_,fun p hp z=>?_⟩
 ·obtain⟨v,q⟩:=I.cell x c e;exact absurd (Nat.lt_of_lt_of_le q.lt (by rw[z];exact hb)) (Nat.lt_irrefl _)
 ·exact absurd (Nat.lt_of_lt_of_le (Heap.lt_size (I.pin p hp).1) (by rw[z];exact hb)) (Nat.lt_irrefl _)
structure De (P:Program) (w:World) (K:Frag) (tg:Expr) (J:It) (fp:List Addr) (it:Addr) (tn:Nat->Heap->Prop):Prop where
 mem:it∈fp
 obj:∀i h,tn i h->∀b∈fp,∃o,h.get? b=some o/\∀v,o.data≠.cell v
 keep:∀i h h',tn i h->(∀b∈fp,∀o,h.get? b=some o->h'.get? b=some o)->tn i h'
 item:∀(X:Cx),X.prog=P->X.w=w->X.K=K->X.calm=true->∀(i:Nat) (pins:List (Addr × Obj)) (s:Shared) (σ:St) (H:Hp) (E:Value->Shared->Prop),Inv X pins σ H s->(∀b∈fp,mS X pins H b)->tn i s.heap->J.go i H->
  wpAny (model P w) X.A (pyNext (.ref it)) (fun r s1=>∃u,r=some u/\
   wpAny (model P w) X.A (letOwnedTupleGo tg (.ref it) u) (fun _ s2=>∃x H',Inv X pins σ H' s2/\bV x u/\J.yld i H x H'/\tn (i+1) s2.heap/\∀b∈fp,H' b=none) E s1) E s
 done:∀(X:Cx),X.prog=P->X.w=w->X.K=K->X.calm=true->∀(i:Nat) (pins:List (Addr × Obj)) (s:Shared) (σ:St) (H:Hp) (E:Value->Shared->Prop),Inv X pins σ H s->(∀b∈fp,mS X pins H b)->tn i s.heap->J.stop i H->
  wpAny (model P w) X.A (pyNext (.ref it)) (fun r s1=>r=none/\Inv X pins σ H s1) E s
 self:∀(A:Around) (i:Nat) (s:Shared) (Q:Value->Shared->Prop) (E:Value->Shared->Prop),tn i s.heap->Q (.ref it) s->wpAny (model P w) A (pyIter (.ref it)) Q E s
abbrev TI:=St->Hp->(It->Hp->Prop)->Prop
def PIE (X:Cx)(pins:List (Addr × Obj))(σ:St)(tg:Expr)(R:It->Hp->Prop)(itv:Value)(s2:Shared):Prop:=
 ∃(it:Addr) (fp:List Addr) (tn:Nat->Heap->Prop) (J:It) (H':Hp),itv=.ref it/\Inv X pins σ H' s2/\De X.prog X.w X.K tg J fp it tn/\tn 0 s2.heap/\(∀b∈fp,mS X pins H' b)/\R J H'
def PI (X:Cx)(tg iter:Expr)(wi:TI):Prop:=
 ∀(pins:List (Addr × Obj)) (s:Shared) (σ:St) (H:Hp) (R:It->Hp->Prop),Inv X pins σ H s->wi σ H R->
  wpAny (model X.prog X.w) X.A (eval iter X.env) (fun v s1=>wpAny (model X.prog X.w) X.A (pyIter v) (PIE X pins σ tg R) X.xe s1) X.xe s
theorem Ha {M : Model}{A : Around}{E : Value -> Shared -> Prop}{s : Shared}{tg : Expr}{it : Addr}{u : Value}{o : Obj}{n : String}{vs : Array Value}{Q : Unit -> Shared -> Prop}(ho : s.heap.get? it = some o)(hc : o.cls = .type n)(hd : o.data = .fields vs)(hn : ["enumerate", "zip", "dict_itemiterator", "dict_reverseitemiterator", "odict_iterator", "itertools.zip_longest", "itertools.pairwise"].contains n = false)(hQ : Q () s) : wpAny M A (letOwnedTupleGo tg (.ref it) u) Q E s := by
  unfold letOwnedTupleGo
  cases tg <;> first
    | exact wpAny_pure hQ
    | (cases u <;> first
        | exact wpAny_pure hQ
        | (refine wpAny_bind (wpAny_load ho ?_)
           rw [hc, hd];show wpAny M A (if (["enumerate", "zip", "dict_itemiterator", "dict_reverseitemiterator", "odict_iterator", "itertools.zip_longest", "itertools.pairwise"].contains n && vs[0]? == some (rawInt _)) = true then _ else _) Q E s;rw [if_neg (by intro h; rw [hn, Bool.false_and] at h; cases h)];exact wpAny_pure hQ))
def Itl (K:Frag)(a:Addr):It:=
 ⟨fun i H=>∃xs x,SqL K H a xs/\xs[i]?=some x,fun i H x H'=>H'=H/\∀xs,SqL K H a xs->xs[i]?=some x,fun i H=>∃xs,SqL K H a xs/\xs.length<=i⟩
def Itt (K:Frag)(a:Addr):It:=
 ⟨fun i H=>∃xs x,SqT K H a xs/\xs[i]?=some x,fun i H x H'=>H'=H/\∀xs,SqT K H a xs->xs[i]?=some x,fun i H=>∃xs,SqT K H a xs/\xs.length<=i⟩
def Itr (lo:Int)(n:Nat):It:=⟨fun i _=>i < n,fun i H x H'=>H'=H/\x=.int (lo+i),fun i _=>n<=i⟩
theorem Iw {P:Program}{w:World}{K:Frag}{tg:Expr}(a it:Addr):De P w K tg (Itl K a) [it] it (fun i h=>h.IsListIter it a i) where
 mem:=by simp
 obj:=fun i h st b hb=>by
  have e:b=it:=by simpa using hb
  subst e;obtain⟨o,e,c,d⟩:=st;exact⟨o,e,fun v z=>by rw[d] at z;cases z⟩
 keep:=fun i h h' st k=>st.at fun o e=>k it (by simp) o e
 item:=by
  intro X hP hw hK hc i pins s σ H E I hf st hg;subst hP hw hK;obtain⟨xs,x,hq,hx⟩:=hg;obtain⟨its,rv,p,hz⟩:=I.list hq;obtain⟨u,hu,ru⟩:=rv.get hx;obtain⟨f0,f1,f2,f3,f4,f5⟩:=hf it (by simp);refine wpAny_pyNext_list_item st p.isList (x:=u) (by simpa using hu) fun h' st' sb=>?_;have I1:Inv X pins σ H { s with heap:=h' }:=I.turned (t':=s.toks) (fun b o hb e=>(sb.2 b hb).trans e) f0 f1 f3 f4 f5;obtain⟨o,e,c,d⟩:=id st';exact⟨u,rfl,Ha (s:={ s with heap:=h' }) e c d (by decide) ⟨x,H,I1,ru,⟨rfl,fun ys hy=>by rw[I.list_inj hy hq];exact hx⟩,st',fun b hb=>(hf b hb).1⟩⟩
 done:=by
  intro X hP hw hK hc i pins s σ H E I hf st hg;subst hP hw hK;obtain⟨xs,hq,hx⟩:=hg;obtain⟨its,rv,p,hz⟩:=I.list hq;obtain⟨f0,f1,f2,f3,f4,f5⟩:=hf it (by simp);have hl:=rv.length;exact wpAny_pyNext_list_end (I.ok.hd hc) st p.isList (by simp;omega) fun h' eb=>⟨rfl,I.turned (t':=s.toks) (fun b o hb e=>eb b o hb e) f0 f1 f3 f4 f5⟩
 self:=fun _ _ _ _ _ st h=>wpAny_pyIter_listiter st h
theorem Ed {P:Program}{w:World}{K:Frag}{tg:Expr}(a it:Addr):De P w K tg (Itt K a) [it] it (fun i h=>h.IsTupleIter it a i) where
 mem:=by simp
 obj:=fun i h st b hb=>by
  have e:b=it:=by simpa using hb
  subst e;obtain⟨o,e,c,d⟩:=st;exact⟨o,e,fun v z=>by rw[d] at z;cases z⟩
 keep:=fun i h h' st k=>st.at fun o e=>k it (by simp) o e
 item:=by
  intro X hP hw hK hc i pins s σ H E I hf st hg;subst hP hw hK;obtain⟨xs,x,hq,hx⟩:=hg;obtain⟨its,rv,p,hz⟩:=I.tuple hq;obtain⟨u,hu,ru⟩:=rv.get hx;obtain⟨f0,f1,f2,f3,f4,f5⟩:=hf it (by simp);refine wpAny_pyNext_tuple_item st (show s.heap.IsTuple a its.toArray from p) (x:=u) (by simpa using hu) fun h' st' sb=>?_;have I1:Inv X pins σ H { s with heap:=h' }:=I.turned (t':=s.toks) (fun b o hb e=>(sb.2 b hb).trans e) f0 f1 f3 f4 f5;obtain⟨o,e,c,d⟩:=id st';exact⟨u,rfl,Ha (s:={ s with heap:=h' }) e c d (by decide) ⟨x,H,I1,ru,⟨rfl,fun ys hy=>by rw[I.tuple_inj hy hq];exact hx⟩,st',fun b hb=>(hf b hb).1⟩⟩
 done:=by
  intro X hP hw hK hc i pins s σ H E I hf st hg;subst hP hw hK;obtain⟨xs,hq,hx⟩:=hg;obtain⟨its,rv,p,hz⟩:=I.tuple hq;obtain⟨f0,f1,f2,f3,f4,f5⟩:=hf it (by simp);have hl:=rv.length;exact wpAny_pyNext_tuple_end (I.ok.hd hc) st (show s.heap.IsTuple a its.toArray from p) (by simp;omega) fun h' eb=>⟨rfl,I.turned (t':=s.toks) (fun b o hb e=>eb b o hb e) f0 f1 f3 f4 f5⟩
 self:=fun _ _ _ _ _ st h=>wpAny_pyIter_tupleiter st h
theorem Do {P:Program}{w:World}{K:Frag}{tg:Expr}(it:Addr)(lo:Int)(n:Nat):De P w K tg (Itr lo n) [it] it (fun i h=>IsRangeIter h it (lo+(i:Nat)*1) ((n:Int) - (i:Nat)) 1) where
 mem:=by simp
 obj:=fun i h st b hb=>by
  have e:b=it:=by simpa using hb
  subst e;exact⟨_,st,fun v z=>by
   have z':Data.fields _=Data.cell v:=z
   cases z'⟩
 keep:=fun i h h' st k=>k it (by simp) _ st
 item:=by
  intro X hP hw hK hc i pins s σ H E I hf st hg;subst hP hw hK;obtain⟨f0,f1,f2,f3,f4,f5⟩:=hf it (by simp);have W:=Walks.range (prog:=X.prog) (w:=X.w) (I.ok.hd hc) it lo 1 n;refine W.item i s _ _ hg st fun v h' tk hv st' kk=>?_;obtain⟨t,rfl⟩:=hv;have I1:Inv X pins σ H { s with heap:=h',toks:=tk }:=I.turned (fun b o hb e=>kk b o (by simpa using hb) e) f0 f1 f3 f4 f5;refine⟨_,rfl,Ha (s:={ s with heap:=h',toks:=tk }) (n:="range_iterator") st' rfl rfl (by decide) ⟨.int (lo+i),H,I1,⟨t,?_⟩,⟨rfl,rfl⟩,st',fun b hb=>(hf b hb).1⟩⟩;rw[Int.mul_one]
 done:=by
  intro X hP hw hK hc i pins s σ H E I hf st hg;subst hP hw hK;obtain⟨f0,f1,f2,f3,f4,f5⟩:=hf it (by simp);exact wpAny_pyNext_range_end (I.ok.hd hc) st (by have:n<=i:=hg;omega) fun h' eb=>⟨rfl,I.turned (t':=s.toks) (fun b o hb e=>eb b o hb e) f0 f1 f3 f4 f5⟩
 self:=fun _ _ _ _ _ st h=>wpAny_pyIter_rangeiter st h
section
variable {X:Cx} {tg:Expr}
def Yd (K:Frag)(tl:TE):TI:=fun σ H R=>tl σ H fun x H1=>∃a,x=.ref a/\(∃xs,SqL K H1 a xs)/\R (Itl K a) H1
def qb1 (K:Frag)(tl:TE):TI:=fun σ H R=>tl σ H fun x H1=>∃a,x=.ref a/\(∃xs,SqT K H1 a xs)/\R (Itt K a) H1
theorem fB {l:Expr}{tl:TE}(hl:PE X l tl):PI X tg l (Yd X.K tl):=by
 intro pins s σ H R I h;refine thn (hl pins s σ H _ I h) fun v s1 ⟨x,H1,I1,r1,q1⟩=>?_;obtain⟨a,e,⟨xs,hq⟩,q⟩:=q1;subst e
 cases r1
 obtain⟨its,rv,p,hz⟩:=I1.list hq;refine wpAny_pyIter_list p.isList ?_;refine⟨s1.heap.objs.size,[s1.heap.objs.size],_,_,H1,rfl,I1.kept (t':=s1.toks) fun b o e=>Heap.get?_push_of_some _ e,Iw a _,⟨_,Heap.get?_push_size _ rfl,rfl,rfl⟩,fun b hb=>?_,q⟩;have e:b=s1.heap.objs.size:=by simpa using hb
 subst e;exact I1.fpOk (Nat.le_refl _) (I1.hok.fresh (Nat.le_refl _))
theorem Vg {l:Expr}{tl:TE}(hl:PE X l tl):PI X tg l (qb1 X.K tl):=by
 intro pins s σ H R I h;refine thn (hl pins s σ H _ I h) fun v s1 ⟨x,H1,I1,r1,q1⟩=>?_;obtain⟨a,e,⟨xs,hq⟩,q⟩:=q1;subst e
 cases r1
 obtain⟨its,rv,p,hz⟩:=I1.tuple hq;refine wpAny_pyIter_tuple (show s1.heap.IsTuple a its.toArray from p) ?_;refine⟨s1.heap.objs.size,[s1.heap.objs.size],_,_,H1,rfl,I1.kept (t':=s1.toks) fun b o e=>Heap.get?_push_of_some _ e,Ed a _,⟨_,Heap.get?_push_size _ rfl,rfl,rfl⟩,fun b hb=>?_,q⟩;have e:b=s1.heap.objs.size:=by simpa using hb
 subst e;exact I1.fpOk (Nat.le_refl _) (I1.hok.fresh (Nat.le_refl _))
theorem Bp {pins:List (Addr × Obj)}{σ:St}{H:Hp}{s:Shared}{R:It->Hp->Prop}{E:Value->Shared->Prop}{lo hi:Int}{t u v:Tok}{tk:Nat}(I:Inv X pins σ H s)(h1:-(2 ^ 62)<=lo)(h2:lo < 2 ^ 62)(h3:-(2 ^ 62)<=hi)(h4:hi < 2 ^ 62)(q:R (Itr lo (hi - lo).toNat) H):wpAny (model X.prog X.w) X.A (pyIter (.ref s.heap.objs.size)) (PIE X pins σ tg R) E { s with heap:=s.heap.push { cls:=.type "range",data:=.fields #[.int lo t,.int hi u,.int 1 v] },toks:=tk }:=by
 refine wpAny_pyIter_range (IsRange.new ..) (small_one h1 h2 h3 h4) ?_;have I1:Inv X pins σ H { s with heap:=s.heap.push { cls:=.type "range",data:=.fields #[.int lo t,.int hi u,.int 1 v] },toks:=tk }:=I.kept fun b o e=>Heap.get?_push_of_some _ e;refine⟨(s.heap.push { cls:=.type "range",data:=.fields #[.int lo t,.int hi u,.int 1 v] }).objs.size,[(s.heap.push { cls:=.type "range",data:=.fields #[.int lo t,.int hi u,.int 1 v] }).objs.size],_,_,H,rfl,
  I1.kept (t':=tk) fun b o e=>Heap.get?_push_of_some _ e,Do _ lo (hi - lo).toNat,?_,fun b hb=>?_,q⟩
 ·have e1:lo+((0:Nat):Int)*1=lo:=by simp
  have e2:(((hi - lo).toNat:Nat):Int) - ((0:Nat):Int)=Builtin.Range.rangeSize lo hi 1:=by rw[rangeSize_one];split<;>omega
  show IsRangeIter _ _ (lo+((0:Nat):Int)*1) ((((hi - lo).toNat:Nat):Int) - ((0:Nat):Int)) 1;rw[e1,e2];exact Heap.get?_push_size _ rfl
 ·have e:b=(s.heap.push { cls:=.type "range",data:=.fields #[.int lo t,.int hi u,.int 1 v] }).objs.size:=by simpa using hb
  subst e;exact I1.fpOk (Nat.le_refl _) (I1.hok.fresh (Nat.le_refl _))
def Zy (ta:TA):TI:=fun σ H R=>ta σ H fun vs H1=>∃j:Int,vs=[.int j]/\-(2 ^ 62)<=j/\j < 2 ^ 62/\R (Itr 0 j.toNat) H1
def Zp (ta:TA):TI:=fun σ H R=>ta σ H fun vs H1=>∃i j:Int,vs=[.int i,.int j]/\(-(2 ^ 62)<=i/\i < 2 ^ 62/\-(2 ^ 62)<=j/\j < 2 ^ 62)/\R (Itr i (j - i).toNat) H1
theorem iK {a:Expr}{ta:TA}{p pos:Pos}(hg:Gl X "range")(hm:X.mg "range"=none)(ha:PA X [a] ta)(hs:starEach [a] X.env=[(false,eval a X.env)]:=by rfl):PI X tg (.Call (.Name "range" p) [a] [] pos) (Zy ta):=by
 intro pins s σ H R I h;refine Call_ (kC I hg hm boot_range (PyProof.Rows.callWith_type1 (thn (ha pos pins s σ H _ I h) fun us s1 ⟨vs,H1,I1,r1,q1⟩=>?_) hs rfl));obtain⟨j,e,q1,q2,q⟩:=q1;subst e
 cases r1 with
 |cons r rr=>
  cases rr
  obtain⟨t,rfl⟩:=r;exact call_range_1 (Bp I1 (by omega) (by omega) q1 q2 (by simpa using q))
theorem xT {a b:Expr}{ta:TA}{p pos:Pos}(hg:Gl X "range")(hm:X.mg "range"=none)(ha:PA X [a,b] ta)(hs:starEach [a,b] X.env=[(false,eval a X.env),(false,eval b X.env)]:=by rfl)(hs2:starEach [b] X.env=[(false,eval b X.env)]:=by rfl) :
  PI X tg (.Call (.Name "range" p) [a,b] [] pos) (Zp ta):=by
 intro pins s σ H R I h;refine Call_ (kC I hg hm boot_range (PyProof.Rows.callWith_type1 (thn (ha pos pins s σ H _ I h) fun us s1 ⟨vs,H1,I1,r1,q1⟩=>?_) (by rw[hs,hs2]) (by rw[hs2];rfl)));obtain⟨i,j,e,⟨q1,q2,q3,q4⟩,q⟩:=q1;subst e
 cases r1 with
 |cons r rr=>
  cases rr with
  |cons r' rr=>
   cases rr
   obtain⟨t,rfl⟩:=r;obtain⟨t',rfl⟩:=r';exact call_range_2 (Bp I1 q1 q2 q3 q4 q)
def qd8 (wi:TI)(g:TG)(tb:TS):TS:=fun D σ H=>wi σ H fun J H1=>∃W:Nat->Nat->St->Hp->Prop,(∃m,W 0 m σ H1)/\∀i m σ H,W i m σ H->
 (J.stop i H/\D.nx σ H)\/(J.go i H/\∃N:St->Hp->Prop,(∀σ' H',N σ' H'->∃m',m' < m/\W (i+1) m' σ' H')/\∀x H',J.yld i H x H'->g x σ H' fun σ2 H2=>tb { D with nx:=N,ct:=N,bk:=D.nx } σ2 H2)
def vU (fp:List Addr)(h:Heap):List (Addr × Obj):=fp.filterMap fun b=>(h.get? b).map fun o=>(b,o)
theorem kE {fp:List Addr}{h:Heap}{b:Addr}{o:Obj}(hb:b∈fp)(e:h.get? b=some o):(b,o)∈vU fp h:=List.mem_filterMap.mpr ⟨b,hb,by rw[e];rfl⟩
theorem Iv {fp:List Addr}{h:Heap}{p:Addr × Obj}(hp:p∈vU fp h):p.1∈fp/\h.get? p.1=some p.2:=by
 obtain⟨b,hb,e⟩:=List.mem_filterMap.mp hp
 cases q:h.get? b with
 |none=>rw[q] at e;cases e
 |some o=>
  rw[q] at e;have e':(b,o)=p:=Option.some.inj e;subst e';exact⟨hb,q⟩
theorem Inv.pinned {pins:List (Addr × Obj)}{σ:St}{H:Hp}{s:Shared}{fp:List Addr}(I:Inv X pins σ H s)(hf:∀b∈fp,mS X pins H b)(ho:∀b∈fp,∃o,s.heap.get? b=some o/\∀v,o.data≠.cell v):Inv X (pins++vU fp s.heap) σ H s:=
 I.pins_of fun p hp=>(List.mem_append.mp hp).elim (fun z=>I.pin p (List.mem_append_right _ z)) fun z=>by
  obtain⟨hb,e⟩:=Iv z;obtain⟨f0,f1,f2,_⟩:=hf p.1 hb;obtain⟨o,e',d⟩:=ho p.1 hb;rw[e] at e';cases e';exact⟨e,f0,f1,f2,d⟩
theorem Inv.unpinned {pins pl:List (Addr × Obj)}{σ:St}{H:Hp}{s:Shared}(I:Inv X (pins++pl) σ H s):Inv X pins σ H s:=I.pins_of fun p hp=>I.pin p (List.mem_append_right _ (List.mem_append_left _ hp))
theorem gA {iter:Expr}{body:List Stmt}{wi:TI}{g:TG}{tb:TS}{pos:Pos}(hp:PassesOwn (model X.prog X.w) X.A X.env X.xe)(hc:X.calm=true)(hi:PI X tg iter wi)(hg:PG X tg g)(hb:PSs X body tb)(hs:∀x,foldedSetIterable iter X.env x=pure x:=by intro _;rfl):PS X (.For tg iter body [] pos) (qd8 wi g tb):=by
 intro pins s σ H D I h;refine wpAny_For (thn (hi pins s σ H _ I h) fun v s1 h1=>thn h1 fun itv s2 h2=>?_) hs;obtain⟨it,fp,tn,J,H2,e,I2,T,st2,f2,W,⟨m0,w0⟩,turn⟩:=h2;subst e;have stat:∀{H':Hp},(∀b∈fp,H' b=none)->∀b∈fp,mS X pins H' b:=fun hn b hb=>⟨hn b hb,(f2 b hb).2⟩
 refine codeAny_forLoop_any (fun n s'=>∃i σ' H',Inv X pins σ' H' s'/\tn i s'.heap/\(∀b∈fp,H' b=none)/\W i n σ' H') ?_ m0 ⟨0,σ,H2,I2,st2,fun b hb=>(f2 b hb).1,w0⟩;rintro n s3 ⟨i,σ3,H3,I3,st3,fr3,w3⟩;rcases turn i n σ3 H3 w3 with ⟨stop,qn⟩ | ⟨go,N,hN,step⟩
 ·refine wpAny_passesOwn hp (thn (T.done X rfl rfl rfl hc i pins s3 σ3 H3 X.xe I3 (stat fr3) st3 stop) fun r s4 ⟨hr,I4⟩=>?_);subst hr;exact wpAny_execs_nil ⟨σ3,H3,I4,qn⟩
 ·refine wpAny_passesOwn hp (thn (T.item X rfl rfl rfl hc i pins s3 σ3 H3 X.xe I3 (stat fr3) st3 go) fun r s4 ⟨u,hr,h4⟩=>?_);subst hr;refine wpAny_passesOwn hp (thn h4 fun _ s5 ⟨x,H5,I5,r5,y5,st5,fr5⟩=>?_);have I5':=I5.pinned (stat fr5) (T.obj _ _ st5);refine wpAny_passesOwn hp (thn (hg _ s5 σ3 H5 x u _ I5' r5 (step x H5 y5)) fun _ s6 ⟨σ6,H6,I6,q6⟩=>?_);refine wpAny_passesOwn hp (thn (hb _ s6 σ6 H6 _ I6 q6) fun f s7 q7=>?_);have again:∀{σ7:St} {H7:Hp},Inv X (pins++vU fp s5.heap) σ7 H7 s7->N σ7 H7->∃m,m < n/\∃i σ' H',Inv X pins σ' H' s7/\tn i s7.heap/\(∀b∈fp,H' b=none)/\W i m σ' H':=fun {σ7 H7} I7 n7=>by
   obtain⟨m',hm,w7⟩:=hN σ7 H7 n7;refine⟨m',hm,i+1,σ7,H7,I7.unpinned,T.keep _ _ _ st5 fun b hb o e=>(I7.pin (b,o) (List.mem_append_right _ (List.mem_append_right _ (kE hb e)))).1,fun b hb=>?_,w7⟩;obtain⟨o,e,d⟩:=T.obj _ _ st5 b hb;exact(I7.pin (b,o) (List.mem_append_right _ (List.mem_append_right _ (kE hb e)))).2.1
  cases f with
  |next=>obtain⟨σ7,H7,I7,n7⟩:=q7;exact again I7 n7
  |cont=>obtain⟨σ7,H7,I7,n7⟩:=q7;exact again I7 n7
  |brk=>obtain⟨σ7,H7,I7,q7⟩:=q7;exact⟨σ7,H7,I7.unpinned,q7⟩
  |ret v=>obtain⟨x7,σ7,H7,I7,r7,q7⟩:=q7;exact⟨x7,σ7,H7,I7.unpinned,r7,q7⟩
end
theorem hV {K:Frag}{a:Addr}{xs:List V}{g:TG}{tb:TS}{D:kM}{σ:St}{H:Hp}(Pv:Nat->St->Hp->Prop)(h0:Pv 0 σ H)(hl:∀i σ H,i<=xs.length->Pv i σ H->SqL K H a xs)(hs:∀i x σ H,xs[i]?=some x->Pv i σ H->g x σ H fun σ2 H2=>tb { D with nx:=Pv (i+1),ct:=Pv (i+1),bk:=D.nx } σ2 H2)(hd:∀σ H,Pv xs.length σ H->D.nx σ H) :
  ∃W:Nat->Nat->St->Hp->Prop,(∃m,W 0 m σ H)/\∀i m σ H,W i m σ H->
   ((Itl K a).stop i H/\D.nx σ H)\/((Itl K a).go i H/\∃N:St->Hp->Prop,(∀σ' H',N σ' H'->∃m',m' < m/\W (i+1) m' σ' H')/\∀x H',(Itl K a).yld i H x H'->g x σ H' fun σ2 H2=>tb { D with nx:=N,ct:=N,bk:=D.nx } σ2 H2):=by
 refine⟨fun i m σ H=>m=xs.length - i/\i<=xs.length/\Pv i σ H,⟨xs.length,by simp,Nat.zero_le _,h0⟩,?_⟩;rintro i m σ H ⟨rfl,hi,p⟩;have q:=hl i σ H hi p
 by_cases hlt:i < xs.length
 ·refine .inr ⟨⟨xs,xs[i],q,by simp[hlt]⟩,Pv (i+1),fun σ' H' p'=>⟨xs.length - (i+1),by omega,rfl,hlt,p'⟩,fun x H' y=>?_⟩;obtain⟨e,y⟩:=y;subst e;exact hs i x σ _ (y xs q) p
 ·have e:i=xs.length:=by omega
  subst e;exact .inl ⟨⟨xs,q,Nat.le_refl _⟩,hd σ H p⟩
theorem Ts {K:Frag}{a:Addr}{xs:List V}{g:TG}{tb:TS}{D:kM}{σ:St}{H:Hp}(Pv:Nat->St->Hp->Prop)(h0:Pv 0 σ H)(hl:∀i σ H,i<=xs.length->Pv i σ H->SqT K H a xs)(hs:∀i x σ H,xs[i]?=some x->Pv i σ H->g x σ H fun σ2 H2=>tb { D with nx:=Pv (i+1),ct:=Pv (i+1),bk:=D.nx } σ2 H2)(hd:∀σ H,Pv xs.length σ H->D.nx σ H) :
  ∃W:Nat->Nat->St->Hp->Prop,(∃m,W 0 m σ H)/\∀i m σ H,W i m σ H->
   ((Itt K a).stop i H/\D.nx σ H)\/((Itt K a).go i H/\∃N:St->Hp->Prop,(∀σ' H',N σ' H'->∃m',m' < m/\W (i+1) m' σ' H')/\∀x H',(Itt K a).yld i H x H'->g x σ H' fun σ2 H2=>tb { D with nx:=N,ct:=N,bk:=D.nx } σ2 H2):=by
 refine⟨fun i m σ H=>m=xs.length - i/\i<=xs.length/\Pv i σ H,⟨xs.length,by simp,Nat.zero_le _,h0⟩,?_⟩;rintro i m σ H ⟨rfl,hi,p⟩;have q:=hl i σ H hi p
 by_cases hlt:i < xs.length
 ·refine .inr ⟨⟨xs,xs[i],q,by simp[hlt]⟩,Pv (i+1),fun σ' H' p'=>⟨xs.length - (i+1),by omega,rfl,hlt,p'⟩,fun x H' y=>?_⟩;obtain⟨e,y⟩:=y;subst e;exact hs i x σ _ (y xs q) p
 ·have e:i=xs.length:=by omega
  subst e;exact .inl ⟨⟨xs,q,Nat.le_refl _⟩,hd σ H p⟩
theorem jX {lo:Int}{n:Nat}{g:TG}{tb:TS}{D:kM}{σ:St}{H:Hp}(Pv:Nat->St->Hp->Prop)(h0:Pv 0 σ H)(hs:∀i σ H,i < n->Pv i σ H->g (.int (lo+i)) σ H fun σ2 H2=>tb { D with nx:=Pv (i+1),ct:=Pv (i+1),bk:=D.nx } σ2 H2)(hd:∀σ H,Pv n σ H->D.nx σ H) :
  ∃W:Nat->Nat->St->Hp->Prop,(∃m,W 0 m σ H)/\∀i m σ H,W i m σ H->
   ((Itr lo n).stop i H/\D.nx σ H)\/((Itr lo n).go i H/\∃N:St->Hp->Prop,(∀σ' H',N σ' H'->∃m',m' < m/\W (i+1) m' σ' H')/\∀x H',(Itr lo n).yld i H x H'->g x σ H' fun σ2 H2=>tb { D with nx:=N,ct:=N,bk:=D.nx } σ2 H2):=by
 refine⟨fun i m σ H=>m=n - i/\i<=n/\Pv i σ H,⟨n,by simp,Nat.zero_le _,h0⟩,?_⟩;rintro i m σ H ⟨rfl,hi,p⟩
 by_cases hlt:i < n
 ·refine .inr ⟨hlt,Pv (i+1),fun σ' H' p'=>⟨n - (i+1),by omega,rfl,hlt,p'⟩,fun x H' y=>?_⟩;obtain⟨e,y⟩:=y;subst e y;exact hs i σ _ hlt p
 ·have e:i=n:=by omega
  subst e;exact .inl ⟨Nat.le_refl _,hd σ H p⟩
theorem vH {c:TT}{tb:TS}{D:kM}{σ:St}{H:Hp}(Pv:St->Hp->Prop)(μ:St->Hp->Nat)(h0:Pv σ H)(hs:∀σ H,Pv σ H->c σ H fun b H1=>if b=true then tb { D with nx:=fun σ' H'=>Pv σ' H'/\μ σ' H' < μ σ H,ct:=fun σ' H'=>Pv σ' H'/\μ σ' H' < μ σ H,bk:=D.nx } σ H1 else D.nx σ H1)(mono:∀σ H Q Q',(∀b H1,Q b H1->Q' b H1)->c σ H Q->c σ H Q'):Ot c tb D σ H:=by
 refine⟨fun m σ H=>m=μ σ H/\Pv σ H,⟨_,rfl,h0⟩,?_⟩;rintro m σ H ⟨rfl,p⟩;refine mono σ H _ _ (fun b H1 q=>?_) (hs σ H p)
 cases b with
 |true=>exact⟨_,fun σ' H' ⟨p',l⟩=>⟨_,l,rfl,p'⟩,q⟩
 |false=>exact q
abbrev R2:=V->V->Hp->VK->Prop
def OpR (X:Cx)(f:Value->Value->Sem Value)(r:R2):Prop:=
 ∀(pins:List (Addr × Obj)) (s:Shared) (σ:St) (H:Hp) (x y:V) (v u:Value) (Q:VK),Inv X pins σ H s->bV x v->bV y u->r x y H Q->
  wpAny (model X.prog X.w) X.A (f v u) (EP X pins σ Q) X.xe s
def UnR (X:Cx)(f:Value->Sem Value)(r:V->Hp->VK->Prop):Prop:=
 ∀(pins:List (Addr × Obj)) (s:Shared) (σ:St) (H:Hp) (x:V) (v:Value) (Q:VK),Inv X pins σ H s->bV x v->r x H Q->
  wpAny (model X.prog X.w) X.A (f v) (EP X pins σ Q) X.xe s
def rV (X:Cx)(f:Value)(r:List V->Hp->VK->Prop):Prop:=
 ∀(pins:List (Addr × Obj)) (s:Shared) (σ:St) (H:Hp) (xs:List V) (us:List Value) (Q:VK),Inv X pins σ H s->bX xs us->r xs H Q->
  wpAny (model X.prog X.w) X.A (call f us) (EP X pins σ Q) X.xe s
def tOp (r:R2)(ta tb:TE):TE:=fun σ H Q=>ta σ H fun x H1=>tb σ H1 fun y H2=>r x y H2 Q
def tUn (r:V->Hp->VK->Prop)(ta:TE):TE:=fun σ H Q=>ta σ H fun x H1=>r x H1 Q
def rI (C:Int->Int->Prop)(g:Int->Int->V):R2:=fun x y H Q=>∃i j,x=.int i/\y=.int j/\C i j/\Q (g i j) H
def rI0 (g:Int->Int->V):R2:=fun x y H Q=>∃i j,x=.int i/\y=.int j/\Q (g i j) H
def rU (g:Int->V):V->Hp->VK->Prop:=fun x H Q=>∃i,x=.int i/\Q (g i) H
section
variable {X:Cx} {a b c:Expr} {ta tb tc:TE} {pos:Pos}
theorem Wc (ha:PE X a ta)(hb:PE X b tb){pins:List (Addr × Obj)}{s:Shared}{σ:St}{H:Hp}{R:V->V->Hp->Prop}(I:Inv X pins σ H s)(h:ta σ H fun x H1=>tb σ H1 fun y H2=>R x y H2){Q:Value->Shared->Prop}{f:Value->Value->Sem Value}(hf:∀v u s2 x y H2,Inv X pins σ H2 s2->bV x v->bV y u->R x y H2->wpAny (model X.prog X.w) X.A (f v u) Q X.xe s2) :
  wpAny (model X.prog X.w) X.A (eval a X.env) (fun v s₁=>wpAny (model X.prog X.w) X.A (eval b X.env) (fun u s₂=>wpAny (model X.prog X.w) X.A (f v u) Q X.xe s₂) X.xe s₁) X.xe s:=by
 refine thn (ha pins s σ H _ I h) fun v s1 ⟨x,H1,I1,r1,q1⟩=>?_;refine thn (hb pins s1 σ H1 _ I1 q1) fun u s2 ⟨y,H2,I2,r2,q2⟩=>?_;exact hf v u s2 x y H2 I2 r1 r2 q2
theorem aY {op:Operator}{r:R2}(ho:OpR X (binaryOp op) r)(ha:PE X a ta)(hb:PE X b tb):PE X (.BinOp a op b pos) (tOp r ta tb):=by
 intro pins s σ H Q I h;exact wpAny_BinOp (Wc ha hb I h fun v u s2 x y H2 I2 rx ry q=>ho pins s2 σ H2 x y v u Q I2 rx ry q)
theorem Lv {op:UnaryOp}{r:V->Hp->VK->Prop}(ho:UnR X (unaryOp op) r)(ha:PE X a ta):PE X (.UnaryOp op a pos) (tUn r ta):=by
 intro pins s σ H Q I h;exact UnaryOp_ (thn (ha pins s σ H _ I h) fun v s1 ⟨x,H1,I1,r1,q1⟩=>ho pins s1 σ H1 x v Q I1 r1 q1)
theorem opI {f:Value->Value->Sem Value}{C:Int->Int->Prop}{g:Int->Int->Int}(rule:∀(i j:Int) (t u:Tok) (s:Shared) (Q:Value->Shared->Prop) (E:Value->Shared->Prop),C i j->Q (.int (g i j) s.toks) { s with toks:=s.toks+1 }->wpAny (model X.prog X.w) X.A (f (.int i t) (.int j u)) Q E s) :
  OpR X f (rI C fun i j=>.int (g i j)):=by
 intro pins s σ H x y v u Q I rx ry h;obtain⟨i,j,rfl,rfl,hc,q⟩:=h;obtain⟨t,rfl⟩:=rx;obtain⟨t',rfl⟩:=ry;exact rule i j t t' s _ _ hc ⟨.int (g i j),H,I.tok _,⟨_,rfl⟩,q⟩
theorem Yl {f:Value->Value->Sem Value}{g:Int->Int->Int}(rule:∀(i j:Int) (t u:Tok) (s:Shared) (Q:Value->Shared->Prop) (E:Value->Shared->Prop),Q (.int (g i j) s.toks) { s with toks:=s.toks+1 }->wpAny (model X.prog X.w) X.A (f (.int i t) (.int j u)) Q E s) :
  OpR X f (rI0 fun i j=>.int (g i j)):=by
 intro pins s σ H x y v u Q I rx ry h;obtain⟨i,j,rfl,rfl,q⟩:=h;obtain⟨t,rfl⟩:=rx;obtain⟨t',rfl⟩:=ry;exact rule i j t t' s _ _ ⟨.int (g i j),H,I.tok _,⟨_,rfl⟩,q⟩
theorem Qq {f:Value->Value->Sem Value}{g:Int->Int->Bool}(rule:∀(i j:Int) (t u:Tok) (s:Shared) (Q:Value->Shared->Prop) (E:Value->Shared->Prop),Q (.bool (g i j)) s->wpAny (model X.prog X.w) X.A (f (.int i t) (.int j u)) Q E s) :
  OpR X f (rI0 fun i j=>.bl (g i j)):=by
 intro pins s σ H x y v u Q I rx ry h;obtain⟨i,j,rfl,rfl,q⟩:=h;obtain⟨t,rfl⟩:=rx;obtain⟨t',rfl⟩:=ry;exact rule i j t t' s _ _ ⟨.bl (g i j),H,I,rfl,q⟩
def qc5 (i j:Int):Prop:=0 < j/\j < 1073741824
def qc3 (i j:Int):Prop:=0<=j/\j<=1000000/\i.natAbs < 2 ^ 64
def Xi (i j:Int):Prop:=(-(2 ^ 64) < i/\i < 2 ^ 64)\/(-(2 ^ 64) < j/\j < 2 ^ 64)
theorem Xi.ok {i j:Int}(h:Xi i j):IntMulOk i j:=by
 rcases h with ⟨h1,h2⟩ | ⟨h1,h2⟩
 ·exact .of_left (intBits_le_64 h1 h2)
 ·exact .of_right (intBits_le_64 h1 h2)
theorem dP:OpR X (binaryOp .Add) (rI0 fun i j=>.int (i+j)):=Yl fun _ _ _ _ _ _ _ q=>add_int q
theorem kU:OpR X (binaryOp .Sub) (rI0 fun i j=>.int (i - j)):=Yl fun _ _ _ _ _ _ _ q=>sub_int q
theorem uF:OpR X (binaryOp .Mult) (rI Xi fun i j=>.int (i*j)):=opI fun _ _ _ _ _ _ _ hc q=>mul_int q hc.ok
theorem oU:OpR X (binaryOp .FloorDiv) (rI qc5 fun i j=>.int (i / j)):=opI fun i j _ _ _ _ _ hc q=>by
 have h1:(0:Int) < j:=hc.1;have h2:j < 1073741824:=hc.2;exact floordiv_int (by omega) (by rw[Int.fdiv_eq_ediv_of_nonneg i (by omega)];exact q) (.inl (PyProof.noPylong_small (by omega)))
theorem lP:OpR X (binaryOp .Mod) (rI (fun _ j=>0 < j) fun i j=>.int (i % j)):=opI fun i j _ _ _ _ _ hc q=>by
 have h1:(0:Int) < j:=hc;exact mod_int' (by omega) (by rw[Int.fmod_eq_emod_of_nonneg i (by omega)];exact q)
theorem kA:OpR X (binaryOp .Mod) (rI (fun _ j=>j≠0) fun i j=>.int (i.fmod j)):=opI fun _ _ _ _ _ _ _ hc q=>mod_int' hc q
theorem lQ:OpR X (binaryOp .Pow) (rI qc3 fun i j=>.int (i ^ j.toNat)):=opI fun _ _ _ _ _ _ _ hc q=>pow_int_small hc.1 hc.2.1 hc.2.2 q
theorem unI {f:Value->Sem Value}{g:Int->Int}(rule:∀(i:Int) (t:Tok) (s:Shared) (Q:Value->Shared->Prop) (E:Value->Shared->Prop),Q (.int (g i) s.toks) { s with toks:=s.toks+1 }->wpAny (model X.prog X.w) X.A (f (.int i t)) Q E s) :
  UnR X f (rU fun i=>.int (g i)):=by
 intro pins s σ H x v Q I rx h;obtain⟨i,rfl,q⟩:=h;obtain⟨t,rfl⟩:=rx;exact rule i t s _ _ ⟨.int (g i),H,I.tok _,⟨_,rfl⟩,q⟩
theorem El:UnR X (unaryOp .USub) (rU fun i=>.int (-i)):=unI fun _ _ _ _ _ q=>neg_int q
end
def Yj:V->V->Bool
 | .non,.non=>true | .non,.int _=>true | .int _,.non=>true | .non,.bl _=>true | .bl _,.non=>true | .non,.str _=>true | .str _,.non=>true
 | .int _,.int _=>true | .bl _,.bl _=>true | .str _,.str _=>true | .byt _,.byt _=>true
 | .int _,.str _=>true | .str _,.int _=>true | .bl _,.str _=>true | .str _,.bl _=>true
 |_,_=>false
def rEq:R2:=fun x y H Q=>Yj x y=true/\Q (.bl (decide (x=y))) H
def rNe:R2:=fun x y H Q=>Yj x y=true/\Q (.bl (!decide (x=y))) H
theorem Fw {i j:Int}:decide (V.int i=V.int j)=(i == j):=by
 rw[Bool.eq_iff_iff];simp
theorem Nv {i j:Bool}:decide (V.bl i=V.bl j)=(i == j):=by
 rw[Bool.eq_iff_iff];simp
theorem Go {i j:Str}:decide (V.str i=V.str j)=(i == j):=by
 rw[Bool.eq_iff_iff];simp
theorem Gf {i j:Array UInt8}:decide (V.byt i=V.byt j)=(i.toList == j.toList):=by
 rw[Bool.eq_iff_iff]
 cases i
 cases j
 simp
section
variable {X:Cx} {a b c:Expr} {ta tb tc:TE} {pos:Pos}
theorem cU {pins:List (Addr × Obj)}{σ:St}{H:Hp}{s:Shared}{Q:VK}{k k':Bool}(I:Inv X pins σ H s)(q:Q (.bl k) H)(e:k=k'):EP X pins σ Q (.bool k') s:=by
 subst e;exact⟨.bl k,H,I,rfl,q⟩
theorem gH:OpR X (compareOp .Eq) rEq:=by
 intro pins s σ H x y v u Q I rx ry h;obtain⟨hs,q⟩:=h
 cases x with
 |non=>
  cases rx
  cases y with
  |non=>cases ry;exact PySem.EqNone.eq_none_none (cU I q (by simp))
  |bl j=>cases ry;exact PySem.EqNone.eq_none_bool (cU I q (by simp))
  |int j=>obtain⟨t',rfl⟩:=ry;exact PySem.EqNone.eq_none_int (cU I q (by simp))
  |str j=>obtain⟨t',rfl⟩:=ry;exact PySem.EqNone.eq_none_str (cU I q (by simp))
  |_=>exact absurd (show false=true from hs) Bool.false_ne_true
 |bl i=>
  cases rx
  cases y with
  |non=>cases ry;exact PySem.EqNone.eq_bool_none (cU I q (by simp))
  |bl j=>cases ry;exact eq_bool (cU I q Nv)
  |str j=>obtain⟨t',rfl⟩:=ry;exact PySem.EqMixed.eq_bool_str (cU I q (by simp))
  |_=>exact absurd (show false=true from hs) Bool.false_ne_true
 |int i=>
  obtain⟨t,rfl⟩:=rx
  cases y with
  |non=>cases ry;exact PySem.EqNone.eq_int_none (cU I q (by simp))
  |int j=>obtain⟨t',rfl⟩:=ry;exact eq_int (cU I q Fw)
  |str j=>obtain⟨t',rfl⟩:=ry;exact PySem.EqMixed.eq_int_str (cU I q (by simp))
  |_=>exact absurd (show false=true from hs) Bool.false_ne_true
 |str i=>
  obtain⟨t,rfl⟩:=rx
  cases y with
  |non=>cases ry;exact PySem.EqNone.eq_str_none (cU I q (by simp))
  |bl j=>cases ry;exact PySem.EqMixed.eq_str_bool (cU I q (by simp))
  |int j=>obtain⟨t',rfl⟩:=ry;exact PySem.EqMixed.eq_str_int (cU I q (by simp))
  |str j=>obtain⟨t',rfl⟩:=ry;exact eq_str (cU I q Go)
  |_=>exact absurd (show false=true from hs) Bool.false_ne_true
 |byt i=>
  obtain⟨t,rfl⟩:=rx
  cases y with
  |byt j=>obtain⟨t',rfl⟩:=ry;exact PySem.W.eq_bytes (cU I q Gf)
  |_=>exact absurd (show false=true from hs) Bool.false_ne_true
 |_=>cases y<;>exact absurd (show false=true from hs) Bool.false_ne_true
theorem rW:OpR X (compareOp .NotEq) rNe:=by
 intro pins s σ H x y v u Q I rx ry h;obtain⟨hs,q⟩:=h
 cases x with
 |non=>
  cases rx
  cases y with
  |non=>cases ry;exact PySem.EqNone.ne_none_none (cU I q (by simp))
  |bl j=>cases ry;exact PySem.EqNone.ne_none_bool (cU I q (by simp))
  |int j=>obtain⟨t',rfl⟩:=ry;exact PySem.EqNone.ne_none_int (cU I q (by simp))
  |str j=>obtain⟨t',rfl⟩:=ry;exact PySem.EqNone.ne_none_str (cU I q (by simp))
  |_=>exact absurd (show false=true from hs) Bool.false_ne_true
 |bl i=>
  cases rx
  cases y with
  |non=>cases ry;exact PySem.EqNone.ne_bool_none (cU I q (by simp))
  |bl j=>cases ry;exact ne_bool (cU I q (congrArg not Nv))
  |str j=>obtain⟨t',rfl⟩:=ry;exact PySem.EqMixed.ne_bool_str (cU I q (by simp))
  |_=>exact absurd (show false=true from hs) Bool.false_ne_true
 |int i=>
  obtain⟨t,rfl⟩:=rx
  cases y with
  |non=>cases ry;exact PySem.EqNone.ne_int_none (cU I q (by simp))
  |int j=>obtain⟨t',rfl⟩:=ry;exact ne_int (cU I q (congrArg not Fw))
  |str j=>obtain⟨t',rfl⟩:=ry;exact PySem.EqMixed.ne_int_str (cU I q (by simp))
  |_=>exact absurd (show false=true from hs) Bool.false_ne_true
 |str i=>
  obtain⟨t,rfl⟩:=rx
  cases y with
  |non=>cases ry;exact PySem.EqNone.ne_str_none (cU I q (by simp))
  |bl j=>cases ry;exact PySem.EqMixed.ne_str_bool (cU I q (by simp))
  |int j=>obtain⟨t',rfl⟩:=ry;exact PySem.EqMixed.ne_str_int (cU I q (by simp))
  |str j=>obtain⟨t',rfl⟩:=ry;exact ne_str (cU I q (congrArg not Go))
  |_=>exact absurd (show false=true from hs) Bool.false_ne_true
 |byt i=>
  obtain⟨t,rfl⟩:=rx
  cases y with
  |byt j=>obtain⟨t',rfl⟩:=ry;exact PySem.W.ne_bytes (cU I q (congrArg not Gf))
  |_=>exact absurd (show false=true from hs) Bool.false_ne_true
 |_=>cases y<;>exact absurd (show false=true from hs) Bool.false_ne_true
theorem yC:OpR X (compareOp .Lt) (rI0 fun i j=>.bl (decide (i < j))):=Qq fun _ _ _ _ _ _ _ q=>lt_int q
theorem Yc:OpR X (compareOp .LtE) (rI0 fun i j=>.bl (decide (i<=j))):=Qq fun _ _ _ _ _ _ _ q=>le_int q
theorem Be:OpR X (compareOp .Gt) (rI0 fun i j=>.bl (decide (j < i))):=Qq fun _ _ _ _ _ _ _ q=>gt_int q
theorem Og:OpR X (compareOp .GtE) (rI0 fun i j=>.bl (decide (j<=i))):=Qq fun _ _ _ _ _ _ _ q=>ge_int q
theorem bO (b:Expr){op:CmpOp}(h:op≠.In:=by decide)(h2:op≠.NotIn:=by decide):behindInMarks op b=false:=by
 have e1:(op == CmpOp.In)=false:=by cases op<;>first | rfl | exact absurd rfl h
 have e2:(op == CmpOp.NotIn)=false:=by cases op<;>first | rfl | exact absurd rfl h2
 cases b<;>simp[behindInMarks,e1,e2]
theorem jC {op:CmpOp}{r:R2}(ho:OpR X (compareOp op) r)(ha:PE X a ta)(hb:PE X b tb)(hm:behindInMarks op b=false):PE X (.Compare a [op] [b] pos) (tOp r ta tb):=by
 intro pins s σ H Q I h;exact wpAny_Compare1 (Wc ha hb I h fun v u s2 x y H2 I2 rx ry q=>ho pins s2 σ H2 x y v u Q I2 rx ry q) hm
def Yi (t:TE):TT:=fun σ H Q=>t σ H fun x H'=>∃k,x=.bl k/\Q k H'
theorem bM {op:CmpOp}{r:R2}(ho:OpR X (compareOp op) r)(ha:PE X a ta)(hb:PE X b tb)(hm:behindInMarks op b=false):PT X (.Compare a [op] [b] pos) (Yi (tOp r ta tb)):=by
 intro pins s σ H Q I h;refine wpAny_isTrue_Compare1 (thn (ha pins s σ H _ I h) fun v s1 ⟨x,H1,I1,r1,q1⟩=>thn (hb pins s1 σ H1 _ I1 q1) fun u s2 ⟨y,H2,I2,r2,q2⟩=>
  thn (ho pins s2 σ H2 x y v u _ I2 r1 r2 q2) fun c s3 ⟨z,H3,I3,r3,k,e,q3⟩=>?_) hm
 subst e
 cases r3
 exact wpAny_truthy_bool ⟨H3,I3,q3⟩
theorem yS:(sizeLine:Nat) < 2 ^ 63:=by rw[sizeLine_eq];decide
theorem yJ {x:V}{us:List Value}(r:bX [x] us):∃u,us=[u]/\bV x u:=by
 cases r with
 |cons r1 r2=>cases r2;exact⟨_,rfl,r1⟩
theorem Oy {x y:V}{us:List Value}(r:bX [x,y] us):∃u w',us=[u,w']/\bV x u/\bV y w':=by
 cases r with
 |cons r1 r2=>
  cases r2 with
  |cons r3 r4=>cases r4;exact⟨_,_,rfl,r1,r3⟩
theorem vJ:rV X (.builtin "abs") (fun xs H Q=>∃i,xs=[.int i]/\Q (.int (if i < 0 then -i else i)) H):=by
 intro pins s σ H xs us Q I r h;obtain⟨i,rfl,q⟩:=h;obtain⟨u,rfl,t,rfl⟩:=yJ r;exact call_abs_int fun u tk=>⟨.int (if i < 0 then -i else i),H,I.tok _,⟨_,rfl⟩,q⟩
end
structure Du (h:Heap) (x dx C:Addr) (mA:Str->Option Value):Prop where
 obj:h.get? x=some (PySem.W.instObj C dx)
 ns:h.Ns1 dx mA
 ne:dx≠x
theorem Jg {h:Heap}{dx:Addr}{mA:Str->Option Value}(n:h.Ns1 dx mA):∃od,h.get? dx=some od/\∀name,PySem.W.lookIn name od=some (mA name):=by
 obtain⟨o,es,ep,ho,hd,hk,_,hm⟩:=n;refine⟨o,ho,fun name=>?_⟩;have e:=hm name;unfold nsFind findBy at e;rw[<- Array.find?_toList] at e;unfold PySem.W.lookIn;rw[hd];dsimp only;split
 ·rename_i y q
  rw[q] at e;exact congrArg some e
 ·rename_i q
  rw[q] at e;have a:es.toList.any (·.refKey)=false:=by
   rw[List.any_eq_false];intro y hy;obtain⟨z,t,hkey⟩:=hk y (Array.mem_toList_iff.mp hy);simp[DictEntry.refKey,hkey]
  have a':¬es.toList.any (·.refKey)=true:=by rw[a];exact Bool.false_ne_true
  rw[if_neg a'];exact congrArg some e
theorem Du.look {h:Heap}{x dx C:Addr}{mA:Str->Option Value}(I:Du h x dx C mA):∃od,PySem.W.InstAt h x (PySem.W.instObj C dx) C (some od)/\∀name,PySem.W.lookIn name od=some (mA name):=
 let ⟨od,ho,hl⟩:=Jg I.ns
 ⟨od,⟨I.obj,rfl,rfl,ho⟩,hl⟩
section
variable {prog:Program} {w:World} {A:Around} {E:Value->Shared->Prop} {s:Shared} {K:Frag} {x dx C f:Addr} {mA:Str->Option Value} {name:Str} {v:Value}
theorem Rc {expr:Bool}{Q:Value->Shared->Prop}(X:K.In s.heap)(I:Du s.heap x dx C mA)(hg:PySem.W.plainGet K C name=true)(hh:PySem.W.hasDictIn K C=true)(ha:PySem.W.findIn K (.ref C) name=some none)(hv:mA name=some v)(hv':PySem.W.handedIn v=true)(h:Q v { s with toks:=s.toks+1 }) :
  wpAny (model prog w) A (getAttr (.ref x) name expr) Q E s:=by
 obtain⟨od,J,hl⟩:=I.look;exact PySem.W.get_value X J (PySem.W.plainGet_of hg).1 (PySem.W.findObj_own hh ha rfl (by rw[hl,hv])) hv' h
theorem Mf {pl:Sem Bool}{Q:Value × List Value->Shared->Prop}(X:K.In s.heap)(I:Du s.heap x dx C mA)(hg:PySem.W.plainGet K C name=true)(hf:PySem.W.findIn K (.ref C) name=some (some (.ref f)))(ht:PySem.W.isFn K (.ref f)=true)(hv:mA name=none)(h:Q (.ref f,[.ref x]) s) :
  wpAny (model prog w) A (getMethod (.ref x) name pl) Q E s:=by
 obtain⟨od,J,hl⟩:=I.look;exact PySem.W.method_fn X J (PySem.W.plainGet_of hg).1 (PySem.W.plainGet_of hg).2 hf (beq_iff_eq.mp ht) (by show (PySem.W.lookIn name od).map (·.isSome)=some false;rw[hl,hv];rfl) h
theorem Tx {ns:List Str}{Q:Unit->Shared->Prop}(X:K.In s.heap)(I:Du s.heap x dx C mA)(hs:PySem.W.findIn K (.ref C) "__setattr__"=some (some (.builtin "object.__setattr__")))(hp:PySem.W.plainOver K C=true)(ht:PySem.W.takerIn K C name=some none)(hh:PySem.W.hasDictIn K C=true)(hw:PySem.Within mA ns)(hsz:ns.length<=sizeLine)(h:∀h',Du h' x dx C (fun y=>if y=name then some v else mA y)->Heap.SameBut dx s.heap h'->Q () { s with heap:=h',toks:=s.toks+2 }) :
  wpAny (model prog w) A (setAttr (.ref x) name v) Q E s:=by
 obtain⟨od,J,hl⟩:=I.look;refine PySem.W.set_plain X J hs (PySem.W.osa_open (s:={ s with toks:=s.toks+1 }) (r:=none) X J hp ht fun b=>?_);obtain⟨cd,hc,hd'⟩:=PySem.W.any_some hh;have hx:s.heap.get? x=some ⟨.ref C,some dx,.plain,#[]⟩:=I.obj;refine wpAny_bind (wpAny_pure (wpAny_bind (wpAny_bind (wpAny_loadPart hx (wpAny_bind (PySem.W.Looks.here (s:={ s with toks:=s.toks+1 }) (PySem.W.looks_clsIn X hc) ?_))))));rw[hd'];refine wpAny_pure (a:=some dx) (wpAny_bind (wpAny_pure (wpAny_bind ?_)));refine wpAny_nsSet1 (s:={ s with toks:=s.toks+1 }) I.ns fun h' hn2 hs2=>?_;obtain⟨oD,esD,epD,hoD,hdD,hcD⟩:=hn2.count (PySem.Within.cons name v hw);refine wpAny_bind (wpAny_lookBehind hoD (by rw[hdD];exact pastItsLine_dict (Nat.le_trans hcD (by rw[List.length_cons];omega))) ?_);exact wpAny_pure (h _ ⟨(hs2.2 _ (Ne.symm I.ne)).trans I.obj,hn2,I.ne⟩ hs2)
theorem Mp {R:Result->Shared->Prop}{vs:List Value}{kw:List (Str × Value)}(X:K.In s.heap)(hm:PySem.W.makesIn K C=true)(hi:PySem.W.findIn K (.ref C) "__init__"=some (some (.ref f)))(hf:PySem.W.typeIn K (.ref f)=some (.type "function"))(h:codeAny (model prog w) (A.under (.builtin "type.__call__" ⟨.ref C :: vs,kw⟩)) (.call (.ref f) ⟨.ref (s.heap.objs.size+1) :: vs,kw⟩) (PySem.W.InitBack (s.heap.objs.size+1) R)
   { s with heap:=(s.heap.push PySem.W.emptyDict).push (PySem.W.instObj C s.heap.objs.size) }) :
  codeAny (model prog w) A (.call (.ref C) ⟨vs,kw⟩) R s:=by
 obtain⟨hh,g,d,t,os⟩:=s;exact PySem.W.make_core (PySem.W.makes_of X hm) (PySem.W.looks_findIn X hi) (fun self=>PySem.W.bind_fn X self hf) (.inl rfl) h
end
def iW (f:Str)(v:V):List (Str × V)->List (Str × V)
 | []=>[(f,v)]
 | (g,x) :: r=>if g=f then (g,v) :: r else (g,x) :: iW f v r
theorem cC (f g:Str)(v:V):∀fs:List (Str × V),(iW f v fs).lookup g=if g=f then some v else fs.lookup g
 | []=>by
  show List.lookup g [(f,v)]=_
  by_cases h:g=f
  ·have hb:(g == f)=true:=beq_iff_eq.mpr h;simp only[List.lookup,hb,if_pos h]
  ·have hb:(g == f)=false:=beq_eq_false_iff_ne.mpr h;simp only[List.lookup,hb,if_neg h]
 | (k,x) :: r=>by
  have ih:=cC f g v r;rw[show iW f v ((k,x) :: r)=(if k=f then (k,v) :: r else (k,x) :: iW f v r) from rfl]
  by_cases hk:k=f
  ·rw[if_pos hk]
   by_cases h:g=k
   ·have hb:(g == k)=true:=beq_iff_eq.mpr h;simp only[List.lookup,hb,if_pos (h.trans hk)]
   ·have hb:(g == k)=false:=beq_eq_false_iff_ne.mpr h;simp only[List.lookup,hb,if_neg (fun e:g=f=>h (e.trans hk.symm))]
  ·rw[if_neg hk]
   by_cases h:g=k
   ·have hb:(g == k)=true:=beq_iff_eq.mpr h;simp only[List.lookup,hb,if_neg (fun e:g=f=>hk (h.symm.trans e))]
   ·have hb:(g == k)=false:=beq_eq_false_iff_ne.mpr h;simp only[List.lookup,hb];exact ih
theorem qA (f:Str)(v:V):∀fs:List (Str × V),f∈(iW f v fs).map (·.1)/\∀g,g∈fs.map (·.1)->g∈(iW f v fs).map (·.1)
 | []=>⟨by simp[iW],fun g h=>by simp at h⟩
 | (k,x) :: r=>by
  obtain⟨i1,i2⟩:=qA f v r;rw[show iW f v ((k,x) :: r)=(if k=f then (k,v) :: r else (k,x) :: iW f v r) from rfl]
  by_cases hk:k=f
  ·rw[if_pos hk];subst hk;exact⟨by simp,fun g h=>by simpa using h⟩
  ·rw[if_neg hk];refine⟨?_,fun g h=>?_⟩
   ·rw[List.map_cons];exact List.mem_cons_of_mem _ i1
   ·rw[List.map_cons] at h ⊢;rcases List.mem_cons.mp h with e | e
    ·exact List.mem_cons.mpr (.inl e)
    ·exact List.mem_cons_of_mem _ (i2 g e)
theorem hZ (f:Str)(v:V):∀fs:List (Str × V),(iW f v fs).length<=fs.length+1
 | []=>by simp[iW]
 | (k,x) :: r=>by
  have ih:=hZ f v r;rw[show iW f v ((k,x) :: r)=(if k=f then (k,v) :: r else (k,x) :: iW f v r) from rfl]
  by_cases hk:k=f
  ·rw[if_pos hk,List.length_cons,List.length_cons];omega
  ·rw[if_neg hk,List.length_cons,List.length_cons];omega
theorem kF.some_of {v:V}{o:Option Value}(r:kF (some v) o):∃u,o=some u/\bV v u:=by
 cases o with
 |none=>exact(show False from r).elim
 |some u=>exact⟨u,rfl,r⟩
theorem kF.none_of {o:Option Value}(r:kF none o):o=none:=by
 cases o with
 |none=>rfl
 |some u=>exact(show False from r).elim
theorem Hv {v:V}{u:Value}(r:bV v u):PySem.W.handedIn u=true:=by
 cases v with
 |non=>cases (show u=Value.none from r);rfl
 |bl b=>cases (show u=Value.bool b from r);rfl
 |int i=>obtain⟨t,e⟩:=(show ∃t,u=Value.int i t from r);cases e;rfl
 |str x=>obtain⟨t,e⟩:=(show ∃t,u=Value.str x t from r);cases e;rfl
 |byt b=>obtain⟨t,e⟩:=(show ∃t,u=Value.bytes b t from r);cases e;rfl
 |flt b=>obtain⟨t,e⟩:=(show ∃t,u=Value.float b t from r);cases e;rfl
 |ref a=>cases (show u=Value.ref a from r);rfl
 |ty n=>cases (show u=Value.type n from r);rfl
section
variable {P:Program} {w:World} {H H':Hp} {h h':Heap} {a C dx:Addr} {fs fs':List (Str × V)}
theorem sZ (hok:HOk P w H h)(e:H a=some (.ins C dx fs)):∃mA,Du h a dx C mA/\(∀f,kF (fs.lookup f) (mA f))/\PySem.Within mA (fs.map (·.1))/\fs.length<=1000/\H dx=some (.own a):=by
 obtain⟨d,z,ne,ob,mA,n,r,q⟩:=(show dR P w H h a (.ins C dx fs) from hok a _ e)
 exact⟨mA,⟨ob,n,ne⟩,r,q,z,d⟩
end
structure Cls (K:Frag) (C:Addr):Prop where
 pg:PySem.W.plainGet K C Str.empty=true
 hd:PySem.W.hasDictIn K C=true
 po:PySem.W.plainOver K C=true
 sa:PySem.W.findIn K (.ref C) "__setattr__"=some (some (.builtin "object.__setattr__"))
theorem Cls.get {K:Frag}{C:Addr}(c:Cls K C)(f:Str):PySem.W.plainGet K C f=true:=c.pg
def iR (K:Frag)(C:Addr)(f:Str):Prop:=PySem.W.findIn K (.ref C) f=some none
theorem iR.taker {K:Frag}{C:Addr}{f:Str}(n:iR K C f):PySem.W.takerIn K C f=some none:=by
 unfold PySem.W.takerIn;rw[show PySem.W.findIn K (.ref C) f=some none from n];rfl
structure iB (K:Frag) (C:Addr) (m:Str) (f:Addr):Prop where
 at_:PySem.W.findIn K (.ref C) m=some (some (.ref f))
 fn:PySem.W.isFn K (.ref f)=true
 kp:PySem.W.keepIn K (.ref f)=true
section
variable {X:Cx} {pins:List (Addr × Obj)} {σ:St} {H:Hp} {s:Shared} {a C dx:Addr} {fs:List (Str × V)} {f:Str} {v:V} {A:Around} {E:Value->Shared->Prop}
theorem Dm {b:Bool}{Q:Value->Shared->Prop}(I:Inv X pins σ H s)(e:H a=some (.ins C dx fs))(c:Cls X.K C)(n:iR X.K C f)(l:fs.lookup f=some v)(h:∀u s',Inv X pins σ H s'->bV v u->Q u s'):wpAny (model X.prog X.w) A (getAttr (.ref a) f b) Q E s:=by
 obtain⟨mA,O,r,_,_,_⟩:=sZ I.hok e;obtain⟨u,hu,ru⟩:=kF.some_of (v:=v) (o:=mA f) (by rw[<- l];exact r f);exact Rc I.kIn O (c.get f) c.hd n hu (Hv ru) (h u _ (I.tok _) ru)
theorem nI {m:Str}{g:Addr}{pl:Sem Bool}{Q:Value × List Value->Shared->Prop}(I:Inv X pins σ H s)(e:H a=some (.ins C dx fs))(c:Cls X.K C)(k:iB X.K C m g)(l:fs.lookup m=none)(h:Q (.ref g,[.ref a]) s):wpAny (model X.prog X.w) A (getMethod (.ref a) m pl) Q E s:=by
 obtain⟨mA,O,r,_,_,_⟩:=sZ I.hok e;have hn:mA m=none:=kF.none_of (by rw[<- l];exact r m);exact Mf I.kIn O (c.get m) k.at_ k.fn hn h
theorem Eb {y:V}{u:Value}{Q:Unit->Shared->Prop}(I:Inv X pins σ H s)(e:H a=some (.ins C dx fs))(c:Cls X.K C)(n:iR X.K C f)(hl:fs.length < 1000)(ry:bV y u)(h:∀s',Inv X pins σ (upd H a (.ins C dx (iW f y fs))) s'->Q () s'):wpAny (model X.prog X.w) A (setAttr (.ref a) f u) Q E s:=by
 obtain⟨mA,O,r,wi,_,ho⟩:=sZ I.hok e;have hz:(fs.map (·.1)).length<=sizeLine:=by rw[List.length_map,sizeLine_eq];omega
 refine Tx I.kIn O c.sa c.po n.taker c.hd wi hz fun h' O' sb=>h _ ?_;have hd:∃o,h'.get? dx=some o:=let ⟨o,_,_,e',_⟩:=O'.ns;⟨o,e'⟩
 refine I.write (x:=a) (e:=dx) (by rw[e];exact True.intro) (.inr ho) (fun b q hb z=>(sb.2 b hb).trans z) hd ?_;refine⟨by rw[aV O.ne];exact ho,?_,O.ne,O'.obj,_,O'.ns,fun g=>?_,fun g hg=>?_⟩
 ·have:=hZ f y fs;omega
 ·show kF ((iW f y fs).lookup g) (if g=f then some u else mA g);rw[cC]
  by_cases q:g=f
  ·rw[if_pos q,if_pos q];exact ry
  ·rw[if_neg q,if_neg q];exact r g
 ·by_cases q:g=f
  ·rw[q];exact(qA f y fs).1
  ·refine(qA f y fs).2 g (wi g fun z=>hg ?_);show (if g=f then some u else mA g)=none;rw[if_neg q];exact z
theorem Inv.made (I:Inv X pins σ H s):Inv X pins σ (upd (upd H s.heap.objs.size (.own (s.heap.objs.size+1))) (s.heap.objs.size+1) (.ins C s.heap.objs.size []))
  { s with heap:=(s.heap.push PySem.W.emptyDict).push (PySem.W.instObj C s.heap.objs.size) }:=by
 have e1:(s.heap.push PySem.W.emptyDict).get? s.heap.objs.size=some PySem.W.emptyDict:=Heap.get?_push_size s.heap rfl;have e2:((s.heap.push PySem.W.emptyDict).push (PySem.W.instObj C s.heap.objs.size)).get? (s.heap.objs.size+1)=some (PySem.W.instObj C s.heap.objs.size):=by
  have:=Heap.get?_push_size (s.heap.push PySem.W.emptyDict) (o:=PySem.W.instObj C s.heap.objs.size) rfl
  rwa [Heap.size_push] at this
 have e3:(s.heap.push PySem.W.emptyDict).Ns s.heap.objs.size (fun _=>none):=⟨PySem.W.emptyDict,#[],_,e1,rfl,(fun e he=>absurd he (by simp)),fun _=>rfl⟩
 have I1:=I.laid (a:=s.heap.objs.size) (o:=.own (s.heap.objs.size+1)) (h':=s.heap.push PySem.W.emptyDict) (t':=s.toks) (fun b u q=>Heap.get?_push_of_some _ q) (Nat.le_refl _) ⟨_,e1⟩;refine I1.laid (a:=s.heap.objs.size+1) (o:=.ins C s.heap.objs.size []) (t':=s.toks) (fun b u q=>Heap.get?_push_of_some _ q) (Nat.le_of_eq (Heap.size_push _ _)) ?_;have ne:s.heap.objs.size≠s.heap.objs.size+1:=Nat.ne_of_lt (Nat.lt_succ_self _);refine⟨by rw[aV ne,aD],Nat.zero_le _,ne,e2,fun _=>none,(Heap.Ns1.of_empty e3).at fun o q=>Heap.get?_push_of_some _ q,fun _=>True.intro,fun y hy=>absurd rfl hy⟩
theorem Qy {prog:Program}{w:World}{env:Env}{e:Expr}{f:Str}{pos:Pos}{s:Shared}{Q:Value->Shared->Prop}(hb:attributeBase e f env (eval e env)=eval e env)(h:wpAny (model prog w) A (eval e env) (fun o s₁=>wpAny (model prog w) A (getAttr o f true) Q E s₁) E s):wpAny (model prog w) A (eval (.Attribute e f pos) env) Q E s:=
 Attribute_any_ h (by rw[arm_eval_Attribute,hb])
end
def qe2 (K:Frag)(ta:TE)(f:Str):TE:=fun σ H Q=>ta σ H fun x H1=>∃a C dx fs v,x=.ref a/\H1 a=some (.ins C dx fs)/\Cls K C/\iR K C f/\fs.lookup f=some v/\Q v H1
def qe7 (K:Frag)(ta tv:TE)(f:Str):TS:=fun D σ H=>tv σ H fun y H1=>ta σ H1 fun x H2=>∃a C dx fs,x=.ref a/\H2 a=some (.ins C dx fs)/\Cls K C/\iR K C f/\fs.length < 1000/\
 D.nx σ (upd H2 a (.ins C dx (iW f y fs)))
section
variable {X:Cx} {o e value:Expr} {f:Str} {pos pos' tpos:Pos} {ta tv:TE}
theorem cN (he:PE X e ta)(hb:attributeBase e f X.env (eval e X.env)=eval e X.env):PE X (.Attribute e f pos) (qe2 X.K ta f):=by
 intro pins s σ H Q I h;refine Qy hb (thn (he pins s σ H _ I h) fun u s1 ⟨x,H1,I1,rx,a,C,dx,fs,v,ex,ea,c,n,l,q⟩=>?_);subst ex;obtain rfl:u=Value.ref a:=rx;exact Dm I1 ea c n l fun u' s2 I2 ru=>⟨v,H1,I2,ru,q⟩
theorem vL (ha:PE X o ta)(hv:PE X value tv)(hs:swapsWith value (some (.Attribute o f pos')) pos.line X.env=pure false):PS X (.Assign [.Attribute o f pos'] value pos) (qe7 X.K ta tv f):=by
 intro pins s σ H D I h;refine plainObj_wpAny_Assign_Attribute (thn (hv pins s σ H _ I h) fun u s1 ⟨y,H1,I1,ry,q⟩=>thn (ha pins s1 σ H1 _ I1 q) fun ov s2 ⟨x,H2,I2,rx,a,C,dx,fs,ex,ea,c,n,l,q2⟩=>?_) hs;subst ex;obtain rfl:ov=Value.ref a:=rx;exact Eb I2 ea c n l ry fun s3 I3=>⟨σ,_,I3,q2⟩
end
section
variable {X:Cx} {pins:List (Addr × Obj)} {σ:St} {H:Hp} {s:Shared} {A:Around} {E:Value->Shared->Prop} {Q:Value->Shared->Prop} {c:Value} {b:Bool}
inductive mU (K:Frag) (H:Hp):V->Value->Prop where
 |non:mU K H .non (.type "NoneType")
 |bl (x:Bool):mU K H (.bl x) (.type "bool")
 |int (i:Int):mU K H (.int i) (.type "int")
 |str (x:Str):mU K H (.str x) (.type "str")
 |flt (x:UInt64):mU K H (.flt x) (.type "float")
 |lst {a:Addr} {xs:List V} (e:H a=some (.lst xs)):mU K H (.ref a) (.type "list")
 |frz {a:Addr} {o:Obj} {xs:List V} (e:H a=some (.frz o (.lst xs))):mU K H (.ref a) (.type "list")
 |tup {a:Addr} {xs:List V} (e:H a=some (.tup xs)):mU K H (.ref a) (.type "tuple")
 |dK {a:Addr} {kvs:List (Key × V)} (e:H a=some (.dK kvs)):mU K H (.ref a) (.type "dict")
 |dT {a:Addr} {kvs:List (List Key × V)} (e:H a=some (.dT kvs)):mU K H (.ref a) (.type "dict")
 |ins {a C dx:Addr} {fs:List (Str × V)} (e:H a=some (.ins C dx fs)) (cl:Cls K C) (ha:PySem.W.findIn K (.ref C) "__class__"=some (some (.builtin "object.__class__")))
   (hn:PySem.W.specialIn K (.builtin "object.__class__") "__get__"=some (some (.builtin "getset_descriptor.__get__"))) (htk:PySem.W.takesIn K (.builtin "object.__class__")=some true)
   (hm:PySem.W.mroIn K C (.type "object")=some true):mU K H (.ref a) (.ref C)
theorem Jb {x:V}{u t:Value}(I:Inv X pins σ H s)(rx:bV x u)(ty:mU X.K H x t)(e:PySem.W.kitOne X.K t c=some b)(h:∀tk,Q (.bool b) { s with toks:=tk }) :
  wpAny (model X.prog X.w) A (call (.builtin "isinstance") [u,c]) Q E s:=by
 cases ty with
 |non=>cases (show u=Value.none from rx);exact PySem.W.kia_one PySem.W.kitx_none I.kIn True.intro e (fun z=>nomatch z) h
 |bl y=>cases (show u=Value.bool y from rx);exact PySem.W.kia_one PySem.W.kitx_bool I.kIn True.intro e (fun z=>nomatch z) h
 |int i=>obtain⟨t,q⟩:=(show ∃t,u=Value.int i t from rx);cases q;exact PySem.W.kia_one PySem.W.kitx_int I.kIn True.intro e (fun z=>nomatch z) h
 |str y=>obtain⟨t,q⟩:=(show ∃t,u=Value.str y t from rx);cases q;exact PySem.W.kia_one PySem.W.kitx_str I.kIn True.intro e (fun z=>nomatch z) h
 |flt y=>obtain⟨t,q⟩:=(show ∃t,u=Value.float y t from rx);cases q;exact PySem.W.kia_one PySem.W.kitx_float I.kIn True.intro e (fun z=>nomatch z) h
 | @lst a xs ea=>
  cases (show u=Value.ref a from rx)
  obtain⟨_,_,n,_,h1⟩:=(show dR X.prog X.w H s.heap a (.lst xs) from I.hok a _ ea)
  exact PySem.W.kia_one PySem.W.kitx_list I.kIn ⟨_,h1,rfl⟩ e (fun z=>nomatch z) h
 | @frz a ob xs ea=>
  cases (show u=Value.ref a from rx)
  obtain⟨_,_,_,n,_,h1⟩:=(show dR X.prog X.w H s.heap a (.frz ob (.lst xs)) from I.hok a _ ea)
  exact PySem.W.kia_one PySem.W.kitx_list I.kIn ⟨_,h1,rfl⟩ e (fun z=>nomatch z) h
 | @tup a xs ea=>
  cases (show u=Value.ref a from rx)
  obtain⟨_,_,_,p⟩:=(show dR X.prog X.w H s.heap a (.tup xs) from I.hok a _ ea)
  obtain⟨o,h1,h2,_⟩:=p;exact PySem.W.kia_one PySem.W.kitx_tuple I.kIn ⟨o,h1,h2⟩ e (fun z=>nomatch z) h
 | @dK a kvs ea=>
  cases (show u=Value.ref a from rx)
  obtain⟨_,_,vs,_,p⟩:=(show dR X.prog X.w H s.heap a (.dK kvs) from I.hok a _ ea)
  obtain⟨o,es,ep,h1,h2,_⟩:=p;exact PySem.W.kia_one PySem.W.kitx_dict I.kIn ⟨o,h1,h2.1⟩ e (fun z=>nomatch z) h
 | @dT a kvs ea=>
  cases (show u=Value.ref a from rx)
  obtain⟨_,_,xs,_,o,es,ep,h1,h2,_⟩:=(show dR X.prog X.w H s.heap a (.dT kvs) from I.hok a _ ea)
  exact PySem.W.kia_one PySem.W.kitx_dict I.kIn ⟨o,h1,h2.1⟩ e (fun z=>nomatch z) h
 | @ins a C dx fs ea cl ha hn htk hm=>
  cases (show u=Value.ref a from rx)
  obtain⟨mA,O,_⟩:=sZ I.hok ea;obtain⟨od,J,_⟩:=O.look;exact PySem.W.kia_one (PySem.W.kitx_own (cl.get _) cl.hd ha hn htk hm) I.kIn J e (fun z=>nomatch z) h
end
structure gS (k:Nat) (A:Around):Prop where
 hd:A.handled=none
 dp:A.depth+3*k+5 < recursionLimit
 un:A.units+16*k+200 < cLine
theorem gS.mono {j k:Nat}{A:Around}(r:gS k A)(h:j<=k):gS j A:=⟨r.hd,by have:=r.dp;omega,by have:=r.un;omega⟩
theorem gS.deeper {k:Nat}{A:Around}(r:gS (k+1) A)(env:Env):gS k (A.deeper env):=
 ⟨r.hd,by have:=r.dp;show A.depth+1+3*k+5 < _;omega,by have:=r.un;show A.units+3+16*k+200 < _;omega⟩
theorem Ee {A:Around}{C:Addr}{us:List Value}{kw:List (Str × Value)}:(A.under (.builtin "type.__call__" ⟨.ref C :: us,kw⟩)).depth=A.depth+1:=by
 first | rfl | simp[Around.under,Code.weight,Code.isCreation,Code.isGuard,Code.isCaller,Code.frames,Code.isFrame,guardIds]
theorem Dr {A:Around}{C:Addr}{us:List Value}{kw:List (Str × Value)}:(A.under (.builtin "type.__call__" ⟨.ref C :: us,kw⟩)).units=A.units+1:=by
 first | rfl | simp[Around.under,Code.cUnits,Code.frames,Code.isFrame]
theorem gS.make {k:Nat}{A:Around}(r:gS (k+1) A)(C:Addr)(us:List Value)(kw:List (Str × Value)):gS k (A.under (.builtin "type.__call__" ⟨.ref C :: us,kw⟩)):=
 ⟨r.hd,by have:=r.dp;rw[Ee];omega,by have:=r.un;rw[Dr];omega⟩
theorem gS.depth {k:Nat}{A:Around}(r:gS k A):A.depth < recursionLimit:=by have:=r.dp;omega
theorem gS.units {k:Nat}{A:Around}(r:gS k A):A.units+64 < cLine:=by have:=r.un;omega
def Vt:TA:=fun _ H Q=>Q [] H
def Yu (ta:TE)(tr:TA):TA:=fun σ H Q=>ta σ H fun x H1=>tr σ H1 fun xs H2=>Q (x :: xs) H2
section
variable {X:Cx} {e:Expr} {es:List Expr} {te:TE} {t:TA} {pos:Pos}
theorem aB:PA X [] Vt:=fun _ _ _ _ H Q I h=>Calls.spliced_nil ⟨[],H,I,.nil,h⟩
theorem aA (ha:PE X e te)(hr:PA X es t)(hs:starEach (e :: es) X.env=(false,eval e X.env) :: starEach es X.env:=by rfl):PA X (e :: es) (Yu te t):=by
 intro pos pins s σ H Q I h;rw[hs];show wpAny _ _ (spliced ((false,eval e X.env) :: backTo pos (starEach es X.env))) _ _ s;refine Calls.spliced_cons (thn (ha pins s σ H _ I h) fun u s1 ⟨x,H1,I1,r1,q1⟩=>?_);exact thn (hr pos pins s1 σ H1 _ I1 q1) fun us s2 ⟨xs,H2,I2,r2,q2⟩=>⟨x :: xs,H2,I2,.cons r1 r2,q2⟩
def qb9 (t:TA):TE:=fun σ H Q=>t σ H fun xs H1=>xs.length<=sizeLine/\∀p,H1 p=none->Q (.ref p) (upd H1 p (.tup xs))
def qe8 (t:TA):TE:=fun σ H Q=>t σ H fun xs H1=>xs.length<=sizeLine/\∀p,H1 p=none->Q (.ref p) (upd H1 p (.lst xs))
theorem dM {x1}(h:PA X es t):PE X (.Tuple es x1 pos) (qb9 t):=by
 intro pins s σ H Q I hq;refine wpAny_Tuple_spliced (thn (h pos pins s σ H _ I hq) fun us s1 ⟨xs,H1,I1,r,z,q⟩=>⟨by rw[<- r.length];exact z,?_⟩);have hf:H1 s1.heap.objs.size=none:=I1.hok.fresh (Nat.le_refl _);refine⟨.ref s1.heap.objs.size,upd H1 s1.heap.objs.size (.tup xs),I1.laid (t':=s1.toks) (fun b u e=>Heap.get?_push_of_some _ e) (Nat.le_refl _) ?_,rfl,q _ hf⟩;exact⟨z,us,r,⟨_,Heap.get?_push_size _ rfl,rfl,_,rfl⟩⟩
theorem cX (h:PA X es t):PE X (.List es pos) (qe8 t):=by
 intro pins s σ H Q I hq;refine wpAny_List_spliced (thn (h pos pins s σ H _ I hq) fun us s1 ⟨xs,H1,I1,r,z,q⟩=>⟨by rw[<- r.length];exact z,?_⟩);have hf:H1 s1.heap.objs.size=none:=I1.hok.fresh (Nat.le_refl _);refine⟨.ref s1.heap.objs.size,upd H1 s1.heap.objs.size (.lst xs),I1.laid (t':=s1.toks) (fun b u e=>Heap.get?_push_of_some _ e) (Nat.le_refl _) ?_,rfl,q _ hf⟩;exact⟨z,us,0,r,Heap.get?_push_size _ rfl⟩
end
abbrev Sp:=List V->Hp->VK->XK->Prop
abbrev CXT:=List Env->Hp->Shared->XK->Value->Shared->Prop
structure Em (P:Program) (w:World) (K:Frag) (mg:Str->Option Value) (base:Heap) (A:Around) (outer:List Env) (s:Shared) (H:Hp):Prop where
 frames:A.frames=some outer
 mod:Mod K mg base
 bs:∀b o,base.get? b=some o->s.heap.get? b=some o/\H b=none
 bsz:base.objs.size<=s.heap.objs.size
 funs:s.heap.FunFrames base outer
 frf:∀b∈frs outer,H b=none
 hok:HOk P w H s.heap
 bare:AllBare s.gens
def CE (outer:List Env)(P:Program)(w:World)(H:Hp)(s:Shared)(Q:VK)(u:Value)(s':Shared):Prop:=
 ∃v H',s'.os=s.os/\AllBare s'.gens/\Un (frs outer) [] H H' s.heap s'.heap/\HOk P w H' s'.heap/\bV v u/\Q v H'
def CR (CX:CXT)(outer:List Env)(P:Program)(w:World)(H:Hp)(s:Shared)(Q:VK)(E:XK)(r:Result)(s':Shared):Prop:=
 match r with
 | .ok (.ret u)=>CE outer P w H s Q u s'
 | .ok _=>False
 | .error e=>CX outer H s E e s'
structure aM (P:Program) (w:World) (K:Frag) (mg:Str->Option Value) (base:Heap) (CX:CXT) (k:Nat) (f:Addr) (fd:FuncData) (ps:List Str) (sp:Sp):Prop where
 len:∀vs H Q E,sp vs H Q E->vs.length=ps.length
 run:∀(A:Around) (outer:List Env) (s:Shared) (H:Hp) (args:Args) (us:List Value) (vs:List V) (Q:VK) (E:XK),gS k A->Em P w K mg base A outer s H->BindsTo s fd args (ps.zip us)->bX vs us->sp vs H Q E->
  codeAny (model P w) A (.call (.ref f) args) (CR CX outer P w H s Q E) s
theorem aM.imp {P:Program}{w:World}{K:Frag}{mg:Str->Option Value}{base:Heap}{CX:CXT}{k:Nat}{f:Addr}{fd:FuncData}{ps:List Str}{sp sp':Sp}(F:aM P w K mg base CX k f fd ps sp)(h:∀vs H Q E,sp' vs H Q E->sp vs H Q E):aM P w K mg base CX k f fd ps sp':=
 ⟨fun vs H Q E q=>F.len vs H Q E (h _ _ _ _ q),fun A outer s H args us vs Q E hr he hb hv hs=>F.run A outer s H args us vs Q E hr he hb hv (h _ _ _ _ hs)⟩
theorem Em.make {P:Program}{w:World}{K:Frag}{mg:Str->Option Value}{base:Heap}{A:Around}{outer:List Env}{s:Shared}{H:Hp}(e:Em P w K mg base A outer s H)(C:Addr)(us:List Value)(kw:List (Str × Value)) :
  Em P w K mg base (A.under (.builtin "type.__call__" ⟨.ref C :: us,kw⟩)) outer s H:=⟨by first | exact e.frames | (simpa[Around.under,Code.envs,Code.isFrame,pushEnvs] using e.frames),e.mod,e.bs,e.bsz,e.funs,e.frf,e.hok,e.bare⟩
section
variable {X:Cx} {pins:List (Addr × Obj)} {σ:St} {H:Hp} {s s':Shared}
theorem Inv.env0 (I:Inv X pins σ H s):Em X.prog X.w X.K X.mg X.base X.A X.stack s H:=
 ⟨I.ok.frames,I.ok.mod,I.bs,Nat.le_trans I.ok.bsz I.sz,I.stack,I.stkFree,I.hok,I.bare⟩
theorem Inv.after {Q:VK}{u:Value}(I:Inv X pins σ H s)(h:CE X.stack X.prog X.w H s Q u s'):EP X pins σ Q u s':=by
 obtain⟨v,H',os,bare,un,hok,r,q⟩:=h;obtain⟨hh,g,d,t,os'⟩:=s';obtain rfl:os'=s.os:=os;exact⟨v,H',I.call (h':=hh) (g':=g) (d':=d) (t':=t) (ch:=[]) un hok bare (fun b z=>absurd z (by simp)),r,q⟩
end
def Zw (sp:Sp)(dvs:List V)(E:XK)(t:TA):TE:=fun σ H Q=>t σ H fun vs H1=>sp (vs++dvs) H1 Q E
def Uo (C:Addr)(m:Str)(sp:Sp)(dvs:List V)(E:XK)(ta:TE)(t:TA):TE:=fun σ H Q=>ta σ H fun x H1=>∃a dx fs,x=.ref a/\H1 a=some (.ins C dx fs)/\fs.lookup m=none/\
 t σ H1 fun vs H2=>sp (x :: (vs++dvs)) H2 Q E
def Zn (C:Addr)(sp:Sp)(dvs:List V)(E:XK)(t:TA):TE:=fun σ H Q=>t σ H fun vs H1=>∀x dx,H1 x=none->H1 dx=none->dx≠x->
 sp (.ref x :: (vs++dvs)) (upd (upd H1 dx (.own x)) x (.ins C dx [])) (fun v H2=>v=.non/\Q (.ref x) H2) E
def aQ (K:Frag)(fd:FuncData)(ps:List Str)(ds:List Value):Prop:=
 ∀(s:Shared) (us:List Value),K.In s.heap->(us++ds).length=ps.length->BindsTo s fd ⟨us,[]⟩ (ps.zip (us++ds))
theorem aQ.all {K:Frag}{fd:FuncData}{ps:List Str}(h:∀us:List Value,us.length=ps.length->bindArgs fd ⟨us,[]⟩=pure (ps.zip us)):aQ K fd ps []:=fun s us _ hl=>by
 rw[List.append_nil] at hl ⊢;exact .of_eq (h us hl)
def kW (CX:CXT)(X:Cx)(E:XK):Prop:=∀(pins:List (Addr × Obj)) (σ:St) (H:Hp) (s:Shared) (e:Value) (s':Shared),Inv X pins σ H s->CX X.stack H s E e s'->X.xe e s'
section
variable {X:Cx} {CX:CXT} {k:Nat} {f C:Addr} {fd:FuncData} {ps:List Str} {sp:Sp} {dvs:List V} {ds:List Value} {E:XK} {x m:Str} {p pos apos:Pos} {e o:Expr} {es:List Expr} {ta:TE} {t:TA}
theorem zJ {pins:List (Addr × Obj)}{σ:St}{H:Hp}{s:Shared}{Q:VK}{us:List Value}{vs:List V}(F:aM X.prog X.w X.K X.mg X.base CX k f fd ps sp)(hr:gS k X.A)(hb:aQ X.K fd ps ds)(hd:bX dvs ds)(hx:kW CX X E)(I:Inv X pins σ H s)(r:bX vs us)(h:sp (vs++dvs) H Q E):wpAny (model X.prog X.w) X.A (call (.ref f) us) (EP X pins σ Q) X.xe s:=by
 have r2:bX (vs++dvs) (us++ds):=r.append hd;have hl:(us++ds).length=ps.length:=by rw[<- r2.length];exact F.len _ _ _ _ h
 refine wpAny_call (codeAny_mono (F.run X.A X.stack s H ⟨us,[]⟩ (us++ds) (vs++dvs) Q E hr I.env0 (hb s us I.kIn hl) r2 h) fun r s' hq=>?_)
 cases r with
 |error e=>exact hx pins σ H s e s' I hq
 |ok fl=>
  cases fl with
  |ret u=>exact I.after hq
  |next=>exact False.elim hq
  |brk=>exact False.elim hq
  |cont=>exact False.elim hq
theorem aG (F:aM X.prog X.w X.K X.mg X.base CX k f fd ps sp)(hr:gS k X.A)(hg:Gl X x)(hm:X.mg x=some (.ref f))(hk:PySem.W.keepIn X.K (.ref f)=true)(hb:aQ X.K fd ps ds)(hd:bX dvs ds)(hx:kW CX X E)(ha:PA X (e :: es) t)(hdb:(x == ("__debug__":Str))=false:=by decide)(he:starEach (e :: es) X.env=(false,eval e X.env) :: starEach es X.env:=by rfl)(hpl:(backTo pos (starEach es X.env)).any (·.1)=false:=by rfl) :
  PE X (.Call (.Name x p) (e :: es) [] pos) (Zw sp dvs E t):=by
 intro pins s σ H Q I h;refine wpAny_Call_Name_kw (zX I hg hm ?_ hdb);refine PySem.W.callWith_K (h₀:=X.base) I.ok.mod.kin hk (thn (ha pos pins s σ H _ I h) fun us s1 ⟨vs,H1,I1,r,q⟩=>⟨I1.kIn,?_⟩) he hpl;exact zJ F hr hb hd hx I1 r q
theorem zP {pl:Sem Bool}(he:PE X o ta)(c:Cls X.K C)(hm:iB X.K C m f)(F:aM X.prog X.w X.K X.mg X.base CX k f fd ps sp)(hr:gS k X.A)(hb:aQ X.K fd ps ds)(hd:bX dvs ds)(hx:kW CX X E)(ha:PA X (e :: es) t)(hst:starEach (e :: es) X.env=(false,eval e X.env) :: starEach es X.env:=by rfl)(hpl:(backTo pos (starEach es X.env)).any (·.1)=false:=by rfl)(ht:eval (.Call (.Attribute o m apos) (e :: es) [] pos) X.env=(do
   let ov <- eval o X.env
   standAt apos.atName
   let (f,first) <- holding [ov] (getMethod ov m pl)
   callWith pos f first (backTo pos (starEach (e :: es) X.env)) (backToKw pos (keywordEach [] X.env))):=by rfl) :
  PE X (.Call (.Attribute o m apos) (e :: es) [] pos) (Uo C m sp dvs E ta t):=by
 intro pins s σ H Q I h;refine PySem.W.methodCall_KW (pl:=pl) (thn (he pins s σ H _ I h) fun u s1 ⟨x,H1,I1,rx,a,dx,fs,ex,ea,l,q⟩=>?_) ht;subst ex;obtain rfl:u=Value.ref a:=rx;refine nI I1 ea c hm l ?_;refine PySem.W.callWith_K (first:=[.ref a]) (h₀:=X.base) I.ok.mod.kin hm.kp (thn (ha pos pins s1 σ H1 _ I1 q) fun us s2 ⟨vs,H2,I2,r,q2⟩=>⟨I2.kIn,?_⟩) hst hpl;exact zJ (us:=.ref a :: us) (vs:=.ref a :: vs) F hr hb hd hx I2 (.cons rfl r) q2
theorem gB {pl:Sem Bool}(he:PE X o ta)(c:Cls X.K C)(hm:iB X.K C m f)(F:aM X.prog X.w X.K X.mg X.base CX k f fd ps sp)(hr:gS k X.A)(hb:aQ X.K fd ps ds)(hd:bX dvs ds)(hx:kW CX X E)(ht:eval (.Call (.Attribute o m apos) [] [] pos) X.env=(do
   let ov <- eval o X.env
   standAt apos.atName
   let (f,first) <- holding [ov] (getMethod ov m pl)
   callWith pos f first (backTo pos (starEach [] X.env)) (backToKw pos (keywordEach [] X.env))):=by rfl) :
  PE X (.Call (.Attribute o m apos) [] [] pos) (Uo C m sp dvs E ta Vt):=by
 intro pins s σ H Q I h;refine PySem.W.methodCall_KW (pl:=pl) (thn (he pins s σ H _ I h) fun u s1 ⟨x,H1,I1,rx,a,dx,fs,ex,ea,l,q⟩=>?_) ht;subst ex;obtain rfl:u=Value.ref a:=rx;refine nI I1 ea c hm l ?_;exact PySem.W.callWith_K0 (first:=[.ref a]) I1.kIn hm.kp (zJ (us:=[.ref a]) (vs:=[.ref a]) F hr hb hd hx I1 (.cons rfl .nil) q)
structure Mk (K:Frag) (C f:Addr):Prop where
 makes:PySem.W.makesIn K C=true
 init:PySem.W.findIn K (.ref C) "__init__"=some (some (.ref f))
 fn:PySem.W.isFn K (.ref f)=true
 kp:PySem.W.keepIn K (.ref C)=true
theorem Mr {pins:List (Addr × Obj)}{σ:St}{H:Hp}{s:Shared}{Q:VK}{us:List Value}{vs:List V}(M:Mk X.K C f)(F:aM X.prog X.w X.K X.mg X.base CX k f fd ps sp)(hr:gS (k+1) X.A)(hb:aQ X.K fd ps ds)(hd:bX dvs ds)(hx:kW CX X E)(I:Inv X pins σ H s)(r:bX vs us)(h:∀x dx,H x=none->H dx=none->dx≠x->sp (.ref x :: (vs++dvs)) (upd (upd H dx (.own x)) x (.ins C dx [])) (fun v H2=>v=.non/\Q (.ref x) H2) E) :
  wpAny (model X.prog X.w) X.A (call (.ref C) us) (EP X pins σ Q) X.xe s:=by
 have hq:=h (s.heap.objs.size+1) s.heap.objs.size (I.hok.fresh (Nat.le_succ _)) (I.hok.fresh (Nat.le_refl _)) (Nat.ne_of_lt (Nat.lt_succ_self _));have I2:=Inv.made (C:=C) I;have r2:bX (V.ref (s.heap.objs.size+1) :: (vs++dvs)) (Value.ref (s.heap.objs.size+1) :: (us++ds)):=.cons rfl (r.append hd);have hl:(Value.ref (s.heap.objs.size+1) :: us++ds).length=ps.length:=by
  have e:=r2.length;rw[F.len _ _ _ _ hq] at e;exact e.symm
 refine wpAny_call (Mp (f:=f) I.kIn M.makes M.init (beq_iff_eq.mp M.fn) (codeAny_mono (F.run _ X.stack _ _ ⟨Value.ref (s.heap.objs.size+1) :: us,[]⟩ (Value.ref (s.heap.objs.size+1) :: (us++ds)) _ _ E (hr.make C us [])
  (I2.env0.make C us []) (hb _ (Value.ref (s.heap.objs.size+1) :: us) I2.kIn hl) r2 hq) fun r s' hq'=>?_))
 cases r with
 |error e=>exact hx pins σ _ _ e s' I2 hq'
 |ok fl=>
  cases fl with
  |ret u=>
   obtain⟨v,H',I3,rv,ev,q3⟩:=I2.after hq';subst ev;exact⟨rv,⟨V.ref (s.heap.objs.size+1),H',I3,rfl,q3⟩⟩
  |next=>exact False.elim hq'
  |brk=>exact False.elim hq'
  |cont=>exact False.elim hq'
theorem oH (M:Mk X.K C f)(F:aM X.prog X.w X.K X.mg X.base CX k f fd ps sp)(hr:gS (k+1) X.A)(hg:Gl X x)(hm:X.mg x=some (.ref C))(hb:aQ X.K fd ps ds)(hd:bX dvs ds)(hx:kW CX X E)(ha:PA X (e :: es) t)(hdb:(x == ("__debug__":Str))=false:=by decide)(he:starEach (e :: es) X.env=(false,eval e X.env) :: starEach es X.env:=by rfl)(hpl:(backTo pos (starEach es X.env)).any (·.1)=false:=by rfl) :
  PE X (.Call (.Name x p) (e :: es) [] pos) (Zn C sp dvs E t):=by
 intro pins s σ H Q I h;refine wpAny_Call_Name_kw (zX I hg hm ?_ hdb);refine PySem.W.callWith_K (h₀:=X.base) I.ok.mod.kin M.kp (thn (ha pos pins s σ H _ I h) fun us s1 ⟨vs,H1,I1,r,q⟩=>⟨I1.kIn,?_⟩) he hpl;exact Mr M F hr hb hd hx I1 r q
end
structure aT (N P:List Str) (sc:Scope):Prop where
 kind:sc.kind=.function
 co:sc.isCoroutine=false
 gen:sc.isGenerator=false
 nd:N.Nodup
 pre:N.take P.length=P
 par:∀x∈P,sc.names.lookup x=some .local\/sc.names.lookup x=some .cell
 nofree:∀y∈sc.names,y.2≠.free
theorem sK9 {N P:List Str}{sc:Scope}(a:sc.kind=.function)(b:sc.isCoroutine=false)(c:sc.isGenerator=false)(d:N.take P.length=P)(e:(decide N.Nodup&&decide (∀x∈P,sc.names.lookup x=some .local\/sc.names.lookup x=some .cell)&&decide (∀y∈sc.names,y.2≠.free))=true):aT N P sc:=by
 rw[Bool.and_eq_true,Bool.and_eq_true] at e
 exact ⟨a,b,c,of_decide_eq_true e.1.1,d,of_decide_eq_true e.1.2,of_decide_eq_true e.2⟩
theorem zl9 (n:Nat)(h:n<=16:=by decide):n<=sizeLine:=Nat.le_trans h (by decide)
abbrev kI9 (K:Frag)(g:Addr):Prop:=PySem.W.keepIn K (.ref g)=true
abbrev mI9 (mg:Str->Option Value)(x:Str)(g:Addr):Prop:=mg x=some (.ref g)
theorem wY {kindOf:Str->Option NameKind}{x:Str}:∀{binds:List (Str × Value)} {m:Str->Option Value},(∀v,(x,v)∉binds)->bindL kindOf binds m x=m x
 | [],_,_=>rfl
 | (n,v) :: r,m,h=>by
  unfold bindL;rw[wY fun w hw=>h w (List.mem_cons_of_mem _ hw)];split
  ·have:x≠n:=by rintro rfl;exact h v List.mem_cons_self
   simp[this]
  ·rfl
theorem xV {kindOf:Str->Option NameKind}{x:Str}:∀{binds:List (Str × Value)} {m:Str->Option Value},(∀v,(x,v)∉binds)->bindC kindOf binds m x=m x
 | [],_,_=>rfl
 | (n,v) :: r,m,h=>by
  unfold bindC;rw[xV fun w hw=>h w (List.mem_cons_of_mem _ hw)];split
  ·rfl
  ·have:x≠n:=by rintro rfl;exact h v List.mem_cons_self
   simp[this]
theorem xQ {kindOf:Str->Option NameKind}{x:Str}{v:Value}:∀{P:List Str} {vs:List Value} {i:Nat} {m:Str->Option Value},P.Nodup->P[i]?=some x->vs[i]?=some v->kindOf x=some .local->
  bindL kindOf (P.zip vs) m x=some v
 | [],_,_,_,_,h,_,_=>by simp at h
 |_ :: _,[],_,_,_,_,h,_=>by simp at h
 |p :: P,w :: vs,0,m,nd,h1,h2,hk=>by
  simp at h1 h2;subst h1;subst h2;show bindL kindOf ((p,w) :: P.zip vs) m p=_;unfold bindL;rw[wY fun v hv=>(List.nodup_cons.mp nd).1 (List.of_mem_zip hv).1,if_pos hk];simp
 |p :: P,w :: vs,i+1,m,nd,h1,h2,hk=>by
  show bindL kindOf ((p,w) :: P.zip vs) m x=_;unfold bindL;exact xQ (i:=i) (List.nodup_cons.mp nd).2 (by simpa using h1) (by simpa using h2) hk
theorem wM {kindOf:Str->Option NameKind}{x:Str}{v:Value}:∀{P:List Str} {vs:List Value} {i:Nat} {m:Str->Option Value},P.Nodup->P[i]?=some x->vs[i]?=some v->kindOf x≠some .local->
  bindC kindOf (P.zip vs) m x=some v
 | [],_,_,_,_,h,_,_=>by simp at h
 |_ :: _,[],_,_,_,_,h,_=>by simp at h
 |p :: P,w :: vs,0,m,nd,h1,h2,hk=>by
  simp at h1 h2;subst h1;subst h2;show bindC kindOf ((p,w) :: P.zip vs) m p=_;unfold bindC;rw[xV fun v hv=>(List.nodup_cons.mp nd).1 (List.of_mem_zip hv).1,if_neg hk];simp
 |p :: P,w :: vs,i+1,m,nd,h1,h2,hk=>by
  show bindC kindOf ((p,w) :: P.zip vs) m x=_;unfold bindC;exact wM (i:=i) (List.nodup_cons.mp nd).2 (by simpa using h1) (by simpa using h2) hk
def start (N:List Str)(vs:List V):St:=vs.map some++List.replicate (N.length - vs.length) none
def Ea (CX:CXT)(P:Program)(w:World)(K:Frag)(mg:Str->Option Value)(base:Heap)(N:List Str)(qual:Str)(scope:Scope)(f:Addr)(cd:Value)(A:Around)(outer:List Env)(s:Shared)(H:Hp)(E:XK):Cx where
 prog:=P
 w:=w
 K:=K
 mg:=mg
 base:=base
 A:=A.deeper (envOfC qual scope s.heap.objs.size f cd)
 N:=N
 s₀:=s
 H₀:=H
 env:=envOfC qual scope s.heap.objs.size f cd
 outer:=outer
 stack:=envOfC qual scope s.heap.objs.size f cd :: outer
 ex:=[]
 calm:=true
 fn:=fun _=>true
 pn:=[]
 xe:=fun e s'=>wpAny (model P w) (A.deeper (envOfC qual scope s.heap.objs.size f cd)) (leaving (envOfC qual scope s.heap.objs.size f cd) e) (fun _ s''=>CX outer H s E e s'') (fun e' s''=>CX outer H s E e' s'') s'
theorem Cc {sc:Scope}{n:Nat}{x:Str}(h:sc.names.lookup x=some .cell):∃c,(cellsFrom n sc.names []).lookup x=some c:=by
 have q:=PySem.W.cellsFrom_some sc.names n [] (.inl h);exact Option.isSome_iff_exists.mp q
theorem Io {CX:CXT}{P:Program}{w:World}{K:Frag}{mg:Str->Option Value}{base:Heap}{N ps:List Str}{qual:Str}{scope:Scope}{f:Addr}{cd:Value}{A:Around}{outer:List Env}{s s1:Shared}{H:Hp}{E:XK}{us:List Value}{vs:List V}(S:aT N ps scope)(hd:A.handled=none)(e0:Em P w K mg base A outer s H)(hl:vs.length=ps.length)(r:bX vs us)(x:InCallC s s.heap.objs.size (bindL (envOfC qual scope s.heap.objs.size f cd).kindOf (ps.zip us) fun _=>none) (cellsFrom (s.heap.objs.size+1) scope.names []) (bindC (envOfC qual scope s.heap.objs.size f cd).kindOf (ps.zip us) fun _=>none) s1) :
  Inv (Ea CX P w K mg base N qual scope f cd A outer s H E) [] (start N vs) H s1:=by
 have hpl:ps.length<=N.length:=by have:=congrArg List.length S.pre;rw[List.length_take] at this;omega
 obtain⟨h1,tk,rfl,hk⟩:=x.done;have noA:∀b:Addr,b∉(Ea CX P w K mg base N qual scope f cd A outer s H E).ex:=fun b z=>absurd (show b∈([]:List Addr) from z) (by simp);refine⟨⟨e0.mod,S.kind,rfl,rfl,Nat.le_refl _,fun y z c h1 h2=>?_,fun y hy=>?_,fun y c _ h=>?_,fun _=>hd,Around.frames_deeper e0.frames,.inr ⟨rfl,rfl⟩,fun b z=>absurd z (noA b),e0.bs,e0.bsz,fun b _ _=>noA b,fun b z=>absurd z (noA b),e0.funs,e0.frf⟩,
  rfl,e0.bare,Un.kept hk,⟨_,x.toInCall.ns,fun i y v h1 h2 h3=>?_⟩,fun y c h=>⟨_,x.cell y c h⟩,e0.hok.fresh (Nat.le_refl _),fun y c h=>?_,fun p hp=>absurd (show p∈([]:List (Addr × Obj)) from hp) (by simp),e0.hok.kept hk,?_⟩
 ·exact name_of_addr x.apart (PySem.mem_of_lookup h1) (PySem.mem_of_lookup h2)
 ·have hy:scope.names.lookup y=some .cell\/scope.names.lookup y=some .free:=hy;rcases hy with hy | hy
  ·exact Cc hy
  ·exact absurd rfl (S.nofree _ (PySem.mem_of_lookup hy))
 ·exact Nat.le_of_lt (x.above y c (PySem.mem_of_lookup h))
 ·have hi:i < vs.length:=by
   unfold start at h2
   by_cases hi:i < vs.length
   ·exact hi
   ·rw[List.getElem?_append_right (by simpa using hi)] at h2;rw[List.getElem?_replicate] at h2;split at h2<;>cases h2
  have ha:vs[i]?=some v:=by
   unfold start at h2;rw[List.getElem?_append_left (by simpa using hi),List.getElem?_map] at h2
   cases e:vs[i]? with
   |none=>rw[e] at h2;cases h2
   |some a=>rw[e] at h2;cases h2;rfl
  obtain⟨u,hu,rv⟩:=r.get ha;have hp:ps[i]?=some y:=by
   rw[<- S.pre,List.getElem?_take_of_lt (by omega)];exact h1
  have ndP:ps.Nodup:=by rw[<- S.pre];exact S.nd.sublist (List.take_sublist _ _)
  refine⟨u,rv,?_⟩;rcases S.par y (List.mem_of_getElem? hp) with k | k
  ·exact .inl ⟨k,xQ ndP hp hu k⟩
  ·obtain⟨c,e⟩:=Cc (n:=s.heap.objs.size+1) k;refine .inr ⟨.inl k,c,e,?_⟩;have q:=x.cell y c e;rw[wM ndP hp hu (by show scope.names.lookup y≠_;rw[k];decide)] at q;exact q
 ·exact e0.hok.fresh (Nat.le_of_lt (x.above y c (PySem.mem_of_lookup h)))
 ·unfold start;show _=N.length;rw[List.length_append,List.length_map,List.length_replicate];omega
theorem Zl {CX:CXT}{P:Program}{w:World}{K:Frag}{mg:Str->Option Value}{base:Heap}{k:Nat}{f:Addr}{name qual:Str}{params:Arguments}{body:List Stmt}{scope:Scope}{dV kV doc pm cdv ct oc:Value}{an od:Option Addr}{osl:Array (Option Value)}{N ps:List Str}{sp:Sp}(lk:K.lookup f=some ⟨oc,od,.func (PySem.W.fnOf name qual params body scope dV kV doc pm an cdv ct),osl⟩)(hcd:PySem.W.codeIn K cdv qual=true)(S:aT N ps scope)(len:∀vs H Q E,sp vs H Q E->vs.length=ps.length)(hbody:∀(A:Around) (outer:List Env) (s:Shared) (H:Hp) (vs:List V) (Q:VK) (E:XK),gS k (A.deeper (envOfC qual scope s.heap.objs.size f cdv))->sp vs H Q E->
   ∃t,PSs (Ea CX P w K mg base N qual scope f cdv A outer s H E) body t/\t { nx:=fun _ H'=>Q .non H',rt:=Q } (start N vs) H) :
  aM P w K mg base CX (k+1) f (PySem.W.fnOf name qual params body scope dV kV doc pm an cdv ct) ps sp:=by
 refine⟨len,fun A outer s H args us vs Q E hr e0 hb r hsp=>?_⟩;have hl:=len _ _ _ _ hsp;have KX:K.In s.heap:=e0.mod.kin.keeps fun b o e=>(e0.bs b o e).1;have lim:s.heap.NoLimit:=e0.mod.nolimit.keeps fun b o e=>(e0.bs b o e).1;have hkind:∀y∈ps.zip us,scope.names.lookup y.1=some .local\/(scope.names.lookup y.1=some .cell/\((cellsFrom (s.heap.objs.size+1) scope.names []).lookup y.1).isSome=true):=fun ⟨n,v⟩ hy=>by
  rcases S.par n (List.of_mem_zip hy).1 with q | q
  ·exact .inl q
  ·exact .inr ⟨q,PySem.W.cellsFrom_some _ _ _ (.inl q)⟩
 refine codeAny_call_function hr.depth (KX _ _ lk) rfl S.co S.gen rfl (PySem.W.codeRec_of KX hcd) (hb _ _ _ _ ?_);refine wpAny_newFunctionEnv_cells S.kind hkind fun env he s1 x=>?_;subst he;refine⟨lim.keeps x.toInCall.keep,codeAny_func ?_⟩;obtain⟨t,ht,hq⟩:=hbody A outer s H vs Q E (hr.deeper _) hsp;have I:Inv (Ea CX P w K mg base N qual scope f cdv A outer s H E) [] (start N vs) H s1:=Io S hr.hd e0 hl r x;refine wpAny_mono (ht [] s1 (start N vs) H _ I hq) (fun fl s' hs=>?_) fun e s' hs=>hs;have fin:∀{σ':St} {H':Hp} {v:V} {u:Value},Inv (Ea CX P w K mg base N qual scope f cdv A outer s H E) [] σ' H' s'->bV v u->Q v H'->CE outer P w H s Q u s':=
  fun {σ' H' v u} J rv q=>⟨v,H',J.os,J.bare,J.base,J.hok,rv,q⟩
 cases fl with
 |ret u=>
  obtain⟨v,σ',H',J,rv,q⟩:=hs;exact fin J rv q
 |next=>
  obtain⟨σ',H',J,q⟩:=hs;exact fin (v:=V.non) (u:=Value.none) J rfl q
 |brk=>
  obtain⟨_,_,_,q⟩:=hs;exact False.elim q
 |cont=>
  obtain⟨_,_,_,q⟩:=hs;exact False.elim q
section
variable {X:Cx} {x:Str} {p pos:Pos} {e:Expr} {es:List Expr} {t:TA} {id T:String} {r:List V->Hp->VK->Prop}
def tCB (r:List V->Hp->VK->Prop)(t:TA):TE:=fun σ H Q=>t σ H fun vs H1=>r vs H1 Q
theorem cL (hc:rV X (.builtin id) r)(hg:Gl X x)(hm:X.mg x=none)(hv:bootBuiltins x=some (.builtin id))(ha:PA X (e :: es) t)(hn:x≠"__name__":=by decide)(hdb:(x == ("__debug__":Str))=false:=by decide)(he:starEach (e :: es) X.env=(false,eval e X.env) :: starEach es X.env:=by rfl)(hpl:(backTo pos (starEach es X.env)).any (·.1)=false:=by rfl):PE X (.Call (.Name x p) (e :: es) [] pos) (tCB r t):=by
 intro pins s σ H Q I h;refine wpAny_Call_Name_kw (kC I hg hm hv ?_ hn hdb);exact PyProof.Rows.callWith_builtin1 (thn (ha pos pins s σ H _ I h) fun us s1 ⟨vs,H1,I1,r1,q1⟩=>hc pins s1 σ H1 vs us Q I1 r1 q1) he hpl
theorem Jn (hc:rV X (.type T) r)(hg:Gl X x)(hm:X.mg x=none)(hv:bootBuiltins x=some (.type T))(ha:PA X (e :: es) t)(hn:x≠"__name__":=by decide)(hdb:(x == ("__debug__":Str))=false:=by decide)(he:starEach (e :: es) X.env=(false,eval e X.env) :: starEach es X.env:=by rfl)(hpl:(backTo pos (starEach es X.env)).any (·.1)=false:=by rfl):PE X (.Call (.Name x p) (e :: es) [] pos) (tCB r t):=by
 intro pins s σ H Q I h;refine wpAny_Call_Name_kw (kC I hg hm hv ?_ hn hdb);exact PyProof.Rows.callWith_type1 (thn (ha pos pins s σ H _ I h) fun us s1 ⟨vs,H1,I1,r1,q1⟩=>hc pins s1 σ H1 vs us Q I1 r1 q1) he hpl
end
end L2
namespace HT
open PySem PyProof.Rows
section
variable {prog:Program} {w:World} {A:Around} {E:Value->Shared->Prop} {s:Shared}
def sIx (n d:Nat):Option Int->Nat
 |none=>d
 |some v=>if v < 0 then (v+(n:Int)).toNat else min v.toNat n
end
end HT
namespace L2
open PySem PySem.Spec PyProof.Rows
abbrev TO:=St->Hp->(Option Int->Hp->Prop)->Prop
def PO (X:Cx)(e:Option Expr)(t:TO):Prop:=
 ∀(pins:List (Addr × Obj)) (s:Shared) (σ:St) (H:Hp) (Q:Option Int->Hp->Prop),Inv X pins σ H s->t σ H Q->
  wpAny (model X.prog X.w) X.A (evalPart e X.env) (fun u s'=>∃o H',Inv X pins σ H' s'/\IsPart u o/\Q o H') X.xe s
def Tg:TO:=fun _ H Q=>Q none H
def qa0 (t:TE):TO:=fun σ H Q=>t σ H fun x H1=>∃i,x=.int i/\Q (some i) H1
section
variable {X:Cx} {e:Expr} {te:TE} {lo hi:Option Expr} {tl th:TO} {pos p2:Pos}
theorem oI:PO X none Tg:=by
 intro pins s σ H Q I h;rw[evalPart_none];exact wpAny_pure ⟨none,H,I,.none,h⟩
theorem iE (h:PE X e te):PO X (some e) (qa0 te):=by
 intro pins s σ H Q I hw;rw[evalPart_some];refine thn (h pins s σ H _ I hw) fun u s1 ⟨x,H1,I1,r1,q1⟩=>?_;obtain⟨i,rfl,q⟩:=q1;obtain⟨t,rfl⟩:=r1;exact⟨some i,H1,I1,.int i t,q⟩
def SlR (X:Cx)(r:V->Option Int->Option Int->Hp->VK->Prop):Prop:=
 ∀(pins:List (Addr × Obj)) (s:Shared) (σ:St) (H:Hp) (x:V) (v vl vu:Value) (lo hi:Option Int) (sl:Addr) (Q:VK),Inv X pins σ H s->bV x v->s.heap.IsSliceOf sl vl vu .none->IsPart vl lo->IsPart vu hi->r x lo hi H Q->
  ∃T id,typeLookup (.type T) "__getitem__"=pure (some (.builtin id))/\s.TypeIs v T/\wpAny (model X.prog X.w) X.A (getItem v (.ref sl)) (EP X pins σ Q) X.xe s
def tSl (r:V->Option Int->Option Int->Hp->VK->Prop)(te:TE)(tl th:TO):TE:=fun σ H Q=>te σ H fun x H1=>tl σ H1 fun l H2=>th σ H2 fun u H3=>r x l u H3 Q
theorem iS {r:V->Option Int->Option Int->Hp->VK->Prop}(hr:SlR X r)(he:PE X e te)(hl:PO X lo tl)(hu:PO X hi th):PE X (.Subscript e (.Slice lo hi none p2) pos) (tSl r te tl th):=by
 intro pins s σ H Q I h;refine Subscript_ (thn (he pins s σ H _ I h) fun v s1 ⟨x,H1,I1,r1,q1⟩=>?_);refine wpAny_Slice (thn (hl pins s1 σ H1 _ I1 q1) fun vl s2 ⟨l,H2,I2,pl,q2⟩=>thn (hu pins s2 σ H2 _ I2 q2) fun vu s3 ⟨u,H3,I3,pu,q3⟩=>?_);rw[evalPart_none];refine wpAny_pure ?_;have I4:Inv X pins σ H3 { s3 with heap:=s3.heap.push { cls:=.type "slice",data:=.fields #[vl,vu,.none] } }:=I3.kept (t':=s3.toks) fun b ob q=>Heap.get?_push_of_some _ q;obtain⟨T,id,hT,ht,hg⟩:=hr pins { s3 with heap:=s3.heap.push { cls:=.type "slice",data:=.fields #[vl,vu,.none] } } σ H3 x v vl vu l u s3.heap.objs.size Q I4 r1 (Heap.IsSliceOf.new ..) pl pu q3;show wpAny (model X.prog X.w) X.A (subscriptTail e (.Slice lo hi none p2) v (.ref s3.heap.objs.size)) (EP X pins σ Q) X.xe { s3 with heap:=s3.heap.push { cls:=.type "slice",data:=.fields #[vl,vu,.none] } };exact tail_any (ops:=[.ref s3.heap.objs.size,v]) ht hT hg (by with_unfolding_all rfl)
def mV (xs:List V)(lo hi:Option Int):List V:=(xs.drop (HT.sIx xs.length 0 lo)).take (HT.sIx xs.length xs.length hi - HT.sIx xs.length 0 lo)
theorem Ba (xs:List V)(lo hi:Option Int):(mV xs lo hi).length<=xs.length:=by
 unfold mV;exact Nat.le_trans (List.length_take_le' _ _) (by rw[List.length_drop];exact Nat.sub_le _ _)
end
def ixN (n:Nat)(i:Int):Option Nat:=if 0<=i then (if i < n then some i.toNat else none) else if -(n:Int)<=i then some (i+n).toNat else none
def atI {α:Type}(xs:List α)(i:Int):Option α:=(ixN xs.length i).bind fun j=>xs[j]?
theorem Fn {n:Nat}{i:Int}{j:Nat}(h:ixN n i=some j):seqIndex? i n=some j/\j < n/\-(n:Int)<=i/\i < n:=by
 unfold ixN at h
 by_cases h0:0<=i
 ·rw[if_pos h0] at h
  by_cases h1:i < n
  ·rw[if_pos h1] at h;have e:i.toNat=j:=Option.some.inj h;exact⟨by rw[seqIndex_of h0 h1,e],by omega,by omega,h1⟩
  ·rw[if_neg h1] at h;cases h
 ·rw[if_neg h0] at h
  by_cases h1:-(n:Int)<=i
  ·rw[if_pos h1] at h;have e:(i+n).toNat=j:=Option.some.inj h;exact⟨by rw[seqIndex_neg (by omega) h1,e],by omega,h1,by omega⟩
  ·rw[if_neg h1] at h;cases h
theorem Gk {α:Type}{xs:List α}{i:Int}{v:α}(h:atI xs i=some v):∃j,seqIndex? i xs.length=some j/\xs[j]?=some v/\j < xs.length/\-(xs.length:Int)<=i/\i < xs.length:=by
 unfold atI at h
 cases e:ixN xs.length i with
 |none=>rw[e] at h;cases h
 |some j=>
  rw[e] at h;obtain⟨h1,h2,h3,h4⟩:=Fn e;exact⟨j,h1,h,h2,h3,h4⟩
theorem cI {α:Type}{xs:List α}{j:Nat}{v:α}(h:xs[j]?=some v):atI xs (j:Int)=some v:=by
 have hj:j < xs.length:=(List.getElem?_eq_some_iff.mp h).1;have e:ixN xs.length (j:Int)=some j:=by
  unfold ixN;rw[if_pos (by omega),if_pos (by omega)];simp
 unfold atI;rw[e];exact h
def Qa (b:Expr):Prop:=∀o i,subscripted b false o i=operate [o,i] (getItem o i)
def IxR (X:Cx)(r:R2):Prop:=
 ∀(value slice:Expr) (pins:List (Addr × Obj)) (s:Shared) (σ:St) (H:Hp) (x y:V) (v u:Value) (Q:VK),Inv X pins σ H s->bV x v->bV y u->r x y H Q->
  subscripted slice false v u=operate [v,u] (getItem v u)->wpAny (model X.prog X.w) X.A (subscriptTail value slice v u) (EP X pins σ Q) X.xe s
def MtR (X:Cx)(id:String)(r:V->List V->Hp->VK->Prop):Prop:=
 ∀(pins:List (Addr × Obj)) (s:Shared) (σ:St) (H:Hp) (x:V) (xs:List V) (v:Value) (us:List Value) (Q:VK),Inv X pins σ H s->bV x v->bX xs us->r x xs H Q->
  wpAny (model X.prog X.w) X.A (call (.builtin id) (v :: us)) (EP X pins σ Q) X.xe s
section
variable {X:Cx} {a b:Expr} {ta tb:TE} {pos:Pos}
theorem aU {r:R2}(hr:IxR X r)(ha:PE X a ta)(hb:PE X b tb)(hs:Qa b):PE X (.Subscript a b pos) (tOp r ta tb):=by
 intro pins s σ H Q I h;exact Subscript_ (Wc ha hb I h fun v u s2 x y H2 I2 rx ry q=>hr a b pins s2 σ H2 x y v u Q I2 rx ry q (hs _ _))
def qa2 (K:Frag):R2:=fun x y H Q=>∃p xs i v,x=.ref p/\y=.int i/\SqL K H p xs/\atI xs i=some v/\Q v H
def Qt (K:Frag):R2:=fun x y H Q=>∃p xs i v,x=.ref p/\y=.int i/\SqT K H p xs/\atI xs i=some v/\Q v H
theorem bY:IxR X (qa2 X.K):=by
 intro value slice pins s σ H x y v u Q I rx ry h hs;obtain⟨p,xs,i,z,rfl,rfl,hq,he,q⟩:=h
 cases rx
 obtain⟨t,rfl⟩:=ry;obtain⟨its,r,pl,hz⟩:=I.list hq;obtain⟨j,h1,h2,h3,h4,h5⟩:=Gk he;obtain⟨w,ew,rw'⟩:=r.get h2;have hl:=r.length;have hn:=yS;have fin:EP X pins σ Q w s:=⟨z,H,I,rw',q⟩
 by_cases h0:0<=i
 ·have hj:i.toNat=j:=by
   rw[seqIndex_of h0 h5] at h1;exact Option.some.inj h1
  exact item_listR pl.isList h0 (by omega) (by rw[hj];simpa using ew) fin hs
 ·have hj:(i+(its.toArray.size:Int)).toNat=j:=by
   rw[seqIndex_neg (by omega) h4] at h1;rw[List.size_toArray,<- hl];exact Option.some.inj h1
  exact subscriptTail_builtinR (x:=w) pl.isList.typeIs slot_list_getitem.lookup
   (wpAny_getItem_list_neg (Q:=fun r s'=>r=w/\EP X pins σ Q r s') pl.isList (by omega) (by rw[List.size_toArray]<;>omega) (by omega) (by rw[hj];simpa using ew) ⟨rfl,fin⟩) hs
theorem aX:IxR X (Qt X.K):=by
 intro value slice pins s σ H x y v u Q I rx ry h hs;obtain⟨p,xs,i,z,rfl,rfl,hq,he,q⟩:=h
 cases rx
 obtain⟨t,rfl⟩:=ry;obtain⟨its,r,pl,hz⟩:=I.tuple hq;obtain⟨j,h1,h2,h3,h4,h5⟩:=Gk he;obtain⟨w,ew,rw'⟩:=r.get h2;have hl:=r.length;have hn:=yS;have fin:EP X pins σ Q w s:=⟨z,H,I,rw',q⟩
 exact subscriptTail_builtinR (x:=w) pl.typeIs slot_tuple_getitem.lookup
  (getItem_tuple (j:=j) (Q:=fun r s'=>r=w/\EP X pins σ Q r s') pl (by omega) (by omega) (by rw[List.size_toArray,<- hl];exact h1) (by simpa using ew) ⟨rfl,fin⟩) hs
theorem Dw (its:List Value)(n j:Nat)(u:Value):Obj.mapSeq (·.setIfInBounds j u) { cls:=.type "list",data:=.seq its.toArray n }={ cls:=.type "list",data:=.seq (its.set j u).toArray n }:=by
 simp[Obj.mapSeq]
theorem Inv.lst {pins:List (Addr × Obj)}{σ:St}{H:Hp}{s:Shared}{p:Addr}{xs:List V}(I:Inv X pins σ H s)(h:H p=some (.lst xs)) :
  ∃(its:List Value) (n:Nat),bX xs its/\s.heap.get? p=some { cls:=.type "list",data:=.seq its.toArray n }/\xs.length<=sizeLine:=by
 obtain⟨z,its,n,r,e⟩:=I.hok p _ h;exact⟨its,n,r,e,z⟩
theorem Inv.lstUpd {pins:List (Addr × Obj)}{σ:St}{H:Hp}{s:Shared}{p:Addr}{xs ys:List V}{its its':List Value}{n n':Nat}{f:Obj->Obj}(I:Inv X pins σ H s)(h:H p=some (.lst xs))(ho:s.heap.get? p=some { cls:=.type "list",data:=.seq its.toArray n })(hf:f { cls:=.type "list",data:=.seq its.toArray n }={ cls:=.type "list",data:=.seq its'.toArray n' })(r:bX ys its')(hz:ys.length<=sizeLine)(t:Nat) :
  Inv X pins σ (upd H p (.lst ys)) { s with heap:=s.heap.update p f,toks:=t }:=by
 have e:(s.heap.update p f).get? p=some { cls:=.type "list",data:=.seq its'.toArray n' }:=by
  rw[Heap.get?_update_self f ho (by rw[hf]<;>rfl),hf]
 refine I.write (x:=p) (e:=p) (by rw[h];trivial) (.inl rfl) (fun b u hb q=>(Heap.get?_update_other _ _ (Ne.symm hb)).trans q) ⟨_,e⟩ ?_;exact⟨hz,its',n',r,e⟩
def Yg:V->V->V->Hp->(Hp->Prop)->Prop:=fun o i v H Q=>∃p xs k j,o=.ref p/\i=.int k/\H p=some (.lst xs)/\ixN xs.length k=some j/\Q (upd H p (.lst (xs.set j v)))
theorem lM:Ys X Yg:=by
 intro pins s σ H o i v ov iv u Q I ro ri rv h;obtain⟨p,xs,k,j,rfl,rfl,hp,hj,q⟩:=h
 cases ro
 obtain⟨t,rfl⟩:=ri;obtain⟨its,n,r,ho,hz⟩:=I.lst hp;obtain⟨h1,h2,h3,h4⟩:=Fn hj;have hl:=r.length;have hn:=yS;have I':Inv X pins σ (upd H p (.lst (xs.set j v))) { s with heap:=s.heap.update p (Obj.mapSeq (·.setIfInBounds j u)) }:=
  I.lstUpd hp ho (Dw its n j u) (r.set rv j) (by rw[List.length_set];exact hz) s.toks
 by_cases h0:0<=k
 ·have hk:k.toNat=j:=by
   rw[seqIndex_of h0 h4] at h1;exact Option.some.inj h1
  exact PySem.W.ki_setAt ho h0 (by omega) (by rw[List.size_toArray,<- hl];exact h4) (by rw[hk];exact⟨_,I',q⟩)
 ·have hk:(k+(its.toArray.size:Int)).toNat=j:=by
   rw[seqIndex_neg (by omega) h3] at h1;rw[List.size_toArray,<- hl];exact Option.some.inj h1
  exact PySem.W.ki_setBack ho (by omega) (by rw[List.size_toArray,<- hl];exact h3) (by omega) (by rw[hk];exact⟨_,I',q⟩)
theorem sbA (lo hi:Option Int)(n:Nat):(sliceBounds lo hi none n).1=((HT.sIx n 0 lo:Nat):Int):=by
 cases lo with
 |none=>simp[sliceBounds,HT.sIx]
 |some i=>
  simp only[sliceBounds,HT.sIx,Option.getD_none,show (1:Int) > 0 by decide,if_true]
  by_cases h:i < 0
  ·simp only[h,if_true]<;>omega
  ·simp only[h,if_false]<;>omega
theorem zS (lo hi:Option Int)(n:Nat):(sliceBounds lo hi none n).1=((HT.sIx n 0 lo:Nat):Int)/\(sliceBounds lo hi none n).2.1=((HT.sIx n n hi:Nat):Int)/\(sliceBounds lo hi none n).2.2=1:=by
 refine⟨sbA lo hi n,?_,rfl⟩
 cases hi with
 |none=>simp[sliceBounds,HT.sIx]
 |some i=>exact sbA (some i) lo n
theorem wC (its:List Value)(lo hi:Option Int):slicePick its.toArray lo hi none=((its.drop (HT.sIx its.length 0 lo)).take (HT.sIx its.length its.length hi - HT.sIx its.length 0 lo)).toArray:=by
 obtain⟨h1,h2,h3⟩:=zS lo hi its.toArray.size;unfold slicePick;rw[h1,h2,h3];simp only[sliceRange_one,pick_run,List.size_toArray]<;>rfl
def Yk (K:Frag):V->Option Int->Option Int->Hp->VK->Prop:=fun x lo hi H Q=>∃a xs,x=.ref a/\SqL K H a xs/\∀p,H p=none->Q (.ref p) (upd H p (.lst (mV xs lo hi)))
theorem jZ:SlR X (Yk X.K):=by
 intro pins s σ H x v vl vu lo hi sl Q I rx hs pl pu h;obtain⟨a,xs,rfl,hx,q⟩:=h
 cases rx
 obtain⟨its,r,ht,hz⟩:=I.list hx;have hlen:=r.length;refine⟨"list",_,slot_list_getitem.lookup,ht.isList.typeIs,?_⟩;refine wpAny_getItem_list_slice ht.isList hs pl pu .none (by simp) ?_ (by rw[List.size_toArray]<;>omega);rw[wC,<- hlen];refine⟨.ref s.heap.objs.size,_,I.laid (t':=s.toks) (o:=.lst (mV xs lo hi)) (fun b ob q=>Heap.get?_push_of_some _ q) (Nat.le_refl _) ?_,rfl,q _ (I.hok.fresh (Nat.le_refl _))⟩;exact⟨Nat.le_trans (Ba xs lo hi) hz,_,0,(r.drop (HT.sIx xs.length 0 lo)).take (HT.sIx xs.length xs.length hi - HT.sIx xs.length 0 lo),Heap.get?_push_size _ rfl⟩
def mX:V->Bool
 | .non=>true
 | .bl _=>true
 | .int _=>true
 | .str _=>true
 |_=>false
def eqV:V->V->Bool
 | .non,.non=>true
 | .bl a,.bl b=>a == b
 | .bl a,.int b=>(if a then 1 else 0) == b
 | .int a,.bl b=>a == (if b then 1 else 0)
 | .int a,.int b=>a == b
 | .str a,.str b=>a == b
 |_,_=>false
theorem Vb {A:Around}{s:Shared}{y x:V}{u v:Value}(ry:bV y u)(rx:bV x v)(fy:mX y=true)(fx:mX x=true):SeqAt.EqAt A s u v (eqV y x):=by
 cases y with
 |non=>
  cases ry
  cases x with
  |non=>cases rx;exact SeqAt.EqAt.same _
  |bl b=>cases rx;exact SeqAt.EqAt.none_bool b
  |int b=>obtain⟨t,rfl⟩:=rx;exact SeqAt.EqAt.none_int b t
  |str b=>obtain⟨t,rfl⟩:=rx;exact SeqAt.EqAt.none_str b t
  |_=>exact absurd (show false=true from fx) Bool.false_ne_true
 |bl a=>
  cases ry
  cases x with
  |non=>cases rx;exact SeqAt.EqAt.bool_none a
  |bl b=>cases rx;exact SeqAt.EqAt.bool_bool a b
  |int b=>obtain⟨t,rfl⟩:=rx;exact SeqAt.EqAt.bool_int a b t
  |str b=>obtain⟨t,rfl⟩:=rx;exact SeqAt.EqAt.bool_str a b t
  |_=>exact absurd (show false=true from fx) Bool.false_ne_true
 |int a=>
  obtain⟨t',rfl⟩:=ry
  cases x with
  |non=>cases rx;exact SeqAt.EqAt.int_none a t'
  |bl b=>cases rx;exact SeqAt.EqAt.int_bool a t' b
  |int b=>obtain⟨t,rfl⟩:=rx;exact SeqAt.EqAt.int_int a t' b t
  |str b=>obtain⟨t,rfl⟩:=rx;exact SeqAt.EqAt.int_str a t' b t
  |_=>exact absurd (show false=true from fx) Bool.false_ne_true
 |str a=>
  obtain⟨t',rfl⟩:=ry
  cases x with
  |non=>cases rx;exact SeqAt.EqAt.str_none a t'
  |bl b=>cases rx;exact SeqAt.EqAt.str_bool a t' b
  |int b=>obtain⟨t,rfl⟩:=rx;exact SeqAt.EqAt.str_int a t' b t
  |str b=>obtain⟨t,rfl⟩:=rx;exact SeqAt.EqAt.str_str a t' b t
  |_=>exact absurd (show false=true from fx) Bool.false_ne_true
 |_=>exact absurd (show false=true from fy) Bool.false_ne_true
def eqU (x:V)(u:Value):Bool:=match u with
 | .none=>eqV .non x
 | .bool b=>eqV (.bl b) x
 | .int i _=>eqV (.int i) x
 | .str z _=>eqV (.str z) x
 |_=>false
theorem Mn {x y:V}{u:Value}(r:bV y u)(f:mX y=true):eqU x u=eqV y x:=by
 cases y with
 |non=>cases r;rfl
 |bl b=>cases r;rfl
 |int i=>obtain⟨t,rfl⟩:=r;rfl
 |str z=>obtain⟨t,rfl⟩:=r;rfl
 |_=>exact absurd (show false=true from f) Bool.false_ne_true
theorem zU {x:V}:∀{xs:List V} {us:List Value},bX xs us->xs.all mX=true->us.any (eqU x)=xs.any fun y=>eqV y x
 |_,_,.nil,_=>rfl
 |y :: xs,u :: us,.cons r t,f=>by
  rw[List.all_cons,Bool.and_eq_true] at f;rw[List.any_cons,List.any_cons,Mn r f.1,zU t f.2]
theorem vY {A:Around}{s:Shared}{x:V}{v:Value}(rx:bV x v)(fx:mX x=true):∀{xs:List V} {us:List Value},bX xs us->xs.all mX=true->∀u∈us,SeqAt.EqAt A s u v (eqU x u)
 |_,_,.nil,_=>fun u hu=>by cases hu
 |y :: xs,u :: us,.cons r t,f=>fun u' hu=>by
  rw[List.all_cons,Bool.and_eq_true] at f;rcases List.mem_cons.mp hu with rfl | hu
  ·rw[Mn r f.1];exact Vb r rx f.1 fx
  ·exact vY rx fx t f.2 u' hu
def inV (x:V)(xs:List V):Bool:=xs.any fun y=>eqV y x
def rIn (K:Frag)(neg:Bool):R2:=fun x y H Q=>∃p xs,y=.ref p/\(SqL K H p xs\/SqT K H p xs)/\mX x=true/\xs.all mX=true/\Q (.bl (if neg then !inV x xs else inV x xs)) H
theorem Im:OpR X (compareOp .In) (rIn X.K false):=by
 intro pins s σ H x y v u Q I rx ry h;obtain⟨p,xs,rfl,hq,fx,fs,q⟩:=h
 cases ry
 rcases hq with hq | hq
 ·obtain⟨its,r,pl,hz⟩:=I.list hq;refine SeqAt.in_listAt (eqU x) pl.isList (fun w hw=>vY rx fx r fs w (by simpa using hw)) ⟨.bl _,H,I,rfl,?_⟩;rw[show its.toArray.any (eqU x)=its.any (eqU x) by simp,zU r fs];exact q
 ·obtain⟨its,r,pl,hz⟩:=I.tuple hq;refine SeqAt.in_tupleAt (eqU x) pl (fun w hw=>vY rx fx r fs w (by simpa using hw)) ⟨.bl _,H,I,rfl,?_⟩;rw[show its.toArray.any (eqU x)=its.any (eqU x) by simp,zU r fs];exact q
theorem bS:rV X (.builtin "len") (fun xs H Q=>∃p ys,xs=[.ref p]/\(SqL X.K H p ys\/SqT X.K H p ys)/\Q (.int ys.length) H):=by
 intro pins s σ H xs us Q I r h;obtain⟨p,ys,rfl,hq,q⟩:=h;obtain⟨u,rfl,rx⟩:=yJ r
 cases rx
 have hn:=yS;rcases hq with hq | hq
 ·obtain⟨its,r',pl,hz⟩:=I.list hq;have hlen:=r'.length;exact Calls.call_len_list pl.isList (by simp only[List.size_toArray]<;>omega) ⟨.int ys.length,H,I.tok _,⟨s.toks+1,by rw[List.size_toArray,hlen]⟩,q⟩
 ·obtain⟨its,r',pl,hz⟩:=I.tuple hq;have hlen:=r'.length;exact len_tuple pl (by simp only[List.size_toArray]<;>omega) ⟨.int ys.length,H,I.tok _,⟨s.toks+1,by rw[List.size_toArray,hlen]⟩,q⟩
theorem yQ:rV X (.type "list") (fun xs H Q=>∃p ys,xs=[.ref p]/\(SqL X.K H p ys\/SqT X.K H p ys)/\∀l,H l=none->Q (.ref l) (upd H l (.lst ys))):=by
 intro pins s σ H xs us Q I r h;obtain⟨p,ys,rfl,hq,q⟩:=h;obtain⟨u,rfl,rx⟩:=yJ r
 cases rx
 have fin:∀(its:List Value),bX ys its->ys.length<=sizeLine->∀(h':Heap) (c':Nat),(∀b o',s.heap.get? b=some o'->h'.get? b=some o')->
   h'.get? s.heap.objs.size=some { cls:=.type "list",dict:=none,data:=.seq its.toArray c',slots:=#[] }->EP X pins σ Q (.ref s.heap.objs.size) { s with heap:=h' }:=fun its r' hz h' c' kp e=>
  ⟨.ref s.heap.objs.size,_,I.laid (t':=s.toks) kp (Nat.le_refl _) (show dR X.prog X.w _ h' _ (.lst ys) from ⟨hz,its,c',r',e⟩),rfl,q _ (I.hok.fresh (Nat.le_refl _))⟩
 rcases hq with hq | hq
 ·obtain⟨its,r',pl,hz⟩:=I.list hq;have hlen:=r'.length;obtain⟨o,ho,hc,n,hd⟩:=pl.isList;exact call_list_seq p (.inl rfl) ho hc hd (fun h' c' kp e=>fin its r' hz h' c' kp e) (by simp only[List.size_toArray]<;>omega)
 ·obtain⟨its,r',pl,hz⟩:=I.tuple hq;have hlen:=r'.length;obtain⟨o,ho,hc,n,hd⟩:=pl;exact call_list_seq p (.inr rfl) ho hc hd (fun h' c' kp e=>fin its r' hz h' c' kp e) (by simp only[List.size_toArray]<;>omega)
def tyV (K:Frag)(T:String)(x:V)(H:Hp):Prop:=match x with
 | .str _=>T = "str"
 | .int _=>T = "int"
 | .ref p=>(T = "list"/\∃xs,SqL K H p xs)\/(T = "tuple"/\∃o,K.lookup p=some o/\o.cls=.type "tuple"/\o.dict=none)\/
   (T = "dict"/\((∃kvs,H p=some (.dK kvs))\/∃kvs,H p=some (.dT kvs)))\/(T = "set"/\∃S n,H p=some (.set S n))
 |_=>False
theorem Ma {pins:List (Addr × Obj)}{σ:St}{H:Hp}{s:Shared}{T:String}{x:V}{v:Value}(I:Inv X pins σ H s)(r:bV x v)(ty:tyV X.K T x H) :
  s.TypeIs v T/\∀a,v=.ref a->∃ob,s.heap.get? a=some ob/\ob.dict=none:=by
 cases x with
 |str z=>
  obtain⟨t,rfl⟩:=r
  cases (show T = "str" from ty)
  exact⟨typeIs_str s z t,fun _ e=>nomatch e⟩
 |int i=>
  obtain⟨t,rfl⟩:=r
  cases (show T = "int" from ty)
  exact⟨typeIs_int s i t,fun _ e=>nomatch e⟩
 |ref p=>
  cases r
  rcases ty with ⟨rfl,xs,hq⟩ | ⟨rfl,o,hk,hc,hd⟩ | ⟨rfl,hk⟩ | ⟨rfl,S,n,hk⟩
  ·obtain⟨its,_,pl,_⟩:=I.list hq;refine⟨pl.isList.typeIs,fun a e=>?_⟩
   cases e
   obtain⟨o,n,e,c,hd,_⟩:=pl;exact⟨o,e,hd⟩
  ·refine⟨⟨o,I.kIn p o hk,hc⟩,fun a e=>?_⟩
   cases e
   exact⟨o,I.kIn _ o hk,hd⟩
  ·have z:∃o,s.heap.get? p=some o/\o.ExactDict:=by
    rcases hk with ⟨kvs,hk⟩ | ⟨kvs,hk⟩
    ·obtain⟨_,_,_,_,o,_,_,e,ex,_⟩:=I.hok p _ hk;exact⟨o,e,ex⟩
    ·obtain⟨_,_,_,_,o,_,_,e,ex,_⟩:=I.hok p _ hk;exact⟨o,e,ex⟩
   obtain⟨o,e,ex⟩:=z;refine⟨⟨o,e,ex.1⟩,fun a e2=>?_⟩
   cases e2
   exact⟨o,e,ex.2.1⟩
  ·obtain⟨o,_,_,_,e,ex,_⟩:=I.hok p _ hk;refine⟨⟨o,e,ex.1⟩,fun a e2=>?_⟩
   cases e2
   exact⟨o,e,ex.2.1⟩
 |_=>exact False.elim ty
def qd4 (K:Frag)(T:String)(r:V->List V->Hp->VK->Prop)(to:TE):TE:=fun σ H Q=>to σ H fun x H1=>tyV K T x H1/\r x [] H1 Q
def tBM (K:Frag)(T:String)(r:V->List V->Hp->VK->Prop)(to:TE)(t:TA):TE:=fun σ H Q=>to σ H fun x H1=>tyV K T x H1/\t σ H1 fun xs H2=>r x xs H2 Q
variable {o e:Expr} {es:List Expr} {to:TE} {t:TA} {name:Str} {apos cpos:Pos} {T id:String} {r:V->List V->Hp->VK->Prop}
theorem Uv (pa:PlainAttrs T)(slot:Slot T name id)(hty:typeOf (.builtin id)=pure (.type "method_descriptor"))(hm:MtR X id r)(ho:PE X o to)(hbase:attributeBase o name X.env (eval o X.env)=eval o X.env:=by rfl)(hline:(apos.endLine == cpos.line)=true:=by rfl):PE X (.Call (.Attribute o name apos) [] [] cpos) (qd4 X.K T r to):=by
 intro pins s σ H Q I h;refine wpAny_Call_method0_late hbase hline (thn (ho pins s σ H _ I h) fun v s1 ⟨x,H1,I1,r1,ty,q1⟩=>?_);obtain⟨h1,h2⟩:=Ma I1 r1 ty;exact⟨T,id,pa,slot,hty,h1,h2,Calls.callWith_builtin rfl (PySem.evalArgs_none (hm pins s1 σ H1 x [] v [] Q I1 r1 .nil q1))⟩
theorem vT (pa:PlainAttrs T)(slot:Slot T name id)(hty:typeOf (.builtin id)=pure (.type "method_descriptor"))(hm:MtR X id r)(ho:PE X o to)(ha:PA X (e :: es) t)(hbase:attributeBase o name X.env (eval o X.env)=eval o X.env:=by rfl)(hfew:((backTo cpos (starEach (e :: es) X.env)).all (fun x=>!x.1) && (backToKw cpos (keywordEach [] X.env)).all (fun x=>x.1.isSome)
   && decide ((e :: es).length+([]:List Keyword).length+(if ([]:List Keyword).isEmpty then 0 else 1) < 30))=true:=by rfl)(hline:(apos.endLine == cpos.line)=true:=by rfl)(hs:starEach (e :: es) X.env=(false,eval e X.env) :: starEach es X.env:=by rfl)(hplain:(backTo cpos (starEach es X.env)).any (·.1)=false:=by rfl) :
  PE X (.Call (.Attribute o name apos) (e :: es) [] cpos) (tBM X.K T r to t):=by
 intro pins s σ H Q I h;refine wpAny_Call_method_late hbase hfew hline rfl (thn (ho pins s σ H _ I h) fun v s1 ⟨x,H1,I1,r1,ty,q1⟩=>?_);obtain⟨h1,h2⟩:=Ma I1 r1 ty;refine⟨T,id,pa,slot,hty,h1,h2,?_⟩;have hA:=ha cpos pins s1 σ H1 _ I1 q1;rw[hs] at hA ⊢;refine Calls.callWith_builtin (by show (false || (backTo cpos (starEach es X.env)).any (·.1))=false;rw[hplain]<;>rfl) (Calls.evalArgs_plain ?_);exact thn hA fun us s2 ⟨vs,H2,I2,r2,q2⟩=>hm pins s2 σ H2 x vs v us Q I2 r1 r2 q2
end
def MtM (X:Cx)(id:String)(r:V->List V->Hp->VK->Prop):Prop:=
 ∀(pins:List (Addr × Obj)) (s:Shared) (σ:St) (H:Hp) (x:V) (xs:List V) (v:Value) (us:List Value) (Q:VK),Inv X pins σ H s->bV x v->bX xs us->r x xs H Q->
  wpAny (model X.prog X.w) X.A (call (.builtin id) (v :: us)) (EP X pins σ Q) X.xe s
theorem bX.one:∀{x:V} {us:List Value},bX [x] us->∃u,us=[u]/\bV x u
 |_,_,.cons r .nil=>⟨_,rfl,r⟩
theorem bX.zero:∀{us:List Value},bX [] us->us=[]
 |_,.nil=>rfl
theorem bX.dropLast {xs:List V}{us:List Value}(h:bX xs us):bX xs.dropLast us.dropLast:=by
 induction h with
 |nil=>exact .nil
 |cons r t ih=>
  cases t with
  |nil=>exact .nil
  |cons q t'=>exact .cons r ih
theorem bX.rep {xs:List V}{us:List Value}(h:bX xs us):∀k:Nat,bX (List.replicate k xs).flatten (List.replicate k us).flatten
 |0=>.nil
 |k+1=>by
  rw[List.replicate_succ,List.replicate_succ,List.flatten_cons,List.flatten_cons];exact bX.append h (bX.rep h k)
theorem Dv {α:Type}(l:List α):l.eraseIdx (l.length - 1)=l.dropLast:=by
 induction l with
 |nil=>rfl
 |cons a r ih=>
  cases r with
  |nil=>rfl
  |cons b r=>
   have e:(a :: b :: r).length - 1=((b :: r).length - 1)+1:=by
    have h1:(a :: b :: r).length=r.length+2:=rfl;have h2:(b :: r).length=r.length+1:=rfl;omega
   rw[e,List.eraseIdx_cons_succ,ih]
   all_goals rfl
theorem xY (its:List Value):∀(k:Nat) (acc:List Value),
  List.foldl (fun x1 x2=>x1++x2) acc.toArray (List.replicate k its.toArray)=(acc++(List.replicate k its).flatten).toArray
 |0,acc=>by simp
 |k+1,acc=>by
  have e:acc.toArray++its.toArray=(acc++its).toArray:=by simp
  have e2:(acc++its)++(List.replicate k its).flatten=acc++(List.replicate (k+1) its).flatten:=by
   rw[List.replicate_succ,List.flatten_cons,List.append_assoc]
  rw[<- e2,<- xY its k (acc++its),<- e,List.replicate_succ,List.foldl_cons]
section
variable {X:Cx} {pins:List (Addr × Obj)} {σ:St} {H:Hp} {s:Shared} {l b:Addr} {xs ys zs:List V}
theorem Inv.lset {its its':List Value}{n:Nat}{f:Array Value->Array Value}{t':Nat}(I:Inv X pins σ H s)(hH:H l=some (.lst xs))(e:s.heap.get? l=some { cls:=.type "list",data:=.seq its.toArray n })(hf:f its.toArray=its'.toArray)(hv:bX ys its')(hz:ys.length<=sizeLine) :
  Inv X pins σ (upd H l (.lst ys)) { s with heap:=s.heap.update l (Obj.mapSeq f),toks:=t' }:=by
 have q:=PySem.IsL.update e f;rw[hf] at q;refine I.write (x:=l) (e:=l) (by rw[hH];exact trivial) (.inl rfl) (fun b' u hb hu=>(Heap.get?_update_other s.heap (Obj.mapSeq f) (Ne.symm hb)).trans hu) ⟨_,q⟩ ?_;exact⟨hz,its',_,hv,q⟩
theorem Inv.lnew {its:List Value}{t':Nat}(I:Inv X pins σ H s)(hv:bX ys its)(hz:ys.length<=sizeLine) :
  Inv X pins σ (upd H s.heap.objs.size (.lst ys)) { s with heap:=s.heap.push { cls:=.type "list",data:=.seq its.toArray },toks:=t' }:=
 I.laid (fun _ _ q=>Heap.get?_push_of_some _ q) (Nat.le_refl _) ⟨hz,its,0,hv,Heap.get?_push_size _ rfl⟩
theorem Inv.fresh (I:Inv X pins σ H s):H s.heap.objs.size=none:=I.hok.fresh (Nat.le_refl _)
theorem Inv.lstM (I:Inv X pins σ H s)(hH:H l=some (.lst xs)):xs.length<=sizeLine/\∃(its:List Value) (n:Nat),bX xs its/\xs.length=its.length/\s.heap.get? l=some { cls:=.type "list",data:=.seq its.toArray n }:=by
 obtain⟨z,its,n,r,e⟩:=I.hok l _ hH;exact⟨z,its,n,r,r.length,e⟩
theorem Oj {n:Nat}(h:n<=sizeLine):Builtin.List.listTooLong n=false:=by
 unfold Builtin.List.listTooLong;exact decide_eq_false (by omega)
end
section
variable {X:Cx}
def Sh:V->List V->Hp->VK->Prop:=fun x vs H Q=>∃l xs y,x=.ref l/\vs=[y]/\H l=some (.lst xs)/\xs.length < sizeLine/\Q .non (upd H l (.lst (xs++[y])))
theorem gO:MtM X "list.append" Sh:=by
 intro pins s σ H x vs v us Q I rx rv h;obtain⟨l,xs,y,rfl,rfl,hH,hz,q⟩:=h
 cases rx
 obtain⟨u,rfl,ru⟩:=rv.one;obtain⟨z,its,n,r,hl,e⟩:=I.lstM hH;refine call_meets F.slot_list_append ⟨_,e,rfl⟩ F.entry_list_append (F.args_list_append_2 _ _) (PySem.list_append l its.toArray n u (by rw[List.size_toArray];omega)) ⟨e,?_⟩;refine⟨.non,_,I.lset (its':=its++[u]) hH e (by simp) (r.append (.cons ru .nil)) ?_,rfl,q⟩;rw[List.length_append,List.length_singleton];omega
def qd5:V->List V->Hp->VK->Prop:=fun x vs H Q=>∃l xs y,x=.ref l/\vs=[]/\H l=some (.lst xs)/\xs[xs.length - 1]?=some y/\Q y (upd H l (.lst xs.dropLast))
theorem Wp:MtM X "list.pop" qd5:=by
 intro pins s σ H x vs v us Q I rx rv h;obtain⟨l,xs,y,rfl,rfl,hH,hy,q⟩:=h
 cases rx
 have hus:=rv.zero;subst hus;obtain⟨z,its,n,r,hl,e⟩:=I.lstM hH;obtain⟨u,hu,ru⟩:=r.get hy;have hy':its.toArray[its.toArray.size - 1]?=some u:=by
  show its.toArray[its.length - 1]?=some u;rw[<- Array.getElem?_toList,<- hl];exact hu
 refine call_meets F.slot_list_pop ⟨_,e,rfl⟩ F.entry_list_pop (F.args_list_pop_1 _) (MeetsSeq.list_pop_last l its.toArray n u hy' (by rw[List.size_toArray];omega)) ⟨e,?_⟩;refine⟨y,_,I.lset (its':=its.dropLast) hH e ?_ r.dropLast ?_,ru,q⟩
 ·show its.toArray.eraseIdxIfInBounds (its.toArray.size - 1)=its.dropLast.toArray;rw[List.size_toArray,List.eraseIdxIfInBounds_toArray,Dv]
 ·rw[List.length_dropLast];omega
def qe1:R2:=fun x y H Q=>∃l b xs zs,x=.ref l/\y=.ref b/\H l=some (.lst xs)/\H b=some (.lst zs)/\xs.length+zs.length<=sizeLine/\∀p,H p=none->Q (.ref p) (upd H p (.lst (xs++zs)))
theorem nH:OpR X (binaryOp .Add) qe1:=by
 intro pins s σ H x y v u Q I rx ry h;obtain⟨l,b,xs,zs,rfl,rfl,hH,hB,hz,q⟩:=h
 cases rx
 cases ry
 obtain⟨z,its,n,r,hl,e⟩:=I.lstM hH;obtain⟨z2,its2,n2,r2,hl2,e2⟩:=I.lstM hB;refine PySem.P.add_list e e2 ?_ (by rw[List.size_toArray,List.size_toArray];omega);have ea:its.toArray++its2.toArray=(its++its2).toArray:=by simp
 rw[ea];exact⟨.ref _,_,I.lnew (t':=s.toks) (r.append r2) (by rw[List.length_append];omega),rfl,q _ I.fresh⟩
def qf0:R2:=fun x y H Q=>∃l k xs,x=.ref l/\y=.int k/\H l=some (.lst xs)/\-(2 ^ 63)<=k/\k < 2 ^ 63/\xs.length*k.toNat<=sizeLine/\
 ∀p,H p=none->Q (.ref p) (upd H p (.lst (List.replicate k.toNat xs).flatten))
theorem Sc {α:Type}(xs:List α)(k:Nat):(List.replicate k xs).flatten.length=k*xs.length:=by
 induction k with
 |zero=>simp
 |succ k ih=>rw[List.replicate_succ,List.flatten_cons,List.length_append,ih,Nat.succ_mul,Nat.add_comm]
theorem Dx:OpR X (binaryOp .Mult) qf0:=by
 intro pins s σ H x y v u Q I rx ry h;obtain⟨l,k,xs,rfl,rfl,hH,h1,h2,hz,q⟩:=h
 cases rx
 obtain⟨t,rfl⟩:=ry;obtain⟨z,its,n,r,hl,e⟩:=I.lstM hH;have hlen:its.toArray.size*k.toNat<=sizeLine:=by rw[List.size_toArray,<- hl];exact hz
 have hcap:¬its.toArray.size*k.toNat > (2 ^ 63 - 1) / 8:=by
  have:(sizeLine:Nat)<=(2 ^ 63 - 1) / 8:=by decide
  omega
 have hfit:¬(!Builtin.List.listFitsIndex k)=true:=by
  rw[fitsIndex_both h1 h2];exact Bool.false_ne_true
 have hlong:¬Builtin.List.listTooLong (its.toArray.size*k.toNat)=true:=by
  rw[Oj hlen];exact Bool.false_ne_true
 have hnew:List.foldl (fun x1 x2=>x1++x2) #[] (List.replicate (if its.toArray.isEmpty=true then 0 else k.toNat) its.toArray)=(List.replicate k.toNat its).flatten.toArray:=by
  have f0:∀m:Nat,List.foldl (fun x1 x2=>x1++x2) #[] (List.replicate m its.toArray)=(List.replicate m its).flatten.toArray:=fun m=>by
   have:=xY its m [];rw[List.nil_append] at this;exact this
  rw[f0]
  cases its with
  |nil=>simp
  |cons a r'=>rw[if_neg (by simp)]
 refine wpAny_binaryOp_repeat_ref (T:="list") (U:="int") (by decide) ⟨_,e,rfl⟩ (fun s'=>typeIs_int s' k t) noFill_list_mul F.fills_int_mul F.slot_int_rmul repeat_list F.slot_int_index.lookup
  (call_meets F.slot_int_rmul (typeIs_int s k t) F.entry_int_rmul (F.args_int_rmul_2 _ _) (int___rmul___int_list k t l its.toArray n)
   ⟨e,rfl,⟨_,e,rfl⟩,call_meets F.slot_list_mul ⟨_,e,rfl⟩ F.entry_list_mul (F.args_list_mul_2 _ _) (AutoListH.list___mul___list_int_3 l its.toArray n k t hfit hcap hlong) ⟨e,?_⟩⟩)
 rw[hnew];exact⟨.ref _,_,I.lnew (t':=s.toks) (r.rep k.toNat) (by rw[Sc,Nat.mul_comm];exact hz),rfl,q _ I.fresh⟩
end
end L2
namespace Att
open PySem PySem.W PySem.Calls PyProof.Rows
theorem rX {P:Params}{h:Heap}:∀(ns:List Int) (vs:List Value),WellAll P h vs (ns.map WData.int)->IntsAre vs ns:=by
 intro ns
 induction ns with
 |nil=>
  intro vs w;rw[List.map_nil] at w
  cases w
  exact .nil
 |cons n ns ih=>
  intro vs w;rw[List.map_cons] at w
  cases w with
  |cons a b=>
   cases a
   exact .cons _ _ (ih _ b)
theorem Hs {l:OpenLaw}{n:Nat}(hn:l.most=some n){P:Params}{h:Heap}{args:List WData}{vals:List Value}(hpre:l.row.toRowW.claim.pre args=true)(hwl:WellAll P h vals args) :
  ∃a vs ns,vals=[Value.ref a]/\args=[WData.list (ns.map WData.int)]/\h.get? a=some { cls:=.type "list",data:=.seq vs.toArray }/\IntsAre vs ns/\ns.length<=n:=by
 have hsh:WShape.hasAll [] args [.list .int]=true:=(pre_splitW hpre).1;have hc:l.pre.holds [] { args:=args }=true:=(pre_splitW hpre).2;obtain⟨d,r,rfl,h1,h2⟩:=hasAllW_cons hsh;obtain rfl:=hasAllW_nil h2;obtain⟨xs,rfl,h3⟩:=hasW_list h1;obtain⟨ns,rfl⟩:=items_int h3;have hlen:ns.length<=n:=by
  unfold OpenLaw.pre at hc;have h4:(WTm.not (.lt (.lit (.int (n:Int))) (.len (.arg 0)))).holds [] { args:=[.list (ns.map .int)] }=true:=by
   have h4:=(holds_andW hc).1;rw[hn] at h4;exact h4
  have h5:=condW_of h4 (w_not (w_lt w_lit (w_len_list (w_arg rfl))));rw[List.length_map] at h5;refine Nat.le_of_not_lt fun q=>?_;have q':(n:Int) < ((ns.length:Nat):Int):=by omega
  first
   | (rw[decide_eq_true q'] at h5;exact absurd h5 (by decide))
   | (simp at h5;omega)
 cases hwl with
 |cons w1 w2=>
  cases w2
  cases w1 with
  |list ho hall=>exact⟨_,_,ns,rfl,rfl,ho,rX ns _ hall,hlen⟩
theorem Iq (l:OpenLaw)(args:List WData):l.row.toRowW.claim.post args (.bool true) args=true:=
 postW_of (r:=l.row.toRowW) (X:=(true == true))
  (show WShape.has [] (.bool true) .bool=true by first | rfl | decide | simp[WShape.has,WShape.arms,WShape.armsAll])
  (show (WTm.eq .res (.lit (.bool true))).value [] { args:=args,res:=some (.bool true),after:=args }=some (.bool (true == true)) from w_eq_bool (w_res rfl) w_lit) rfl
theorem attach_call {l:OpenLaw}{n:Nat}{q:Program}{loose:List Str}{XP:(Str->Option Value)->Heap->Prop}{YP:World->Heap->Prop}{d:DefRec}(hn:l.most=some n)(hdf:d.params.defaults=[])(call:∀(w:World) (s₀ s₁:Shared) (mg mb:Str->Option Value) (fa:Addr) (o:Obj) (pm cd doc:Value) (a:Addr) (vs:List Value) (ns:List Int),
   Ground q loose [] XP w s₀ mg mb s₁.heap->YP w s₁.heap->
   s₁.heap.get? fa=some o->o.data=.func (docDef d.name d.params d.body d.scope pm cd doc)->s₁.heap.CodeRec cd d.name->mg d.name=some (.ref fa)->
   s₁.heap.get? a=some { cls:=.type "list",data:=.seq vs.toArray }->IntsAre vs ns->ns.length<=n->s₁.gens=#[]->
   codeAny (model l.prog w) callerA (.call (.ref fa) ⟨[.ref a],[]⟩) (fun r s'=>r=.ok (.ret (.bool true))/\OldK s₁.heap s'.heap/\s'.os=s₁.os/\AllBare s'.gens) s₁) :
  WalkO q loose XP YP l.row.toRowW d [] (fun f vs=>PySem.call f vs):=by
 intro w s₀ s₁ mg mb G Y fa o pm cd doc dV kV ho hd hcd hD hmg hg args vals as hpre hlay hrd hwl hlo;obtain rfl:dV=.none:=Dflts.none hD hdf;obtain rfl:kV=.none:=Dflts.noKw hD;obtain⟨a,vs,ns,rfl,rfl,hobj,hints,hlen⟩:=Hs hn hpre hwl;refine enter_call (codeAny_mono (call w s₀ s₁ mg mb fa o pm cd doc a vs ns G Y ho (fd_plain hd) hcd hmg hobj hints hlen hg) fun r s' hq=>?_);obtain⟨rfl,h2,h3,h4⟩:=hq;exact⟨.inl ⟨.bool true,.bool true,[],rfl,fun _=>rfl,.bool true,Iq l _,fun _=>⟨List.Pairwise.nil,fun _ hm=>(nomatch hm)⟩⟩,h2,h3,h4⟩
end Att
namespace L2
open PySem PySem.Spec PyProof.Rows
theorem xR:∀{vs:List Value} {ns:List Int},IntsAre vs ns->bX (ns.map V.int) vs
 |_,_,.nil=>.nil
 |_,_,.cons n t h=>.cons ⟨t,rfl⟩ (xR h)
def Vn (H:Hp):Prop:=∀b,H b=none\/∃o xs,H b=some (.frz o (.lst xs))
theorem Lk {P:Program}{w:World}{K:Frag}{mg mb:Str->Option Value}{CX:CXT}{k:Nat}{fa a:Addr}{fd:FuncData}{x:Str}{sp:Sp}{s₁:Shared}{vs:List Value}{ns:List Int}(KX:K.In s₁.heap)(hns:s₁.heap.Ns mainGlobals mg)(hb:s₁.heap.Ns builtinsNs mb)(hbb:∀x:Str,x≠"__name__"->mb x=bootBuiltins x)(hlim:s₁.heap.NoLimit)(hg:s₁.gens=#[])(ha:s₁.heap.get? a=some { cls:=.type "list",data:=.seq vs.toArray })(hi:IntsAre vs ns)(hl:ns.length<=sizeLine)(hr:gS k callerA)(F:∀base:Heap,K.In base->base.Ns mainGlobals mg->aM P w K mg base CX k fa fd [x] sp)(hbind:∀(s:Shared) (u:Value),BindsTo s fd ⟨[u],[]⟩ [(x,u)])(hsp:∀H:Hp,Vn H->SqL K H a (ns.map V.int)->sp [.ref a] H (fun v _=>v=.bl true) fun _ _ _=>False)(hCX:∀H e s',CX [] H s₁ (fun _ _ _=>False) e s'->False) :
  codeAny (model P w) callerA (.call (.ref fa) ⟨[.ref a],[]⟩) (fun r s'=>r=.ok (.ret (.bool true))/\OldK s₁.heap s'.heap/\s'.os=s₁.os/\AllBare s'.gens) s₁:=by
 have rv:=xR hi;have lenV:=hi.length;have core:∀H:Hp,Vn H->SqL K H a (ns.map V.int)->HOk P w H s₁.heap->(∀b,H b≠none->b=a)->(H a≠none->K.lookup a=none)->
   codeAny (model P w) callerA (.call (.ref fa) ⟨[.ref a],[]⟩) (fun r s'=>r=.ok (.ret (.bool true))/\OldK s₁.heap s'.heap/\s'.os=s₁.os/\AllBare s'.gens) s₁:=by
  intro H hO hS hok hA hK;have base_of:∀{b:Addr} {o:Obj},s₁.heap.get? b=some o->H b=none->(An s₁.heap H).get? b=some o:=fun e n=>Pp e n;have noA:∀{b:Addr} {o:Obj} {es:Array DictEntry} {ep:Nat},s₁.heap.get? b=some o->o.data=.dict es ep->H b=none:=fun {b o es ep} e d=>by
   cases q:H b with
   |none=>rfl
   |some u=>
    have e':b=a:=hA b (by rw[q];simp);subst e';rw[ha] at e;cases e;have d':Data.seq vs.toArray _=Data.dict es ep:=d
    cases d'
  have nsK:∀{b:Addr} {m:Str->Option Value},s₁.heap.Ns b m->(An s₁.heap H).Ns b m:=fun {b m} ⟨o,es,ep,e,d,r⟩=>⟨o,es,ep,base_of e (noA e d),d,r⟩
  have hKb:K.In (An s₁.heap H):=fun b o e=>base_of (KX b o e) (by
   cases q:H b with
   |none=>rfl
   |some u=>
    have e':b=a:=hA b (by rw[q];simp);subst e';rw[hK (by rw[q];simp)] at e;cases e)
  have hM:Mod K mg (An s₁.heap H):=⟨hKb,nsK hns,⟨mb,nsK hb,hbb⟩,let ⟨mc,h1,h2⟩:=hlim;⟨mc,nsK h1,h2⟩⟩
  have e0:Em P w K mg (An s₁.heap H) callerA [] s₁ H:=⟨rfl,hM,fun b o e=>Ql e,Nat.le_of_eq (Hk _ _),trivial,fun b hb=>absurd (show b∈([]:List Addr) from hb) (by simp),hok,.of_eq hg⟩
  refine codeAny_mono ((F _ hKb (nsK hns)).run callerA [] s₁ H ⟨[.ref a],[]⟩ [.ref a] [.ref a] _ _ hr e0 (hbind s₁ (.ref a)) (.cons rfl .nil) (hsp H hO hS)) fun r s' h=>?_
  cases r with
  |error e=>exact(hCX H e s' h).elim
  |ok fl=>
   cases fl with
   |next=>exact False.elim h
   |brk=>exact False.elim h
   |cont=>exact False.elim h
   |ret u=>
    obtain⟨v,H',os,bare,un,hok',r',q⟩:=h;have q':v=.bl true:=q;subst q';obtain rfl:u=Value.bool true:=r';refine⟨rfl,OldK.of_keep fun b o e=>?_,os,bare⟩
    cases q:H b with
    |none=>exact un.keep b o e q (by intro z;exact absurd (show b∈([]:List Addr) from z) (by simp)) (by simp)
    |some u=>
     rcases hO b with z | ⟨ob,xs,z⟩
     ·rw[q] at z;cases z
     ·have z2:=un.frzs b ob _ z;obtain⟨e1,_⟩:=hok b _ z;obtain⟨e2,_⟩:=hok' b _ z2;rw[e] at e1;cases e1;exact e2
 cases hk:K.lookup a with
 |some o=>
  have e:=KX a o hk;rw[ha] at e
  cases e
  refine core (fun _=>none) (fun _=>.inl rfl) (.inr ⟨_,vs.toArray,_,hk,rfl,rfl,rfl,by rw[List.size_toArray,lenV];exact hl,by simpa using rv⟩) (fun b u z=>by have z':(none:Option HO)=some u:=z;cases z') (fun b z=>absurd rfl z) fun z=>absurd rfl z
 |none=>
  refine core (fun b=>if b=a then some (.frz { cls:=.type "list",data:=.seq vs.toArray } (.lst (ns.map V.int))) else none) (fun b=>?_) (.inl (.inr ⟨{ cls:=.type "list",data:=.seq vs.toArray },if_pos rfl⟩)) (fun b u z=>?_) (fun b z=>?_) fun _=>hk
  ·by_cases hb:b=a
   ·exact .inr ⟨_,_,if_pos hb⟩
   ·exact .inl (if_neg hb)
  ·by_cases hb:b=a
   ·have z':=(if_pos hb).symm.trans z
    cases z'
    subst hb;exact⟨ha,by rw[List.length_map];exact hl,vs,_,rv,ha⟩
   ·have z':=(if_neg hb).symm.trans z
    cases z'
  ·by_cases hb:b=a
   ·exact hb
   ·exact absurd (if_neg hb) z
abbrev KOf {K:Frag}{h:Heap}(_:K.In h):Frag:=K
theorem Tb {l:PySem.W.OpenLaw}{n k:Nat}{q:Program}{loose:List Str}{XP:(Str->Option Value)->Heap->Prop}{YP:World->Heap->Prop}{d:DefRec}{K:Params->Frag}{CX:World->CXT}{sp:World->Sp}{x:Str}(hn:l.most=some n)(hn2:n<=sizeLine)(hdf:d.params.defaults=[])(hr:gS k callerA)(hY:∀(w:World) (h:Heap),YP w h->(K w.params).In h)(F:∀(w:World) (mg:Str->Option Value) (fa:Addr) (h:Heap),(K w.params).In h->h.Ns mainGlobals mg->mg d.name=some (.ref fa)->
   ∃fd:FuncData,(∀(s:Shared) (u:Value),BindsTo s fd ⟨[u],[]⟩ [(x,u)])/\
    ∀base:Heap,(K w.params).In base->base.Ns mainGlobals mg->aM l.prog w (K w.params) mg base (CX w) k fa fd [x] (sp w))(hsp:∀(w:World) (H:Hp) (a:Addr) (ns:List Int),ns.length<=n->Vn H->SqL (K w.params) H a (ns.map V.int)->sp w [.ref a] H (fun v _=>v=.bl true) fun _ _ _=>False)(hCX:∀(w:World) (H:Hp) (s:Shared) (e:Value) (s':Shared),CX w [] H s (fun _ _ _=>False) e s'->False) :
  PySem.W.WalkO q loose XP YP l.row.toRowW d [] (fun f vs=>PySem.call f vs):=by
 refine Att.attach_call hn hdf fun w s₀ s₁ mg mb fa o pm cd doc a vs ns G Y ho hd hcd hmg hobj hints hlen hg=>?_;have KX:=hY w _ Y;obtain⟨fd,hb,hF⟩:=F w mg fa _ KX G.T.g hmg;exact Lk KX G.T.g G.T.b G.T.builtins G.T.nolimit hg hobj hints (Nat.le_trans hlen hn2) hr hF hb (fun H hO hS=>hsp w H a ns hlen hO hS) fun H e s'=>hCX w H s₁ e s'
def eV (s:Stmt)(j:Nat):Stmt:=match s with
 | .ClassDef _ _ _ body _ _ _ _ _ _ _=>body.getD j (.Pass ⟨0,0,0,0⟩)
 |_=>.Pass ⟨0,0,0,0⟩
def aR (s:Stmt):Arguments:=match s with
 | .FunctionDef _ a _ _ _ _ _ _ _ _=>a
 |_=>{ posonlyargs:=[],args:=[],vararg:=none,kwonlyargs:=[],kw_defaults:=[],kwarg:=none,defaults:=[] }
def aP (s:Stmt):List Stmt:=match s with
 | .FunctionDef _ _ b _ _ _ _ _ _ _=>b
 |_=>[]
def aE (s:Stmt):Scope:=match s with
 | .FunctionDef _ _ _ _ _ _ sc _ _ _=>sc
 |_=>{ kind:=.function,names:=[],isGenerator:=false,isCoroutine:=false }
abbrev CX0:CXT:=fun _ _ _ _ _ _=>False
abbrev E0:XK:=fun _ _ _=>False
theorem aL {X:Cx}:kW CX0 X E0:=fun _ _ _ _ _ _ _ h=>h.elim
theorem jA {A:Around}{k:Nat}(hr:gS k A):A.units+1 < cLine:=Nat.lt_of_le_of_lt (Nat.add_le_add_left (by decide:1<=64) _) hr.units
theorem bH {n:Nat}(h:n<=1000):n < sizeLine:=Nat.lt_of_le_of_lt h (by decide)
section
variable {X:Cx}
theorem pv (i:Nat){x:Str}{pos:Pos}(hN:X.N[i]?=some x:=by rfl)(hv:Vis X.env.scope x:=by first | exact Or.inl rfl | exact Or.inr (Or.inl rfl) | exact Or.inr (Or.inr rfl))(hd:(x == ("__debug__":Str))=false:=by decide)(hcd:(x == ("__classdict__":Str))=false:=by decide):PE X (.Name x pos) (Tt i):=Pe hN hv hd hcd
end
theorem dX {A B:Prop}(h:B):if false=true then A else B:=by
 rw[if_neg Bool.false_ne_true];exact h
theorem fM {A B:Prop}(h:A):if true=true then A else B:=by
 rw[if_pos rfl];exact h
theorem sR {c A B:Prop}[Decidable c](h1:c->A)(h2:¬c->B):if c then A else B:=by
 by_cases h:c
 ·rw[if_pos h];exact h1 h
 ·rw[if_neg h];exact h2 h
def bF (H H':Hp):Prop:=∀b o,H b=some o->H' b=some o
theorem bF.refl (H:Hp):bF H H:=fun _ _ h=>h
theorem bF.trans {H H1 H2:Hp}(a:bF H H1)(b:bF H1 H2):bF H H2:=fun c o h=>b c o (a c o h)
theorem bF.free {H H':Hp}(e:bF H H'){l:Addr}(h:H' l=Option.none):H l=Option.none:=by
 cases q:H l with
 |none=>rfl
 |some o=>
  rw[e l o q] at h
  cases h
theorem bF.seq {K:Frag}{H H':Hp}{a:Addr}{xs:List V}(e:bF H H')(h:SqL K H a xs):SqL K H' a xs:=by
 rcases h with (h | ⟨o,h⟩) | h
 ·exact .inl (.inl (e _ _ h))
 ·exact .inl (.inr ⟨o,e _ _ h⟩)
 ·exact .inr h
section
variable {X:Cx}
def Bt (n:Nat)(i:Int):Prop:=i.natAbs < 2 ^ n
theorem uJ {n:Nat}{i:Int}(h:Bt n i):Builtin.Int.intBits i<=n:=by
 unfold Builtin.Int.intBits;split
 ·exact Nat.zero_le _
 ·rename_i h0
  have hp:i.natAbs≠0:=by
   intro z;apply h0;simp at z ⊢;exact z
  have:i.natAbs.log2 < n:=(Nat.log2_lt hp).mpr h;omega
def To (i j:Int):Prop:=∃n m,Bt n i/\Bt m j/\n<=1048576/\m<=1048576
theorem To.ok {i j:Int}(h:To i j):IntMulOk i j:=by
 obtain⟨n,m,h1,h2,h3,h4⟩:=h;have e:(2:Nat) ^ 20=1048576:=by decide
 exact IntMulOk.of_bits (by have:=uJ h1;omega) (by have:=uJ h2;omega)
theorem cQ:OpR X (binaryOp .Mult) (rI To fun i j=>.int (i*j)):=opI fun _ _ _ _ _ _ _ hc q=>mul_int q hc.ok
def Es (i j:Int):Prop:=j≠0/\∃n,Bt n j/\n<=9000
theorem Es.ok {i j:Int}(h:Es i j):Builtin.divisionGoesByPylong i j=false:=by
 obtain⟨h0,n,h1,h2⟩:=h;refine PyProof.noPylong_of_log2 ?_;have hp:j.natAbs≠0:=by omega
 have:j.natAbs.log2 < n:=(Nat.log2_lt hp).mpr h1;omega
theorem iL:OpR X (binaryOp .FloorDiv) (rI Es fun i j=>.int (i.fdiv j)):=opI fun _ _ _ _ _ _ _ hc q=>floordiv_int hc.1 q (.inl hc.ok)
mutual
inductive sS (K:Frag) (H:Hp):V->PyData->Prop where
 |non:sS K H .non .none
 |bl (b:Bool):sS K H (.bl b) (.bool b)
 |int (i:Int):sS K H (.int i) (.int i)
 |str (x:Str):sS K H (.str x) (.str x)
 |lst {a:Addr} {xs:List V} {ds:List PyData} (h:SqL K H a xs) (q:xH K H xs ds):sS K H (.ref a) (.list ds)
 |tup {a:Addr} {xs:List V} {ds:List PyData} (h:SqT K H a xs) (q:xH K H xs ds):sS K H (.ref a) (.tuple ds)
inductive xH (K:Frag) (H:Hp):List V->List PyData->Prop where
 |nil:xH K H [] []
 |cons {x:V} {d:PyData} {xs:List V} {ds:List PyData} (p:sS K H x d) (q:xH K H xs ds):xH K H (x :: xs) (d :: ds)
end
theorem tW {pins:List (Addr × Obj)}{s:Shared}{σ:St}{H:Hp}(I:Inv X pins σ H s):∀{x:V} {d:PyData},sS X.K H x d->∀{u:Value},bV x u->∃as,Reads s.heap u d as:=by
 intro x d h
 induction h using sS.rec (motive_2:=fun xs ds _=>∀{us:List Value},bX xs us->∃as,ReadsAll s.heap us ds as) with
 |non=>intro u r;cases (show u=Value.none from r);exact⟨_,.none⟩
 |bl b=>intro u r;cases (show u=Value.bool b from r);exact⟨_,.bool b⟩
 |int i=>intro u r;obtain⟨t,rfl⟩:=(show ∃t,u=Value.int i t from r);exact⟨_,.int i t⟩
 |str y=>intro u r;obtain⟨t,rfl⟩:=(show ∃t,u=Value.str y t from r);exact⟨_,.str y t⟩
 |lst h q ih=>
  intro u r
  cases (show u=Value.ref _ from r)
  obtain⟨its,rv,pl,_⟩:=I.list h;obtain⟨as,ra⟩:=ih rv;obtain⟨o,h1,h2,n,h3⟩:=pl.isList;exact⟨_,.list h1 h2 h3 (by simpa using ra)⟩
 |tup h q ih=>
  intro u r
  cases (show u=Value.ref _ from r)
  obtain⟨its,rv,pl,_⟩:=I.tuple h;obtain⟨as,ra⟩:=ih rv;obtain⟨o,h1,h2,n,h3⟩:=pl;exact⟨_,.tuple h1 h2 h3 (by simpa using ra)⟩
 |nil=>rename_i us r;cases r;exact⟨_,.nil⟩
 |cons p q ih1 ih2=>
  rename_i us r
  cases r with
  |cons r1 r2=>
   obtain⟨as,h1⟩:=ih1 r1;obtain⟨bs,h2⟩:=ih2 r2;exact⟨_,.cons h1 h2⟩
def Vi (K:Frag)(neg:Bool):R2:=fun x y H Q=>∃d e,sS K H x d/\sS K H y e/\d.canLay0=true/\e.canLay0=true/\min d.depth e.depth<=16/\Q (.bl (if neg then !PyData.eqv d e else PyData.eqv d e)) H
theorem zL (hu:X.A.units+64 < cLine):OpR X (compareOp .Eq) (Vi X.K false):=by
 intro pins s σ H x y v u Q I rx ry h;obtain⟨d,e,h1,h2,c1,c2,hm,q⟩:=h;obtain⟨as,r1⟩:=tW I h1 rx;obtain⟨bs,r2⟩:=tW I h2 ry;exact PySem.SeqAt.compareEq_reads r1 r2 c1 c2 (by omega) ⟨.bl (PyData.eqv d e),H,I,rfl,q⟩
end
section
variable {prog:Program} {w:World} {A:Around} {R:Result->Shared->Prop} {s:Shared}
abbrev Ud (ifs:List Expr)(env:Env):Sem Bool:=forIn ifs true fun c r=>if r=true then do let ok <- isTrue c env (eval c env);pure (ForInStep.yield ok) else pure (ForInStep.yield r)
theorem Hr {elt target iter:Expr}{ifs:List Expr}{scope:Scope}{pos:Pos}{it acc:Value}{env:Env}(I:Nat->Shared->Prop)(turn:∀n s,I n s->wpAny (model prog w) A (pyNext it) (fun r s₁=>match r with
   |none=>R (.ok .next) s₁
   |some v=>wpAny (model prog w) A (letOwnedTupleGo target it v) (fun _ s₀=>wpAny (model prog w) A (assign target env v) (fun _ s₂=>
     wpAny (model prog w) A (Ud ifs env) (fun ok s₃=>
      if ok=true then wpAny (model prog w) A (eval elt env) (fun x s₄=>
       wpAny (model prog w) A (call (.builtin "list.append") [acc,x]) (fun _ s₅=>∃m,m < n/\I m s₅) (fun _ _=>False) s₄) (fun _ _=>False) s₃
      else ∃m,m < n/\I m s₃) (fun _ _=>False) s₂) (fun _ _=>False) s₀) (fun _ _=>False) s₁) (fun _ _=>False) s)(n:Nat)(h:I n s) :
  codeAny (model prog w) A (.compLoop (.ListComp elt [⟨target,iter,ifs,0⟩] scope pos) 0 it acc env) R s:=by
 refine codeAny_loop rfl I (fun n s hI=>?_) n h;show wpAny _ A ((compTurn (.ListComp elt [⟨target,iter,ifs,0⟩] scope pos) 0 it acc env).onRaise (fun x=>do noteFrame x env;theTreesLotGoes x)) _ _ s;refine wpAny_noted ?_;rw[compTurn_list];refine wpAny_bind (wpAny_standAt (wpAny_bind (wpAny_mono (turn n s hI) (fun r s₁ h₁=>?_) fun _ _ z=>z.elim)))
 cases r with
 |none=>exact wpAny_pure h₁
 |some v=>
  refine wpAny_bind (wpAny_mono h₁ (fun _ s₀ h₀=>?_) fun _ _ z=>z.elim);refine wpAny_bind (wpAny_mono h₀ (fun _ s₂ h₂=>wpAny_bind (wpAny_mono h₂ (fun ok s₃ h₃=>?_) fun _ _ z=>z.elim)) fun _ _ z=>z.elim)
  cases ok with
  |false=>exact wpAny_pure ⟨rfl,h₃⟩
  |true=>
   rw[if_pos rfl] at h₃;show wpAny _ _ ((do let _ <- call (.builtin "list.append") [acc,<- eval elt env]) >>= fun _=>again (.compLoop (.ListComp elt [⟨target,iter,ifs,0⟩] scope pos) 0 it acc env)) _ _ _;exact wpAny_bind (wpAny_bind (wpAny_mono h₃ (fun x s₄ h₄=>wpAny_bind (wpAny_mono h₄ (fun _ s₅ h₅=>wpAny_pure (wpAny_pure ⟨rfl,h₅⟩)) fun _ _ z=>z.elim)) fun _ _ z=>z.elim))
end
structure zC (X:Cx) (scope:Scope) (cl:List (Str × Addr)) (Nc:List Str) (nl:Nat) (fr:List Nat):Prop where
 clos:closureFor scope X.env=pure cl
 kind:scope.kind=.function
 names:∀y∈scope.names,y.2=.local->scope.names.lookup y.1=some .local
 cell:∀y∈scope.names,y.2≠.cell
 sub:∀x c,cl.lookup x=some c->X.env.cells.lookup x=some c
 has:∀x,(relabel scope X.env).names.lookup x=some .cell\/(relabel scope X.env).names.lookup x=some .free->∃c,cl.lookup x=some c
 len:Nc.length=nl+fr.length
 tail:∀i n,Nc[nl+i]?=some n->∃j,fr[i]?=some j/\X.N[j]?=some n/\X.env.kindOf n=some .cell/\cl.lookup n=X.env.cells.lookup n/\((relabel scope X.env).names.lookup n=some .cell\/(relabel scope X.env).names.lookup n=some .free)
abbrev fH (X:Cx)(scope:Scope)(cl:List (Str × Addr))(Nc:List Str)(C:Addr)(s3:Shared)(H3:Hp)(fp:List Addr)(pins:List (Addr × Obj)):Cx:=
 { X with N:=Nc,s₀:=s3,H₀:=H3,env:=compEnvC scope cl C X.env,outer:=X.stack,ex:=fp,fn:=fun _=>false,pn:=X.pn++pins,xe:=fun _ _=>False }
def σC (nl:Nat)(fr:List Nat)(σ:St):St:=List.replicate nl none++fr.map fun j=>(σ[j]?).join
abbrev PIf (X:Cx)(ifs:List Expr)(t:TT):Prop:=
 ∀(pins:List (Addr × Obj)) (s:Shared) (σ:St) (H:Hp) (Q:Bool->Hp->Prop),Inv X pins σ H s->t σ H Q->wpAny (model X.prog X.w) X.A (Ud ifs X.env) (TP X pins σ Q) X.xe s
theorem gK {X:Cx}:PIf X [] (fun _ H Q=>Q true H):=fun _ _ _ H _ I h=>wpAny_pure ⟨H,I,h⟩
theorem tU {X:Cx}{c:Expr}{t:TT}(h:PT X c t):PIf X [c] t:=fun pins s σ H Q I q=>wpAny_tests_one (h pins s σ H Q I q)
section
variable {X:Cx} {scope:Scope} {cl:List (Str × Addr)} {Nc:List Str} {nl:Nat} {fr:List Nat} {pins:List (Addr × Obj)} {σ:St} {H3:Hp} {s3:Shared} {fp:List Addr} {h4:Heap} {tk:Nat}
theorem Ej (ck:zC X scope cl Nc nl fr)(I:Inv X pins σ H3 s3)(hf:∀b∈fp,mS X pins H3 b)(hfs:∀b∈fp,b < s3.heap.objs.size)(hns:h4.Ns s3.heap.objs.size fun _=>none)(hk:∀b o,s3.heap.get? b=some o->h4.get? b=some o) :
  Inv (fH X scope cl Nc s3.heap.objs.size s3 H3 fp pins) [] (σC nl fr σ) H3 { s3 with heap:=h4,toks:=tk }:=by
 have stk:∀b∈frs X.stack,b∈X.env.locals :: X.fs:=I.stkSub;have nfs:∀b,b≠X.env.locals->b∉X.fs->b∉frs X.stack:=fun b h1 h2 z=>(List.mem_cons.mp (stk b z)).elim h1 h2;have ltc:∀x c,cl.lookup x=some c->c < s3.heap.objs.size:=fun x c e=>by
  obtain⟨v,z⟩:=I.cell x c (ck.sub x c e);exact z.lt
 refine⟨⟨I.ok.mod,ck.kind,I.ok.glob,I.ok.blt,Nat.le_refl _,fun x y c h1 h2=>I.ok.inj x y c (ck.sub x c h1) (ck.sub y c h2),fun x hx=>ck.has x hx,fun x c hz=>Bool.noConfusion hz,I.ok.hd,I.ok.frames,.inl rfl,fun b hb=>?_,I.bs,Nat.le_trans I.ok.bsz I.sz,fun b o e hb=>?_,fun b hb=>?_,I.stack,I.stkFree⟩,
  rfl,I.bare,Un.kept hk,⟨_,hns,fun i x v h1 h2 h3=>?_⟩,fun x c e=>?_,I.hok.fresh (Nat.le_refl _),fun x c e=>I.freeC x c (ck.sub x c e),fun p hp=>?_,I.hok.kept hk,?_⟩
 ·obtain⟨f0,f1,f2,f3,f4,f5⟩:=hf b hb;exact⟨Nat.ne_of_lt (hfs b hb),fun x c e=>f4 x c (ck.sub x c e)⟩
 ·obtain⟨f0,f1,f2,f3,f4,f5⟩:=hf b hb;rcases f3 with z | z
  ·exact I.ok.noex b o e z
  ·exact absurd (Nat.lt_of_lt_of_le (Heap.lt_size e) (Nat.le_trans I.ok.bsz z)) (Nat.lt_irrefl _)
 ·obtain⟨f0,f1,f2,f3,f4,f5⟩:=hf b hb;exact nfs b f1 f2
 ·-- a name's value
  unfold σC at h2
  by_cases hi:i < nl
  ·rw[List.getElem?_append_left (by simpa using hi),List.getElem?_replicate] at h2;split at h2<;>cases h2
  ·have hi':nl<=i:=by omega
   rw[List.getElem?_append_right (by simpa using hi'),List.length_replicate,List.getElem?_map] at h2;obtain⟨k,rfl⟩:∃k,i=nl+k:=⟨i - nl,by omega⟩
   obtain⟨j,e1,e2,e3,e4,e5⟩:=ck.tail k x h1;rw[Nat.add_sub_cancel_left,e1] at h2;have h2':(σ[j]?).join=some v:=by simpa using h2
   have h2'':σ[j]?=some (some v):=by
    cases q:σ[j]? with
    |none=>rw[q] at h2';cases h2'
    |some z=>rw[q] at h2';exact congrArg some h2'
   obtain⟨m,hn,hl⟩:=I.loc;obtain⟨u,r,l⟩:=hl j x v e2 h2'' (.inr (.inl e3));refine⟨u,r,?_⟩;rcases l with ⟨k1,_⟩ | ⟨k1,c,ec,z⟩
   ·rw[e3] at k1;cases k1
   ·obtain⟨o,ho,hd⟩:=z;exact .inr ⟨e5,c,by show cl.lookup x=some c;rw[e4];exact ec,o,hk _ _ ho,hd⟩
 ·obtain⟨v,o,ho,hd⟩:=I.cell x c (ck.sub x c e);exact⟨v,o,hk _ _ ho,hd⟩
 ·have hp':p∈X.pn++pins:=by simpa using hp
  obtain⟨e,n,ne,nf,d⟩:=I.pin p hp';exact⟨hk _ _ e,n,Nat.ne_of_lt (Heap.lt_size e),nfs _ ne nf,d⟩
 ·unfold σC;show _=Nc.length;rw[List.length_append,List.length_replicate,List.length_map,ck.len]
theorem Nr {pins':List (Addr × Obj)}{σ':St}{H':Hp}{s':Shared}(I:Inv X pins σ H3 s3)(hf:∀b∈fp,mS X pins H3 b)(J:Inv (fH X scope cl Nc s3.heap.objs.size s3 H3 fp pins) pins' σ' H' s'):Inv X pins σ H' s'/\mS X pins H' s3.heap.objs.size:=by
 refine⟨I.call' (ch:=fp) J.os J.base J.hok J.bare fun b hb=>?_,I.fpOk (Nat.le_refl _) J.free⟩;obtain⟨f0,f1,f2,f3,f4,f5⟩:=hf b hb;exact⟨f3,f1,f4,f5⟩
theorem Inv.off {b:Addr}{H:Hp}{s:Shared}{h':Heap}(I:Inv X pins σ H s)(f:mS X pins H b)(hs:Heap.SameBut b s.heap h'):Inv X pins σ H { s with heap:=h' }:=by
 obtain⟨f0,f1,f2,f3,f4,f5⟩:=f;exact I.turned (t':=s.toks) (it:=b) (fun c o hb e=>(hs.2 c hb).trans e) f0 f1 f3 f4 f5
end
def Cm (J:It)(nl:Nat)(fr:List Nat)(g:TG)(tt:TT)(te:TE)(σ:St)(D:Addr)(H1:Hp)(Q:VK):Prop:=
 ∃W:Nat->Nat->List V->Hp->Prop,(∃m,W 0 m [] (upd H1 D (.lst [])))/\∀i m ys H2,W i m ys H2->H2 D=some (.lst ys)/\
  ((J.stop i H2/\Q (.ref D) H2)\/(J.go i H2/\∀x H3,J.yld i H2 x H3->g x (σC nl fr σ) H3 fun σ2 H4=>σ2.length=(σC nl fr σ).length/\(∀(i:Nat) v,(σC nl fr σ)[i]?=some (some v)->σ2[i]?=some (some v))/\
   tt σ2 H4 fun b H5=>if b=true then te σ2 H5 fun y H6=>H6 D=some (.lst ys)/\ys.length < sizeLine/\∃m',m' < m/\W (i+1) m' (ys++[y]) (upd H6 D (.lst (ys++[y])))
    else ∃m',m' < m/\W (i+1) m' ys H5))
def Op (wi:TI)(nl:Nat)(fr:List Nat)(g:TG)(tt:TT)(te:TE):TE:=fun σ H Q=>wi σ H fun J H1=>∀D,H1 D=none->Cm J nl fr g tt te σ D H1 Q
section
variable {X:Cx} {scope:Scope} {cl:List (Str × Addr)} {Nc:List Str} {nl:Nat} {fr:List Nat} {elt tg iter:Expr} {ifs:List Expr} {pos:Pos} {wi:TI} {g:TG} {tt:TT} {te:TE}
theorem Cw (hc:X.calm=true)(ck:zC X scope cl Nc nl fr)(hi:PI X tg iter wi)(hg:∀C s3 H3 fp pins,PG (fH X scope cl Nc C s3 H3 fp pins) tg g)(ht:∀C s3 H3 fp pins,PIf (fH X scope cl Nc C s3 H3 fp pins) ifs tt)(he:∀C s3 H3 fp pins,PE (fH X scope cl Nc C s3 H3 fp pins) elt te){pins:List (Addr × Obj)}{s:Shared}{σ:St}{H:Hp}{Q:VK}(I:Inv X pins σ H s)(h:Op wi nl fr g tt te σ H Q){RR:Value->Addr->Result->Shared->Prop}(fin:∀D C s',(∃H',(∃m,s'.heap.Ns C m)/\Inv X pins σ H' s'/\mS X pins H' C/\Q (.ref D) H')->RR (.ref D) C (.ok .next) s') :
  wpAny (model X.prog X.w) X.A (eval iter X.env) (fun x s₁=>wpAny (model X.prog X.w) X.A (pyIter x) (fun it s₂=>wpAny (model X.prog X.w) X.A (newList []) (fun acc s₃=>
   wpAny (model X.prog X.w) X.A (newFunctionEnv scope X.env.globals cl [] X.env.qual none .none (some X.env)) (fun cenv s₄=>
    codeAny (model X.prog X.w) X.A (.compStart (.ListComp elt [⟨tg,iter,ifs,0⟩] scope pos) 0 it acc { cenv with scope:=relabel scope X.env }) (RR acc cenv.locals) s₄) X.xe s₃) X.xe s₂) X.xe s₁) X.xe s:=by
 refine thn (hi pins s σ H _ I h) fun v s1 h1=>thn h1 fun itv s2 h2=>?_;obtain⟨it,fp,tn,J,H2,e,I2,T,st2,f2,hD⟩:=h2;subst e;have hn2:H2 s2.heap.objs.size=none:=I2.hok.fresh (Nat.le_refl _);obtain⟨W,⟨m0,w0⟩,turn⟩:=hD s2.heap.objs.size hn2;refine wpAny_newObj_type (wpAny_newFunctionEnv ck.cell (by intro y hy;simp at hy) (fun h4 hns hsb=>?_) ck.kind);dsimp only at hns hsb ⊢;have I3:Inv X pins σ (upd H2 s2.heap.objs.size (.lst [])) { s2 with heap:=s2.heap.push { cls:=.type "list",dict:=none,data:=.seq ([]:List Value).toArray } }:=
  I2.laid (t':=s2.toks) (fun b u e=>Heap.get?_push_of_some _ e) (Nat.le_refl _) ⟨Nat.zero_le _,[],0,.nil,Heap.get?_push_size _ rfl⟩
 have hfs:∀b∈fp,b < s2.heap.objs.size:=fun b hb=>by
  obtain⟨o,e,_⟩:=T.obj 0 _ st2 b hb;exact Heap.lt_size e
 have f3:∀b∈fp,mS X pins (upd H2 s2.heap.objs.size (.lst [])) b:=fun b hb=>⟨by rw[aV (Nat.ne_of_lt (hfs b hb))];exact(f2 b hb).1,(f2 b hb).2⟩
 generalize hH3:upd H2 s2.heap.objs.size (.lst [])=H3 at *
 generalize hs3:({ s2 with heap:=s2.heap.push { cls:=.type "list",dict:=none,data:=.seq ([]:List Value).toArray } }:Shared)=s3 at *
 have z3:s3.heap=s2.heap.push { cls:=.type "list",dict:=none,data:=.seq ([]:List Value).toArray }:=by rw[<- hs3]
 have hsz3:s3.heap.objs.size=s2.heap.objs.size+1:=by rw[z3,Heap.size_push]
 rw[<- z3] at hns hsb ⊢;have hk4:∀b o,s3.heap.get? b=some o->h4.get? b=some o:=fun b o e=>hsb.extBut b o (Nat.ne_of_lt (Heap.lt_size e)) (Heap.get?_push_of_some _ e);have hfs3:∀b∈fp,b < s3.heap.objs.size:=fun b hb=>Nat.lt_of_lt_of_le (hfs b hb) (by rw[hsz3];exact Nat.le_succ _);have hns':h4.Ns s3.heap.objs.size fun _=>none:=by simpa using hns
 have K0:=fun tk=>Ej (tk:=tk) ck I3 f3 hfs3 hns' hk4;have stat:∀{H':Hp},(∀b∈fp,H' b=none)->∀b∈fp,mS (fH X scope cl Nc s3.heap.objs.size s3 H3 fp pins) [] H' b:=fun {H'} hn b hb=>by
  obtain⟨f0,g1,g2,g3,g4,g5⟩:=f3 b hb;refine⟨hn b hb,Nat.ne_of_lt (hfs3 b hb),fun z=>?_,.inl hb,fun x c e=>g4 x c (ck.sub x c e),fun p hp=>g5 p (by simpa using hp)⟩;exact(List.mem_cons.mp (I3.stkSub b z)).elim g1 g2
 have st4:tn 0 h4:=T.keep 0 _ _ st2 fun b hb o e=>hk4 b o (by rw[z3];exact Heap.get?_push_of_some _ e);have loop:∀tk,codeAny (model X.prog X.w) X.A (.compLoop (.ListComp elt [⟨tg,iter,ifs,0⟩] scope pos) 0 (.ref it) (.ref s2.heap.objs.size) (compEnvC scope cl s3.heap.objs.size X.env)) (RR (.ref s2.heap.objs.size) s3.heap.objs.size) { s3 with heap:=h4,toks:=tk }:=by
  intro tk;refine Hr (fun n s'=>∃i ys H',Inv (fH X scope cl Nc s3.heap.objs.size s3 H3 fp pins) [] (σC nl fr σ) H' s'/\tn i s'.heap/\(∀b∈fp,H' b=none)/\W i n ys H') ?_ m0 ⟨0,[],H3,K0 tk,st4,fun b hb=>(f3 b hb).1,w0⟩;rintro n s5 ⟨i,ys,H5,I5,st5,fr5,w5⟩;obtain⟨hl5,q5⟩:=turn i n ys H5 w5;rcases q5 with ⟨stop,qn⟩ | ⟨go,step⟩
  ·refine wpAny_mono (T.done (fH X scope cl Nc s3.heap.objs.size s3 H3 fp pins) rfl rfl rfl hc i [] s5 (σC nl fr σ) H5 (fun _ _=>False) I5 (stat fr5) st5 stop) (fun r s6 h6=>?_) fun _ _ z=>z;obtain⟨hr,I6⟩:=h6;subst hr;obtain⟨z1,z2⟩:=Nr I3 f3 I6;refine fin _ _ _ ⟨H5,?_,z1,z2,qn⟩;obtain⟨m,hm,_⟩:=I6.loc;exact⟨m,hm⟩
  ·refine wpAny_mono (T.item (fH X scope cl Nc s3.heap.objs.size s3 H3 fp pins) rfl rfl rfl hc i [] s5 (σC nl fr σ) H5 (fun _ _=>False) I5 (stat fr5) st5 go) (fun r s6 h6=>?_) fun _ _ z=>z;obtain⟨u,hr,h6⟩:=h6;subst hr;refine wpAny_mono h6 (fun _ s7 h7=>?_) fun _ _ z=>z;obtain⟨x,H7,I7,r7,y7,st7,fr7⟩:=h7;have I7':=I7.pinned (stat fr7) (T.obj _ _ st7);refine wpAny_mono (hg s3.heap.objs.size s3 H3 fp pins _ s7 _ H7 x u _ I7' r7 (step x H7 y7)) (fun _ s8 h8=>?_) fun _ _ z=>z;obtain⟨σ8,H8,I8,l8,k8,q8⟩:=h8;refine wpAny_mono (ht s3.heap.objs.size s3 H3 fp pins _ s8 σ8 H8 _ I8 q8) (fun b s9 h9=>?_) fun _ _ z=>z;obtain⟨H9,I9,q9⟩:=h9;have again:∀{ys':List V} {H':Hp} {s':Shared} {m':Nat},Inv (fH X scope cl Nc s3.heap.objs.size s3 H3 fp pins) ([]++vU fp s7.heap) σ8 H' s'->m' < n->W (i+1) m' ys' H'->
     ∃m,m < n/\∃i ys H',Inv (fH X scope cl Nc s3.heap.objs.size s3 H3 fp pins) [] (σC nl fr σ) H' s'/\tn i s'.heap/\(∀b∈fp,H' b=none)/\W i m ys H':=fun {ys' H' s' m'} I' hm w'=>by
    refine⟨m',hm,i+1,ys',H',I'.unpinned.weak l8.symm k8,T.keep _ _ _ st7 fun b hb o e=>(I'.pin (b,o) (List.mem_append_right _ (List.mem_append_right _ (kE hb e)))).1,fun b hb=>?_,w'⟩;obtain⟨o,e,d⟩:=T.obj _ _ st7 b hb;exact(I'.pin (b,o) (List.mem_append_right _ (List.mem_append_right _ (kE hb e)))).2.1
   cases b with
   |false=>
    rw[if_neg Bool.false_ne_true] at q9 ⊢;obtain⟨m',hm,w9⟩:=q9;exact again I9 hm w9
   |true=>
    rw[if_pos rfl] at q9 ⊢;refine wpAny_mono (he s3.heap.objs.size s3 H3 fp pins _ s9 σ8 H9 _ I9 q9) (fun yv s10 h10=>?_) fun _ _ z=>z;obtain⟨y,H10,I10,r10,hl10,hz10,m',hm,w10⟩:=h10;refine wpAny_mono (gO (X:=fH X scope cl Nc s3.heap.objs.size s3 H3 fp pins) _ s10 σ8 H10 (.ref s2.heap.objs.size) [y] _ [yv] (fun v H'=>H'=upd H10 s2.heap.objs.size (.lst (ys++[y]))) I10 rfl (.cons r10 .nil) ⟨_,ys,y,rfl,rfl,hl10,hz10,rfl⟩) (fun _ s11 h11=>?_) fun _ _ z=>z;obtain⟨_,H11,I11,_,e11⟩:=h11;subst e11;exact again I11 hm w10
 have L:=loop (s2.toks+([]:List (Str × Value)).length);rw[show s3.gens=s2.gens by rw[<- hs3],show s3.drawn=s2.drawn by rw[<- hs3],show s3.os=s2.os by rw[<- hs3]] at L;exact codeAny_compStart_list L (T.self _ 0 _ _ _ st4 L)
theorem gL (hc:X.calm=true)(ck:zC X scope cl Nc nl fr)(hi:PI X tg iter wi)(hg:∀C s3 H3 fp pins,PG (fH X scope cl Nc C s3 H3 fp pins) tg g)(ht:∀C s3 H3 fp pins,PIf (fH X scope cl Nc C s3 H3 fp pins) ifs tt)(he:∀C s3 H3 fp pins,PE (fH X scope cl Nc C s3 H3 fp pins) elt te)(hs:∀x,foldedSetIterable iter X.env x=pure x:=by intro _;rfl):PE X (.ListComp elt [⟨tg,iter,ifs,0⟩] scope pos) (Op wi nl fr g tt te):=by
 intro pins s σ H Q I h;rw[eval_ListComp];refine wpAny_comprehension_free (use:=none) rfl hs ck.clos ck.kind ck.names (Cw (RR:=fun acc C=>compPost (model X.prog X.w) X.A X.xe none (EP X pins σ Q) acc C) hc ck hi hg ht he I h fun D C s' hh=>?_);obtain⟨H',⟨m,hm⟩,hI,hF,q⟩:=hh;exact⟨m,hm,fun h' hs'=>⟨.ref D,H',hI.off hF hs',rfl,q⟩⟩
theorem tT {i:Nat}{y:Str}{py spos:Pos}(hN:X.N.Nodup)(hiy:X.N[i]?=some y)(hy:X.env.scope.names.lookup y=some .local)(hc:X.calm=true)(ck:zC X scope cl Nc nl fr)(hi:PI X tg iter wi)(hg:∀C s3 H3 fp pins,PG (fH X scope cl Nc C s3 H3 fp pins) tg g)(ht:∀C s3 H3 fp pins,PIf (fH X scope cl Nc C s3 H3 fp pins) ifs tt)(he:∀C s3 H3 fp pins,PE (fH X scope cl Nc C s3 H3 fp pins) elt te)(hsw:swapsWith (.ListComp elt [⟨tg,iter,ifs,0⟩] scope pos) (some (.Name y py)) spos.line X.env=pure true)(hs:∀x,foldedSetIterable iter X.env x=pure x:=by intro _;rfl):PS X (.Assign [.Name y py] (.ListComp elt [⟨tg,iter,ifs,0⟩] scope pos) spos) (Xa (Op wi nl fr g tt te) (jL i)):=by
 intro pins s σ H D I h;rw[exec_Assign_Name_used _ _ _ _ hsw];refine wpAny_bind (wpAny_standAt (wpAny_bind ?_));show wpAny _ X.A (do let _ <- comprehension (.ListComp elt [⟨tg,iter,ifs,0⟩] scope pos) scope X.env _ (newList []) false (eval iter X.env) (some (assign (.Name y py) X.env))) _ _ s;refine wpAny_bind (wpAny_mono (wpAny_comprehension_free (use:=some (assign (.Name y py) X.env)) (Q:=fun _ s'=>SP X pins D .next s') rfl hs ck.clos ck.kind ck.names
  (Cw (RR:=fun acc C=>compPost (model X.prog X.w) X.A X.xe (some (assign (.Name y py) X.env)) (fun _ s'=>SP X pins D .next s') acc C) hc ck hi hg ht he I h fun Dd C s' hh=>?_)) (fun _ s' hq=>wpAny_pure (wpAny_pure hq)) fun _ _ e=>e)
 obtain⟨H',⟨m,hm⟩,hI,hF,q⟩:=hh;show wpAny _ X.A (assign (.Name y py) X.env (.ref Dd)) _ _ _;refine wpAny_assign_Name (wS hI hN hiy (.inl hy) (v:=.ref Dd) rfl (fun s2 I2 hsb=>?_) (.inr hy));obtain⟨a,sb,ha⟩:=hsb;have hCa:C≠a:=by
  rcases ha with z | z
  ·rw[z];exact hF.2.1
  ·exact Ne.symm (hF.2.2.2.2.1 y a z)
 refine⟨m,hm.sameBut sb hCa,fun h' hs'=>⟨_,H',I2.off hF hs',q⟩⟩
end
end L2
namespace Mq
abbrev Q2:=Int × Int
def gc (a b:Int):Int:=(Int.gcd a b:Nat)
theorem He (a b:Int):gc b (Int.fmod a b)=gc a b:=by
 unfold gc;rw[Int.fmod_def,Int.gcd_comm a b,Int.sub_eq_add_neg,<- Int.mul_neg,Int.gcd_add_mul_left_right]
theorem xK {a b:Int}(h:b≠0):(Int.fmod a b).natAbs < b.natAbs:=by
 rcases (by omega:0 < b\/b < 0) with h1 | h1
 ·have:=Int.fmod_nonneg_of_pos a h1;have:=Int.fmod_lt_of_pos a h1;omega
 ·have h2:0 < -b:=by omega
  have e:Int.fmod a b=- Int.fmod (-a) (-b):=by
   rw[Int.neg_fmod_neg];omega
  have:=Int.fmod_nonneg_of_pos (-a) h2;have:=Int.fmod_lt_of_pos (-a) h2;omega
theorem Gz (a:Int):gc a 0=if a < 0 then -a else a:=by
 unfold gc;rw[Int.gcd_zero];split<;>omega
theorem Xr (a b:Int):gc (if a < 0 then -a else a) (if b < 0 then -b else b)=gc a b:=by
 unfold gc;split<;>split<;>simp
theorem tV {a b:Int}(h:b≠0):0 < gc a b:=by
 have:=Int.gcd_pos_of_ne_zero_right a h;unfold gc;omega
structure Low (p:Q2):Prop where
 pos:1<=p.2
 one:gc p.1 p.2=1
def dvr (t b:Int):Int:=if b < 0 then -gc t b else gc t b
def red (t b:Int):Q2:=(Int.fdiv t (dvr t b),Int.fdiv b (dvr t b))
theorem qC {t b:Int}(h:b≠0):dvr t b≠0:=by
 have:=tV (a:=t) h;unfold dvr;split<;>omega
theorem fV {a g k:Int}(hg:g≠0)(h:a=g*k):Int.fdiv a g=k:=by
 rw[h,Int.mul_fdiv_cancel_left _ hg]
theorem Qz (t b:Int):dvr t b ∣ t/\dvr t b ∣ b:=by
 have h1:gc t b ∣ t:=Int.gcd_dvd_left t b;have h2:gc t b ∣ b:=Int.gcd_dvd_right t b;unfold dvr;split
 ·exact⟨Int.neg_dvd.mpr h1,Int.neg_dvd.mpr h2⟩
 ·exact⟨h1,h2⟩
theorem lZ {t b:Int}(h:b≠0):t=dvr t b*(red t b).1/\b=dvr t b*(red t b).2:=by
 obtain⟨⟨x,hx⟩,⟨y,hy⟩⟩:=Qz t b;have hg:=qC (t:=t) h;have e1:(red t b).1=x:=fV hg hx;have e2:(red t b).2=y:=fV hg hy;rw[e1,e2];exact⟨hx,hy⟩
theorem iF {t b:Int}(h:b≠0):Low (red t b):=by
 obtain⟨h1,h2⟩:=lZ (t:=t) h;have hg:=qC (t:=t) h;have hp:=tV (a:=t) h;have nd:(dvr t b).natAbs=(gc t b).natAbs:=by unfold dvr;split<;>simp
 have e:Int.gcd t b=(dvr t b).natAbs*Int.gcd (red t b).1 (red t b).2:=by
  rw[<- Int.gcd_mul_left,<- h1,<- h2]
 have e2:(gc t b).natAbs=Int.gcd t b:=by unfold gc;simp
 rw[nd,e2] at e;have hp':0 < Int.gcd t b:=by unfold gc at hp;omega
 have one:Int.gcd (red t b).1 (red t b).2=1:=by
  have:Int.gcd t b*Int.gcd (red t b).1 (red t b).2=Int.gcd t b*1:=by omega
  exact Nat.eq_of_mul_eq_mul_left hp' this
 refine⟨?_,by unfold gc;rw[one];rfl⟩;have sgn:0 < (red t b).2:=by
  by_cases hb:b < 0
  ·have hd:dvr t b < 0:=by unfold dvr;rw[if_pos hb];omega
   have hq:¬(red t b).2<=0:=fun q=>by
    have:=Int.mul_nonneg_of_nonpos_of_nonpos (Int.le_of_lt hd) q;omega
   omega
  ·have hd:0 < dvr t b:=by unfold dvr;rw[if_neg hb];omega
   have hq:¬(red t b).2<=0:=fun q=>by
    have:=Int.mul_nonpos_of_nonneg_of_nonpos (Int.le_of_lt hd) q;omega
   omega
 omega
theorem wZ {t b:Int}(h:b≠0):(red t b).1*b=t*(red t b).2:=by
 obtain⟨h1,h2⟩:=lZ (t:=t) h;generalize (red t b).1=x at *
 generalize (red t b).2=y at *
 generalize dvr t b=g at *
 subst h1 h2;grind
theorem iU {a g k:Int}(hg:g≠0)(h:a=g*k):k.natAbs<=a.natAbs:=by
 rw[h,Int.natAbs_mul];exact Nat.le_mul_of_pos_left _ (by omega)
theorem lK {t b:Int}(h:b≠0):(red t b).1.natAbs<=t.natAbs/\(red t b).2.natAbs<=b.natAbs:=by
 obtain⟨h1,h2⟩:=lZ (t:=t) h;exact⟨iU (qC h) h1,iU (qC h) h2⟩
theorem Ef {t b:Int}(h:b≠0):(dvr t b).natAbs<=b.natAbs:=by
 have e:(dvr t b).natAbs=Int.gcd t b:=by unfold dvr gc;split<;>simp
 rw[e];exact Int.gcd_le_natAbs_right t h
theorem Ni {p q:Q2}(hp:Low p)(hq:Low q)(h:p.1*q.2=q.1*p.2):p=q:=by
 have gp:Int.gcd p.2 p.1=1:=by have:=hp.one;rw[Int.gcd_comm];unfold gc at this;omega
 have gq:Int.gcd q.2 q.1=1:=by have:=hq.one;rw[Int.gcd_comm];unfold gc at this;omega
 have d1:p.2 ∣ q.2:=by
  have:p.2 ∣ p.1*q.2:=⟨q.1,by rw[h,Int.mul_comm]⟩
  have:=Int.dvd_gcd_mul_iff_dvd_mul.mpr this;rw[gp] at this;simpa using this
 have d2:q.2 ∣ p.2:=by
  have:q.2 ∣ q.1*p.2:=⟨p.1,by rw[<- h,Int.mul_comm]⟩
  have:=Int.dvd_gcd_mul_iff_dvd_mul.mpr this;rw[gq] at this;simpa using this
 have l1:=Int.le_of_dvd (by have:=hq.pos;omega) d1;have l2:=Int.le_of_dvd (by have:=hp.pos;omega) d2;have e2:p.2=q.2:=by omega
 have e1:p.1=q.1:=by
  rw[e2] at h;exact Int.eq_of_mul_eq_mul_right (by have:=hq.pos;omega) h
 exact Prod.ext e1 e2
def fL (p q:Q2):Q2:=red (p.1*q.2+q.1*p.2) (p.2*q.2)
def minus (p q:Q2):Q2:=red (p.1*q.2 - q.1*p.2) (p.2*q.2)
def gM (p q:Q2):Q2:=red (p.1*q.1) (p.2*q.2)
def oE (p q:Q2):Q2:=red (p.1*q.2) (p.2*q.1)
theorem gE {a b:Int}(ha:1<=a)(hb:1<=b):a*b≠0:=by
 have:=Int.mul_pos (show 0 < a by omega) (show 0 < b by omega);omega
theorem jM {p q:Q2}(hp:1<=p.2)(hq:1<=q.2):Low (fL p q):=iF (gE hp hq)
def B (n:Nat)(i:Int):Prop:=i.natAbs < 2 ^ n
structure Bd (n:Nat) (p:Q2):Prop where
 a:B n p.1
 b:B n p.2
theorem B.mono {n m:Nat}{i:Int}(h:B n i)(l:n<=m):B m i:=Nat.lt_of_lt_of_le h (Nat.pow_le_pow_right (by decide) l)
theorem B.mul {n m:Nat}{i j:Int}(h:B n i)(q:B m j):B (n+m) (i*j):=by
 unfold B at *
 rw[Int.natAbs_mul,Nat.pow_add];exact Nat.mul_lt_mul'' h q
theorem B.add {n:Nat}{i j:Int}(h:B n i)(q:B n j):B (n+1) (i+j):=by
 unfold B at *
 have:=Int.natAbs_add_le i j;rw[Nat.pow_succ];omega
theorem B.neg {n:Nat}{i:Int}(h:B n i):B n (-i):=by unfold B at *;omega
theorem B.sub {n:Nat}{i j:Int}(h:B n i)(q:B n j):B (n+1) (i - j):=by
 rw[Int.sub_eq_add_neg];exact h.add q.neg
theorem B.le {n:Nat}{i j:Int}(h:B n i)(l:j.natAbs<=i.natAbs):B n j:=Nat.lt_of_le_of_lt l h
theorem Bd.mono {n m:Nat}{p:Q2}(h:Bd n p)(l:n<=m):Bd m p:=⟨h.a.mono l,h.b.mono l⟩
theorem mD {n m:Nat}{p q:Q2}(h:Bd n p)(g:Bd m q)(hp:1<=p.2)(hq:1<=q.2):Bd (n+m+1) (fL p q):=by
 have k:=lK (t:=p.1*q.2+q.1*p.2) (gE hp hq);have a2:B (n+m) (q.1*p.2):=by rw[Nat.add_comm];exact g.a.mul h.b
 exact⟨((h.a.mul g.b).add a2).le k.1,((h.b.mul g.b).mono (Nat.le_succ _)).le k.2⟩
def Pos (l:List Q2):Prop:=∀f∈l,1<=f.2
end Mq
namespace L2
open PySem PySem.Spec PyProof.Rows
structure bZ (K:Frag) (x qual:Str) (st:Stmt) (dV:Value) (f:Addr) (fd:FuncData):Prop where
 ex:∃(oc:Value) (od:Option Addr) (kV doc pm:Value) (an:Option Addr) (cdv ct:Value) (osl:Array (Option Value)),
  fd=PySem.W.fnOf x qual (aR st) (aP st) (aE st) dV kV doc pm an cdv ct/\K.lookup f=some ⟨oc,od,.func fd,osl⟩/\PySem.W.codeIn K cdv qual=true
 kp:PySem.W.keepIn K (.ref f)=true
section
variable {P:Program} {w:World} {K:Frag} {mg:Str->Option Value} {base:Heap} {CX:CXT}
theorem bZ.okX {x qual:Str}{st:Stmt}{dV:Value}{f:Addr}{fd:FuncData}{N ps:List Str}{k:Nat}{sp:Sp}(F:bZ K x qual st dV f fd)(S:aT N ps (aE st))(len:∀vs H Q E,sp vs H Q E->vs.length=ps.length)(hbody:∀(cdv:Value) (A:Around) (outer:List Env) (s:Shared) (H:Hp) (vs:List V) (Q:VK) (E:XK),gS k (A.deeper (envOfC qual (aE st) s.heap.objs.size f cdv))->sp vs H Q E->
   ∃t,PSs (Ea CX P w K mg base N qual (aE st) f cdv A outer s H E) (aP st) t/\t { nx:=fun _ H'=>Q .non H',rt:=Q } (start N vs) H):aM P w K mg base CX (k+1) f fd ps sp:=by
 obtain⟨oc,od,kV,doc,pm,an,cdv,ct,osl,rfl,lk,hcd⟩:=F.ex;exact Zl lk hcd S len fun A outer s H vs Q E hr hsp=>hbody cdv A outer s H vs Q E hr hsp
theorem bZ.ok {x qual:Str}{st:Stmt}{dV:Value}{f:Addr}{fd:FuncData}{N ps:List Str}{k:Nat}{sp:Sp}(F:bZ K x qual st dV f fd)(S:aT N ps (aE st))(len:∀vs H Q E,sp vs H Q E->vs.length=ps.length)(hbody:∀(cdv:Value) (A:Around) (outer:List Env) (s:Shared) (H:Hp) (vs:List V) (Q:VK) (E:XK),gS k (A.deeper (envOfC qual (aE st) s.heap.objs.size f cdv))->sp vs H Q E->
   ∃t,PSs (Ea CX P w K mg base N qual (aE st) f cdv A outer s H E).nox (aP st) t/\t { nx:=fun _ H'=>Q .non H',rt:=Q } (start N vs) H):aM P w K mg base CX (k+1) f fd ps sp:=
 F.okX S len fun cdv A outer s H vs Q E hr hsp=>by
  obtain⟨t,h,q⟩:=hbody cdv A outer s H vs Q E hr hsp;exact⟨t,h.nox,q⟩
theorem bZ.binds {x qual:Str}{st:Stmt}{dV:Value}{f:Addr}{fd:FuncData}{ps:List Str}(F:bZ K x qual st dV f fd)(h:∀(kV doc pm:Value) (an:Option Addr) (cdv ct:Value) (us:List Value),us.length=ps.length->bindArgs (PySem.W.fnOf x qual (aR st) (aP st) (aE st) dV kV doc pm an cdv ct) ⟨us,[]⟩=pure (ps.zip us)):aQ K fd ps []:=by
 obtain⟨oc,od,kV,doc,pm,an,cdv,ct,osl,rfl,lk,hcd⟩:=F.ex;exact .all (h kV doc pm an cdv ct)
theorem aW {x qual:Str}{st:Stmt}{dV:Value}{f:Addr}{oc:Value}{od an:Option Addr}{osl:Array (Option Value)}{kV doc pm cdv ct:Value}(l:K.lookup f=some ⟨oc,od,.func (PySem.W.fnOf x qual (aR st) (aP st) (aE st) dV kV doc pm an cdv ct),osl⟩)(c:PySem.W.codeIn K cdv qual=true)(k:kI9 K f):bZ K x qual st dV f (PySem.W.fnOf x qual (aR st) (aP st) (aE st) dV kV doc pm an cdv ct):=⟨⟨oc,od,kV,doc,pm,an,cdv,ct,osl,rfl,l,c⟩,k⟩
end
abbrev fT (p:Mq.Q2):HO:=.tup [.int p.1,.int p.2]
def Fq (K:Frag)(H:Hp)(a:Addr)(p:Mq.Q2):Prop:=SqT K H a [.int p.1,.int p.2]
theorem bF.seqT {K:Frag}{H H':Hp}{a:Addr}{xs:List V}(e:bF H H')(h:SqT K H a xs):SqT K H' a xs:=by
 rcases h with (h | ⟨o,h⟩) | h
 ·exact .inl (.inl (e _ _ h))
 ·exact .inl (.inr ⟨o,e _ _ h⟩)
 ·exact .inr h
theorem aI {H:Hp}{p:Addr}(h:H p=none)(o:HO):bF H (upd H p o):=fun b u q=>by rw[aV (bC q h)];exact q
theorem bF.fq {K:Frag}{H H':Hp}{a:Addr}{p:Mq.Q2}(e:bF H H')(h:Fq K H a p):Fq K H' a p:=e.seqT h
theorem Fq.of {K:Frag}{H:Hp}{a:Addr}{p:Mq.Q2}(h:H a=some (fT p)):Fq K H a p:=SqT.of h
theorem dU {K:Frag}{σ:St}{H:Hp}{i:Nat}{a:Addr}{p:Mq.Q2}{Q:VK}(hv:σ[i]?=some (some (.ref a)))(h:Fq K H a p)(q:Q (.int p.1) H):tOp (Qt K) (Tt i) (tC (.int 0)) σ H Q:=
 ⟨_,hv,a,_,_,_,rfl,rfl,h,rfl,q⟩
theorem cT {K:Frag}{σ:St}{H:Hp}{i:Nat}{a:Addr}{p:Mq.Q2}{Q:VK}(hv:σ[i]?=some (some (.ref a)))(h:Fq K H a p)(q:Q (.int p.2) H):tOp (Qt K) (Tt i) (tC (.int 1)) σ H Q:=
 ⟨_,hv,a,_,_,_,rfl,rfl,h,rfl,q⟩
theorem cO {H:Hp}{n m:Nat}{i j:Int}{Q:VK}(h1:Mq.B n i)(h2:Mq.B m j)(h3:n<=1048576)(h4:m<=1048576)(q:Q (.int (i*j)) H):rI To (fun i j=>.int (i*j)) (.int i) (.int j) H Q:=
 ⟨_,_,rfl,rfl,⟨n,m,h1,h2,h3,h4⟩,q⟩
theorem fP {H:Hp}{n:Nat}{i j:Int}{Q:VK}(h1:j≠0)(h2:Mq.B n j)(h3:n<=9000)(q:Q (.int (i.fdiv j)) H):rI Es (fun i j=>.int (i.fdiv j)) (.int i) (.int j) H Q:=
 ⟨_,_,rfl,rfl,⟨h1,n,h2,h3⟩,q⟩
structure Bl (mg:Str->Option Value):Prop where
 isi:mg "isinstance"=none
 int:mg "int"=none
 bool:mg "bool"=none
 abs:mg "abs"=none
def uU (t:Value):Prop:=t=.type "bool"\/t=.type "str"\/t=.type "NoneType"\/t=.type "tuple"\/t=.type "list"
def oG (K:Frag):Sp:=fun vs H Q _=>∃x,vs=[x]/\((∃i,x=.int i/\Q (.bl true) H)\/(∃t,mU K H x t/\uU t/\Q (.bl false) H))
def Td:Sp:=fun vs H Q _=>∃a b:Int,vs=[.int a,.int b]/\Q (.int (Mq.gc a b)) H
def sQ (H:Hp)(Q:VK)(p:Mq.Q2):Prop:=∀a H',bF H H'->H' a=some (fT p)->Q (.ref a) H'
def iO:Sp:=fun vs H Q _=>∃(t b:Int) (n:Nat),vs=[.int t,.int b]/\b≠0/\Mq.B n b/\n<=9000/\sQ H Q (Mq.red t b)
def iV (K:Frag)(f:Mq.Q2->Mq.Q2->Mq.Q2):Sp:=fun vs H Q _=>∃(a b:Addr) (p q:Mq.Q2) (n m:Nat),vs=[.ref a,.ref b]/\Fq K H a p/\Fq K H b q/\1<=p.2/\1<=q.2/\Mq.Bd n p/\Mq.Bd m q/\n+m+1<=9000/\sQ H Q (f p q)
inductive Fqs (K:Frag) (H:Hp):List V->List Mq.Q2->Prop where
 |nil:Fqs K H [] []
 |cons {a:Addr} {p:Mq.Q2} {xs:List V} {ps:List Mq.Q2} (h:Fq K H a p) (q:Fqs K H xs ps):Fqs K H (.ref a :: xs) (p :: ps)
theorem Fqs.same {K:Frag}{H H':Hp}(e:bF H H'):∀{xs:List V} {ps:List Mq.Q2},Fqs K H xs ps->Fqs K H' xs ps
 |_,_,.nil=>.nil
 |_,_,.cons h q=>.cons (e.fq h) (Fqs.same e q)
theorem Fqs.length {K:Frag}{H:Hp}:∀{xs:List V} {ps:List Mq.Q2},Fqs K H xs ps->xs.length=ps.length
 |_,_,.nil=>rfl
 |_,_,.cons _ q=>by simp[Fqs.length q]
theorem Fqs.get {K:Frag}{H:Hp}:∀{xs:List V} {ps:List Mq.Q2} {i:Nat} {x:V},Fqs K H xs ps->xs[i]?=some x->∃a p,x=.ref a/\ps[i]?=some p/\Fq K H a p
 |_,_,_,_,.nil,h=>by simp at h
 |_,_,0,_,.cons h _,e=>by simp at e;exact⟨_,_,e.symm,rfl,h⟩
 |_,_,i+1,_,.cons _ q,e=>by simpa using Fqs.get q (by simpa using e)
theorem Fqs.app {K:Frag}{H:Hp}:∀{xs ys:List V} {ps qs:List Mq.Q2},Fqs K H xs ps->Fqs K H ys qs->Fqs K H (xs++ys) (ps++qs)
 |_,_,_,_,.nil,r=>r
 |_,_,_,_,.cons h q,r=>.cons h (Fqs.app q r)
theorem Fq.upd {K:Frag}{H:Hp}{a l:Addr}{p:Mq.Q2}{xs:List V}{o:HO}(h:Fq K H a p)(hl:H l=some (.lst xs)):Fq K (L2.upd H l o) a p:=by
 rcases h with (h | ⟨u,h⟩) | h
 ·exact .inl (.inl (by rw[aV (jD h hl (fun z=>by cases z))];exact h))
 ·exact .inl (.inr ⟨u,by rw[aV (jD h hl (fun z=>by cases z))];exact h⟩)
 ·exact .inr h
theorem Fqs.upd {K:Frag}{H:Hp}{l:Addr}{ys:List V}{o:HO}(hl:H l=some (.lst ys)):∀{xs:List V} {ps:List Mq.Q2},Fqs K H xs ps->Fqs K (L2.upd H l o) xs ps
 |_,_,.nil=>.nil
 |_,_,.cons h q=>.cons (h.upd hl) (Fqs.upd hl q)
theorem bF.change {H H':Hp}{l:Addr}{o:HO}(s:bF H H')(h:H l=none):bF H (L2.upd H' l o):=fun b u q=>by
 rw[aV (bC q h)];exact s b u q
def qd (p:Mq.Q2):PyData:=.tuple [.int p.1,.int p.2]
theorem Fq.dat {K:Frag}{H:Hp}{a:Addr}{p:Mq.Q2}(h:Fq K H a p):sS K H (.ref a) (qd p):=.tup h (.cons (.int _) (.cons (.int _) .nil))
theorem Ox (p:Mq.Q2):(qd p).canLay0=true:=rfl
theorem Ng (p:Mq.Q2):(qd p).depth<=1:=by simp[qd,PyData.depth,PyData.depthAll]
theorem Vv (p q:Mq.Q2):PyData.eqv (qd p) (qd q)=decide (p=q):=by
 unfold qd;simp only[PyData.eqv,PyData.eqvAll]
 by_cases h:p=q
 ·subst h;simp
 ·rw[decide_eq_false h]
  by_cases h1:p.1=q.1
  ·have h2:p.2≠q.2:=fun z=>h (Prod.ext h1 z);simp[h2]
  ·simp[h1]
theorem Pu {K:Frag}{H:Hp}{a b:Addr}{p q:Mq.Q2}{neg:Bool}{Q:VK}(h1:Fq K H a p)(h2:Fq K H b q)(z:Q (.bl (if neg then !decide (p=q) else decide (p=q))) H):Vi K neg (.ref a) (.ref b) H Q:=by
 refine⟨_,_,h1.dat,h2.dat,Ox p,Ox q,?_,?_⟩
 ·have:=Ng p;omega
 ·rw[Vv];exact z
abbrev Fm (nl:Nat)(fr:List Nat)(g:TG)(tt:TT)(te:TE)(σ:St)(D:Addr)(Pv:Nat->List V->Hp->Prop)(i:Nat)(ys:List V)(x:V)(H:Hp):Prop:=
 g x (σC nl fr σ) H fun σ2 H4=>σ2.length=(σC nl fr σ).length/\(∀(i:Nat) v,(σC nl fr σ)[i]?=some (some v)->σ2[i]?=some (some v))/\
  tt σ2 H4 fun b H5=>if b=true then te σ2 H5 fun y H6=>H6 D=some (.lst ys)/\ys.length < sizeLine/\Pv (i+1) (ys++[y]) (upd H6 D (.lst (ys++[y]))) else Pv (i+1) ys H5
section
variable {nl:Nat} {fr:List Nat} {g:TG} {tt:TT} {te:TE} {σ:St} {D:Addr} {H1:Hp} {Q:VK}
theorem nT {lo:Int}{n:Nat}(Pv:Nat->List V->Hp->Prop)(h0:Pv 0 [] (upd H1 D (.lst [])))(hl:∀i ys H,Pv i ys H->H D=some (.lst ys))(hs:∀i ys H,i < n->Pv i ys H->∀(C:Nat->List V->Hp->Prop),(∀ys H,Pv (i+1) ys H->C (i+1) ys H)->Fm nl fr g tt te σ D C i ys (.int (lo+i)) H)(hd:∀ys H,Pv n ys H->Q (.ref D) H) :
  Cm (Itr lo n) nl fr g tt te σ D H1 Q:=by
 refine⟨fun i m ys H=>m=n - i/\i<=n/\Pv i ys H,⟨n,by simp,Nat.zero_le _,h0⟩,?_⟩;rintro i m ys H ⟨rfl,hi,p⟩;refine⟨hl i ys H p,?_⟩
 by_cases hlt:i < n
 ·refine .inr ⟨hlt,fun x H' y=>?_⟩;obtain⟨e,y⟩:=y;subst e y;exact hs i ys _ hlt p (fun j zs Hz=>∃m',m' < n - i/\m'=n - j/\j<=n/\Pv j zs Hz) fun zs Hz z=>⟨n - (i+1),by omega,rfl,hlt,z⟩
 ·have e:i=n:=by omega
  subst e;exact .inl ⟨Nat.le_refl _,hd ys H p⟩
theorem gV {K:Frag}{a:Addr}{xs:List V}(Pv:Nat->List V->Hp->Prop)(h0:Pv 0 [] (upd H1 D (.lst [])))(hl:∀i ys H,Pv i ys H->H D=some (.lst ys))(hx:∀i ys H,i<=xs.length->Pv i ys H->SqL K H a xs)(hs:∀i ys x H,xs[i]?=some x->Pv i ys H->∀(C:Nat->List V->Hp->Prop),(∀ys H,Pv (i+1) ys H->C (i+1) ys H)->Fm nl fr g tt te σ D C i ys x H)(hd:∀ys H,Pv xs.length ys H->Q (.ref D) H) :
  Cm (Itl K a) nl fr g tt te σ D H1 Q:=by
 refine⟨fun i m ys H=>m=xs.length - i/\i<=xs.length/\Pv i ys H,⟨xs.length,by simp,Nat.zero_le _,h0⟩,?_⟩;rintro i m ys H ⟨rfl,hi,p⟩;refine⟨hl i ys H p,?_⟩;have q:=hx i ys H hi p
 by_cases hlt:i < xs.length
 ·refine .inr ⟨⟨xs,xs[i],q,by simp[hlt]⟩,fun x H' y=>?_⟩;obtain⟨e,y⟩:=y;subst e;exact hs i ys x _ (y xs q) p (fun j zs Hz=>∃m',m' < xs.length - i/\m'=xs.length - j/\j<=xs.length/\Pv j zs Hz) fun zs Hz z=>⟨xs.length - (i+1),by omega,rfl,hlt,z⟩
 ·have e:i=xs.length:=by omega
  subst e;exact .inl ⟨⟨xs,q,Nat.le_refl _⟩,hd ys H p⟩
end
theorem gG {fr:List Nat}{σ:St}{x:V}:((σC 1 fr σ).set 0 (some x)).length=(σC 1 fr σ).length/\∀(i:Nat) v,(σC 1 fr σ)[i]?=some (some v)->((σC 1 fr σ).set 0 (some x))[i]?=some (some v):=by
 refine⟨by simp,fun i v h=>?_⟩
 match i with
 |0=>unfold σC at h;simp at h
 |k+1=>rw[List.getElem?_set_ne (by omega)];exact h
theorem gD {names:List (Str × NameKind)}{cl:List (Str × Addr)}(h:names.all (fun y=>!(y.2 == .cell || y.2 == .free) || (cl.lookup y.1).isSome)=true)(x:Str)(hx:names.lookup x=some .cell\/names.lookup x=some .free):∃c,cl.lookup x=some c:=by
 have key:∀k,(k=NameKind.cell\/k=NameKind.free)->names.lookup x=some k->∃c,cl.lookup x=some c:=fun k hk e=>by
  have m:=List.all_eq_true.mp h _ (PySem.mem_of_lookup e);have:(k == NameKind.cell || k == NameKind.free)=true:=by rcases hk with rfl | rfl<;>rfl
  simp only[this,Bool.not_true,Bool.false_or] at m;exact Option.isSome_iff_exists.mp m
 rcases hx with e | e
 ·exact key _ (.inl rfl) e
 ·exact key _ (.inr rfl) e
section
variable {X:Cx} {pins:List (Addr × Obj)} {σ:St} {H:Hp} {s:Shared} {h':Heap}
theorem Inv.turnedL {t':Nat}{fp:List Addr}(I:Inv X pins σ H s)(k:∀b o,b∉fp->s.heap.get? b=some o->h'.get? b=some o)(hf:∀b∈fp,mS X pins H b):Inv X pins σ H { s with heap:=h',toks:=t' }:=by
 have nit:∀b u,H b=some u->b∉fp:=fun b u e z=>by rw[(hf b z).1] at e;cases e
 have nL:X.env.locals∉fp:=fun z=>(hf _ z).2.1 rfl;refine I.step (g':=s.gens) (d':=s.drawn) (ch:=fp) (fun b hb=>?_) (fun b o _ _ hc e _=>k b o hc e) (fun b o _ _ hc e _=>⟨o.slots,k b o hc e⟩) (fun _ _ _ _ n=>n)
  (fun b o hc e=>⟨o,k b o hc e⟩) (fun _ _ e=>e) (fun _ _ _ e=>e) (fun b ps e=>⟨#[],by rw[e];simp⟩) (fun m hm=>?_) (fun b u e=>?_) I.bare
 ·obtain⟨f0,f1,f2,f3,f4,f5⟩:=hf b hb;exact⟨f3,f1,f4,f5⟩
 ·obtain⟨o,es,ep,ho,r⟩:=hm;exact⟨o,es,ep,k _ o nL ho,r⟩
 ·refine(I.hok b u e).stay (fun c v hc q=>k c v ?_ q) (fun _ q=>q) fun _ _ q=>q;rcases hc with z | z
  ·rw[z];exact nit b u e
  ·exact nit c _ z
end
def Itz (K : Frag)(a b : Addr) : It :=
  ⟨fun i H => ∃ xs ys x y, SqL K H a xs /\ SqL K H b ys /\ xs[i]? = some x /\ ys[i]? = some y,
   fun i H v H' => ∃ T x y, v = .ref T /\ H T = none /\ H' = upd H T (.tup [x, y]) /\ ∀ xs ys, SqL K H a xs -> SqL K H b ys -> xs[i]? = some x /\ ys[i]? = some y,
   fun i H => ∃ xs ys, SqL K H a xs /\ SqL K H b ys /\ (xs.length <= i \/ ys.length <= i)⟩
def Yr (z TI TO i1 i2 l1 l2:Addr)(i:Nat)(h:Heap):Prop:=
 ZipApart z TI TO i1 i2 l1 l2/\IsZip h z TI TO .none/\IsPair h TI (.ref i1) (.ref i2)/\(∃a b,IsPair h TO a b)/\h.IsListIter i1 l1 i/\h.IsListIter i2 l2 i
theorem Pc {P:Program}{w:World}{K:Frag}{elts:List Expr}{kk:Nat}{tpos:Pos}(z TI TO i1 i2 l1 l2:Addr) :
  De P w K (.Tuple elts kk tpos) (Itz K l1 l2) [z,TI,TO,i1,i2] z (Yr z TI TO i1 i2 l1 l2) where
 mem:=by simp
 obj:=fun i h st b hb=>by
  obtain⟨ap,hz,hi,⟨a,c,ho⟩,⟨o1,e1,c1,d1⟩,⟨o2,e2,c2,d2⟩⟩:=st;simp only[List.mem_cons,List.not_mem_nil,or_false] at hb;rcases hb with rfl | rfl | rfl | rfl | rfl
  ·exact⟨_,hz,fun v q=>by cases q⟩
  ·exact⟨_,hi,fun v q=>by cases q⟩
  ·exact⟨_,ho,fun v q=>by cases q⟩
  ·exact⟨o1,e1,fun v q=>by rw[d1] at q;cases q⟩
  ·exact⟨o2,e2,fun v q=>by rw[d2] at q;cases q⟩
 keep:=fun i h h' st k=>by
  obtain⟨ap,hz,hi,⟨a,c,ho⟩,⟨o1,e1,c1,d1⟩,⟨o2,e2,c2,d2⟩⟩:=st;exact⟨ap,k _ (by simp) _ hz,k _ (by simp) _ hi,⟨a,c,k _ (by simp) _ ho⟩,⟨o1,k _ (by simp) _ e1,c1,d1⟩,⟨o2,k _ (by simp) _ e2,c2,d2⟩⟩
 item:=by
  intro X hP hw hK hc i pins s σ H E I hf st hg;subst hP hw hK;obtain⟨ap,hz,hi,⟨a,c,ho⟩,t1,t2⟩:=st;obtain⟨xs,ys,x,y,hx,hy,ex,ey⟩:=hg;obtain⟨its1,rv1,p1,z1⟩:=I.list hx;obtain⟨its2,rv2,p2,z2⟩:=I.list hy;obtain⟨u1,hu1,ru1⟩:=rv1.get ex;obtain⟨u2,hu2,ru2⟩:=rv2.get ey;refine wpAny_pyNext_zip_item ap hz hi ho t1 t2 p1.isList p2.isList (x:=u1) (y:=u2) (by simpa using hu1) (by simpa using hu2) fun h' g1 g2 g3 g4 g5 g6 kk'=>?_;have hn:H s.heap.objs.size=none:=I.hok.fresh (Nat.le_refl _);have lt:∀b∈[z,TI,TO,i1,i2],b < s.heap.objs.size:=fun b hb=>by
   simp only[List.mem_cons,List.not_mem_nil,or_false] at hb;obtain⟨o1,e1,_⟩:=t1;obtain⟨o2,e2,_⟩:=t2;rcases hb with rfl | rfl | rfl | rfl | rfl
   ·exact Heap.lt_size hz
   ·exact Heap.lt_size hi
   ·exact Heap.lt_size ho
   ·exact Heap.lt_size e1
   ·exact Heap.lt_size e2
  have I1:Inv X pins σ (upd H s.heap.objs.size (.tup [x,y])) { s with heap:=s.heap.push { cls:=.type "tuple",data:=.seq #[u1,u2] } }:=
   I.laid (t':=s.toks) (fun b o e=>Heap.get?_push_of_some _ e) (Nat.le_refl _) (show dR X.prog X.w _ _ _ (.tup [x,y]) from ⟨zl9 2,[u1,u2],.cons ru1 (.cons ru2 .nil),IsTup.new _ _⟩)
  have hf1:∀b∈[z,TI,TO,i1,i2],mS X pins (upd H s.heap.objs.size (.tup [x,y])) b:=fun b hb=>⟨by rw[aV (Nat.ne_of_lt (lt b hb))];exact(hf b hb).1,(hf b hb).2⟩
  have k1:∀b o,b∉[z,TI,TO,i1,i2]->(s.heap.push { cls:=.type "tuple",data:=.seq #[u1,u2] }).get? b=some o->h'.get? b=some o:=fun b o nb e=>by
   simp only[List.mem_cons,List.not_mem_nil,or_false,not_or] at nb
   by_cases hb:b=s.heap.objs.size
   ·subst hb;rw[Heap.get?_push_size _ rfl] at e
    cases e
    exact g5
   ·have e0:s.heap.get? b=some o:=by rw[Heap.get?_push_ne _ _ _ hb] at e;exact e
    exact kk' b o nb.1 nb.2.2.1 nb.2.2.2.1 nb.2.2.2.2 e0
  have I2:Inv X pins σ (upd H s.heap.objs.size (.tup [x,y])) { s with heap:=h',toks:=s.toks }:=I1.turnedL (t':=s.toks) k1 hf1;refine⟨_,rfl,wpAny_letOwnedTupleGo_zip (s:={ s with heap:=h' }) g1 fun h2 q1 q2=>?_⟩;have kz:∀b o,b≠z->h'.get? b=some o->h2.get? b=some o:=fun b o nb e=>(q2.2 b nb).trans e;have I3:Inv X pins σ (upd H s.heap.objs.size (.tup [x,y])) { s with heap:=h2,toks:=s.toks }:=Inv.turnedL (s:={ s with heap:=h',toks:=s.toks }) (t':=s.toks) (fp:=[z]) I2 (fun b o nb e=>kz b o (by simpa using nb) e) fun b hb=>hf1 b (by simp at hb;simp[hb]);have hTI:h'.get? TI=some { cls:=.type "tuple",data:=.seq #[.ref i1,.ref i2] }:=kk' TI _ ap.TIz ap.TITO ap.TIi1 ap.TIi2 hi;obtain⟨o3,e3,c3,d3⟩:=g3;obtain⟨o4,e4,c4,d4⟩:=g4;refine⟨.ref s.heap.objs.size,_,I3,rfl,⟨_,x,y,rfl,hn,rfl,fun xs' ys' h1 h2=>?_⟩,⟨ap,q1,kz _ _ ap.TIz hTI,⟨_,_,kz _ _ ap.TOz g2⟩,⟨o3,kz _ _ ap.i1z e3,c3,d3⟩,⟨o4,kz _ _ ap.i2z e4,c4,d4⟩⟩,fun b hb=>(hf1 b hb).1⟩;rw[I.list_inj h1 hx,I.list_inj h2 hy];exact⟨ex,ey⟩
 done:=by
  intro X hP hw hK hc i pins s σ H E I hf st hg;subst hP hw hK;obtain⟨ap,hz,hi,⟨a,c,ho⟩,t1,t2⟩:=st;obtain⟨xs,ys,hx,hy,hor⟩:=hg;obtain⟨its1,rv1,p1,z1⟩:=I.list hx;obtain⟨its2,rv2,p2,z2⟩:=I.list hy;have l1':=rv1.length;have l2':=rv2.length;refine wpAny_pyNext_zip_end (I.ok.hd hc) ap hz hi ho t1 t2 p1.isList p2.isList (by rcases hor with h | h;left;simp;omega;right;simp;omega) fun h' kk'=>⟨rfl,?_⟩
  refine I.turnedL (t':=s.toks) (fun b o nb e=>?_) hf;simp only[List.mem_cons,List.not_mem_nil,or_false,not_or] at nb;exact kk' b o nb.1 nb.2.2.1 nb.2.2.2.1 nb.2.2.2.2 e
 self:=fun A i s Q E st h=>by
  obtain⟨ap,hz,hi,⟨a,c,ho⟩,t1,t2⟩:=st;exact wpAny_pyIter_zip hz h
section
variable {X:Cx}
def qe4 (K:Frag)(ta:TA):TI:=fun σ H R=>ta σ H fun vs H1=>∃a b,vs=[.ref a,.ref b]/\(∃xs,SqL K H1 a xs)/\(∃ys,SqL K H1 b ys)/\R (Itz K a b) H1
theorem Oo {e1 e2:Expr}{ta:TA}{p pos:Pos}{elts:List Expr}{kk:Nat}{tpos:Pos}(hg:Gl X "zip")(hm:X.mg "zip"=none)(hv:bootBuiltins "zip"=some (.type "zip"))(ha:PA X [e1,e2] ta)(hs:starEach [e1,e2] X.env=(false,eval e1 X.env) :: starEach [e2] X.env:=by rfl)(hpl:(backTo pos (starEach [e2] X.env)).any (·.1)=false:=by rfl):PI X (.Tuple elts kk tpos) (.Call (.Name "zip" p) [e1,e2] [] pos) (qe4 X.K ta):=by
 intro pins s σ H R I h;refine Call_ (kC I hg hm hv (PyProof.Rows.callWith_type1 (thn (ha pos pins s σ H _ I h) fun us s1 ⟨vs,H1,I1,r1,q1⟩=>?_) hs hpl));obtain⟨a,b,rfl,⟨xs,hx⟩,⟨ys,hy⟩,q⟩:=q1;obtain⟨u,w',rfl,ra,rb⟩:=Oy r1
 cases (show u=Value.ref a from ra)
 cases (show w'=Value.ref b from rb)
 obtain⟨its1,rv1,p1,z1⟩:=I1.list hx;obtain⟨its2,rv2,p2,z2⟩:=I1.list hy;have la:a < s1.heap.objs.size:=by obtain⟨o,e,_⟩:=p1.isList;exact Heap.lt_size e
 have lb:b < s1.heap.objs.size:=by obtain⟨o,e,_⟩:=p2.isList;exact Heap.lt_size e
 refine call_zip_2 p1.isList p2.isList fun h' g1 g2 g3 g4 g5 g6 kk'=>?_;refine wpAny_pyIter_zip g1 ?_;have ne:∀i j:Nat,i≠j->s1.heap.objs.size+i≠s1.heap.objs.size+j:=fun i j n e=>n (Nat.add_left_cancel e);have nl:∀(c:Addr) (i:Nat),c < s1.heap.objs.size->c≠s1.heap.objs.size+i:=fun c i l e=>absurd (Nat.lt_of_lt_of_le l (Nat.le_add_right _ i)) (by rw[<- e];exact Nat.lt_irrefl _);have n0:∀j:Nat,j≠0->s1.heap.objs.size+j≠s1.heap.objs.size:=fun j n e=>n (Nat.add_left_cancel (e.trans (Nat.add_zero _).symm));refine⟨s1.heap.objs.size+4,[s1.heap.objs.size+4,s1.heap.objs.size+2,s1.heap.objs.size+3,s1.heap.objs.size,s1.heap.objs.size+1],_,Itz X.K a b,H1,rfl,I1.kept (t':=s1.toks) kk',Pc _ _ _ _ _ a b,⟨?_,g1,g2,⟨_,_,g3⟩,g4,g5⟩,fun c hc=>?_,q⟩
 ·exact⟨ne 2 4 (by decide),ne 3 4 (by decide),(n0 4 (by decide)).symm,ne 1 4 (by decide),ne 2 3 (by decide),n0 2 (by decide),ne 2 1 (by decide),n0 3 (by decide),ne 3 1 (by decide),(n0 1 (by decide)).symm,
   nl a 4 la,nl a 3 la,Nat.ne_of_lt la,nl a 1 la,nl b 4 lb,nl b 3 lb,Nat.ne_of_lt lb,nl b 1 lb⟩
 ·have hle:s1.heap.objs.size<=c:=by
   simp only[List.mem_cons,List.not_mem_nil,or_false] at hc;rcases hc with rfl | rfl | rfl | rfl | rfl<;>first | exact Nat.le_add_right _ _ | exact Nat.le_refl _
  exact I1.fpOk hle (I1.hok.fresh hle)
theorem Cp {K:Frag}{a b:Addr}{xs ys:List V}{nl:Nat}{fr:List Nat}{g:TG}{tt:TT}{te:TE}{σ:St}{D:Addr}{H1:Hp}{Q:VK}(Pv:Nat->List V->Hp->Prop)(h0:Pv 0 [] (upd H1 D (.lst [])))(hl:∀i zs H,Pv i zs H->H D=some (.lst zs))(hx:∀i zs H,i<=min xs.length ys.length->Pv i zs H->SqL K H a xs/\SqL K H b ys)(hs:∀i zs x y H T,xs[i]?=some x->ys[i]?=some y->Pv i zs H->H T=none->∀(C:Nat->List V->Hp->Prop),(∀zs H,Pv (i+1) zs H->C (i+1) zs H)->Fm nl fr g tt te σ D C i zs (.ref T) (upd H T (.tup [x,y])))(hd:∀zs H,Pv (min xs.length ys.length) zs H->Q (.ref D) H) :
  Cm (Itz K a b) nl fr g tt te σ D H1 Q:=by
 refine⟨fun i m zs H=>m=min xs.length ys.length - i/\i<=min xs.length ys.length/\Pv i zs H,⟨_,rfl,Nat.zero_le _,h0⟩,?_⟩;rintro i m zs H ⟨rfl,hi,p⟩;refine⟨hl i zs H p,?_⟩;obtain⟨qx,qy⟩:=hx i zs H hi p
 by_cases hlt:i < min xs.length ys.length
 ·have hx':i < xs.length:=by omega
  have hy':i < ys.length:=by omega
  refine .inr ⟨⟨xs,ys,xs[i],ys[i],qx,qy,by simp[hx'],by simp[hy']⟩,fun v H' z=>?_⟩;obtain⟨T,x,y,rfl,hT,rfl,hh⟩:=z;obtain⟨ex,ey⟩:=hh xs ys qx qy;exact hs i zs x y H T ex ey p hT (fun j zs Hz=>∃m',m' < min xs.length ys.length - i/\m'=min xs.length ys.length - j/\j<=min xs.length ys.length/\Pv j zs Hz) fun zs Hz z=>⟨min xs.length ys.length - (i+1),by omega,rfl,hlt,z⟩
 ·have e:i=min xs.length ys.length:=by omega
  subst e;exact .inl ⟨⟨xs,ys,qx,qy,by omega⟩,hd zs H p⟩
def Sj:V->List V->Hp->VK->Prop:=fun x vs H Q=>∃(l:Addr) (xs:List V) (k:Nat) (i:Int) (y:V),x=.ref l/\vs=[.int i,y]/\i=(k:Int)/\k<=xs.length/\H l=some (.lst xs)/\xs.length < sizeLine/\Q .non (upd H l (.lst (xs.take k++y :: xs.drop k)))
theorem Kc:MtM X "list.insert" Sj:=by
 intro pins s σ H x vs v us Q I rx rv h;obtain⟨l,xs,k,i,y,rfl,rfl,hik,hk,hH,hz,q⟩:=h
 cases rx
 obtain⟨u1,u2,rfl,⟨t,rfl⟩,ru⟩:=Oy rv;obtain⟨z,its,n,r,hl,e⟩:=I.lstM hH;have hs:sizeLine=16777216:=sizeLine_eq;have hfit:¬(!Builtin.List.listFitsIndex i)=true:=by
  rw[fitsIndex_both (by omega) (by omega)];exact Bool.false_ne_true
 have hM:=AutoSeq1.list_insert_list_int_val_1 l its.toArray n i t u2 hfit (by rw[List.size_toArray];omega);refine call_meets F.slot_list_insert ⟨_,e,rfl⟩ F.entry_list_insert (F.args_list_insert_3 (Value.ref l) (Value.int i t) u2) hM ⟨e,?_⟩;refine⟨.non,_,I.lset (its':=its.take k++u2 :: its.drop k) hH e ?_ ((r.take k).append (.cons ru (r.drop k))) ?_,rfl,q⟩
 ·have ek:(if i < 0 then (i+(its.toArray.size:Int)).toNat else min i.toNat its.toArray.size)=k:=by
   rw[if_neg (by omega),List.size_toArray];omega
  show (its.toArray.extract 0 (if i < 0 then (i+(its.toArray.size:Int)).toNat else min i.toNat its.toArray.size)).push u2++its.toArray.extract (if i < 0 then (i+(its.toArray.size:Int)).toNat else min i.toNat its.toArray.size)=_;rw[ek];apply Array.ext';simp[List.take_of_length_le]
 ·rw[List.length_append,List.length_cons,List.length_take,List.length_drop];omega
end
abbrev qf2:List Value:=[.type "ValueError",.type "Exception",.type "BaseException",.type "object"]
abbrev TEX:=St->Hp->VK->XK->Prop
abbrev TSX:=kM->(St->XK)->St->Hp->Prop
abbrev Cx.sup (X:Cx)(a:Addr):Cx:={ X with A:=X.A.mark (some (.ref a)),calm:=false,xe:=fun _ _=>False }
abbrev TH:=Addr->Value->Option Addr->kM->St->Hp->Prop
end L2
namespace Mq
theorem rJ {p q:Q2}(hp:1<=p.2)(hq:1<=q.2):Low (minus p q):=iF (gE hp hq)
theorem yF {p q:Q2}(hp:1<=p.2)(hq:1<=q.2):Low (gM p q):=iF (gE hp hq)
theorem pL {p q:Q2}(hp:1<=p.2)(hq:q.1≠0):p.2*q.1≠0:=Int.mul_ne_zero (by omega) hq
theorem Ao {p q:Q2}(hp:1<=p.2)(hq:q.1≠0):Low (oE p q):=iF (pL hp hq)
theorem Kt {n m:Nat}{p q:Q2}(h:Bd n p)(g:Bd m q)(hp:1<=p.2)(hq:1<=q.2):Bd (n+m+1) (minus p q):=by
 have k:=lK (t:=p.1*q.2 - q.1*p.2) (gE hp hq);have a2:B (n+m) (q.1*p.2):=by rw[Nat.add_comm];exact g.a.mul h.b
 exact⟨((h.a.mul g.b).sub a2).le k.1,((h.b.mul g.b).mono (Nat.le_succ _)).le k.2⟩
theorem Ax {n m:Nat}{p q:Q2}(h:Bd n p)(g:Bd m q)(hp:1<=p.2)(hq:1<=q.2):Bd (n+m) (gM p q):=by
 have k:=lK (t:=p.1*q.1) (gE hp hq);exact⟨(h.a.mul g.a).le k.1,(h.b.mul g.b).le k.2⟩
theorem Rn {n m:Nat}{p q:Q2}(h:Bd n p)(g:Bd m q)(hp:1<=p.2)(hq:q.1≠0):Bd (n+m) (oE p q):=by
 have k:=lK (t:=p.1*q.2) (pL hp hq);exact⟨(h.a.mul g.b).le k.1,(h.b.mul g.a).le k.2⟩
end Mq
namespace L2
open PySem PySem.Spec PyProof.Rows
def tG (K:Frag):Sp:=fun vs H Q _=>∃(a b:Addr) (p q:Mq.Q2) (n m:Nat),vs=[.ref a,.ref b]/\Fq K H a p/\Fq K H b q/\Mq.Bd n p/\Mq.Bd m q/\n+m+1<=9000/\Q (.bl (decide (p.1*q.2 < q.1*p.2))) H
inductive TyQ (K:Frag) (H:Hp):V->Value->Prop where
 |of {x:V} {t:Value} (h:mU K H x t):TyQ K H x t
 |tup {a:Addr} {xs:List V} (h:SqT K H a xs):TyQ K H (.ref a) (.type "tuple")
 |lst {a:Addr} {xs:List V} (h:SqL K H a xs):TyQ K H (.ref a) (.type "list")
section
variable {X:Cx} {pins:List (Addr × Obj)} {σ:St} {H:Hp} {s:Shared} {A:Around} {E:Value->Shared->Prop} {Q:Value->Shared->Prop} {c:Value} {b:Bool}
theorem Dl {x:V}{u t:Value}(I:Inv X pins σ H s)(rx:bV x u)(ty:TyQ X.K H x t)(e:PySem.W.kitOne X.K t c=some b)(h:∀tk,Q (.bool b) { s with toks:=tk }) :
  wpAny (model X.prog X.w) A (call (.builtin "isinstance") [u,c]) Q E s:=by
 cases ty with
 |of ty=>exact Jb I rx ty e h
 | @tup a xs ht=>
  cases (show u=Value.ref a from rx)
  obtain⟨its,_,p,_⟩:=I.tuple ht;obtain⟨o,h1,h2,_⟩:=p;exact PySem.W.kia_one PySem.W.kitx_tuple I.kIn ⟨o,h1,h2⟩ e (fun z=>nomatch z) h
 | @lst a xs ht=>
  cases (show u=Value.ref a from rx)
  obtain⟨its,_,p,_⟩:=I.list ht;obtain⟨o,h1,h2,_⟩:=p.isList;exact PySem.W.kia_one PySem.W.kitx_list I.kIn ⟨_,h1,h2⟩ e (fun z=>nomatch z) h
end
section
variable {X:Cx}
theorem Ih:rV X (.builtin "isinstance") (fun xs H Q=>∃x n t b,xs=[x,.ty n]/\TyQ X.K H x t/\PySem.W.kitOne X.K t (.type n)=some b/\Q (.bl b) H):=by
 intro pins s σ H vs us Q I rv h;obtain⟨x,n,t,b,rfl,ty,e,q⟩:=h;obtain⟨u,u2,rfl,r1,r2⟩:=Oy rv
 cases (show u2=Value.type n from r2)
 exact Dl I r1 ty e fun tk=>⟨.bl b,H,I.tok tk,rfl,q⟩
theorem iG {i:Nat}{x T:Str}{T':String}{p1 p2 p3 pos:Pos}(hN:X.N[i]?=some x)(hv:Vis X.env.scope x)(b:X.mg "isinstance"=none)(b2:X.mg T=none)(g1:Gl X "isinstance")(g2:Gl X T)(hT:bootBuiltins T=some (.type T'))(hd:(x == ("__debug__":Str))=false:=by decide)(hcd:(x == ("__classdict__":Str))=false:=by decide)(hTn:T≠"__name__":=by decide)(hTd:(T == ("__debug__":Str))=false:=by decide)(he:starEach [.Name x p2,.Name T p3] X.env=(false,eval (.Name x p2) X.env) :: starEach [.Name T p3] X.env:=by rfl)(he2:starEach [.Name T p3] X.env=(false,eval (.Name T p3) X.env) :: starEach [] X.env:=by rfl)(hpl:(backTo pos (starEach [.Name T p3] X.env)).any (·.1)=false:=by rfl) :
  PE X (.Call (.Name "isinstance" p1) [.Name x p2,.Name T p3] [] pos) (fun σ H Q=>∃v t b,σ[i]?=some (some v)/\TyQ X.K H v t/\PySem.W.kitOne X.K t (.type T')=some b/\Q (.bl b) H):=by
 have h:=cL (X:=X) (pos:=pos) (p:=p1) Ih g1 b PyProof.Rows.boot_isinstance (aA (Pe (i:=i) (pos:=p2) hN hv hd hcd) (aA (Rz (v:=.ty T') (pos:=p3) g2 b2 hT rfl hTn hTd) aB he2) he) (by decide) (by decide) he hpl;intro pins s σ H Q I q;obtain⟨v,t,bb,h1,h2,h3,h4⟩:=q;exact h pins s σ H Q I ⟨v,h1,v,T',t,bb,rfl,h2,h3,h4⟩
end
theorem SqT.upd {K:Frag}{H:Hp}{a l:Addr}{xs ys:List V}{o:HO}(h:SqT K H a xs)(hl:H l=some (.lst ys)):SqT K (L2.upd H l o) a xs:=by
 rcases h with (h | ⟨u,h⟩) | h
 ·exact .inl (.inl (by rw[aV (jD h hl (fun z=>by cases z))];exact h))
 ·exact .inl (.inr ⟨u,by rw[aV (jD h hl (fun z=>by cases z))];exact h⟩)
 ·exact .inr h
theorem Bq {K:Frag}{H:Hp}:∀ns:List Int,xH K H (ns.map V.int) (ns.map PyData.int)
 | []=>.nil
 |n :: r=>.cons (.int n) (Bq r)
theorem Bi:∀ns:List Int,PyData.canLayAll0 (ns.map PyData.int)=true
 | []=>rfl
 |n :: r=>by
  show ((PyData.int n).canLay0 && PyData.canLayAll0 (r.map PyData.int))=true;rw[Bi r];rfl
theorem Cd (ns:List Int)(lo hi:Option Int):∃ms:List Int,mV (ns.map V.int) lo hi=ms.map V.int/\ms.length<=ns.length:=by
 refine⟨(ns.drop (HT.sIx (ns.map V.int).length 0 lo)).take (HT.sIx (ns.map V.int).length (ns.map V.int).length hi - HT.sIx (ns.map V.int).length 0 lo),?_,?_⟩
 ·unfold mV;rw[List.map_take,List.map_drop]
 ·rw[List.length_take,List.length_drop];omega
theorem Bb {K:Frag}{H:Hp}{a b:Addr}{ns:List Int}{neg:Bool}{Q:VK}(h1:SqL K H a (ns.map V.int))(h2:SqL K H b [])(z:Q (.bl (if neg then !ns.isEmpty else ns.isEmpty)) H):Vi K neg (.ref a) (.ref b) H Q:=by
 refine⟨_,_,.lst h1 (Bq ns),.lst h2 .nil,Bi ns,rfl,?_,?_⟩
 ·have:(PyData.list []).depth<=1:=by decide
  omega
 ·cases ns<;>exact z
theorem mZ {fr:List Nat}{σ:St}{x y:V}:(((σC 2 fr σ).set 0 (some x)).set 1 (some y)).length=(σC 2 fr σ).length/\∀(i:Nat) v,(σC 2 fr σ)[i]?=some (some v)->(((σC 2 fr σ).set 0 (some x)).set 1 (some y))[i]?=some (some v):=by
 refine⟨by simp,fun i v h=>?_⟩
 match i with
 |0=>unfold σC at h;simp at h
 |1=>unfold σC at h;simp at h
 |k+2=>rw[List.getElem?_set_ne (by omega),List.getElem?_set_ne (by omega)];exact h
theorem Fqs.set {K:Frag}{H:Hp}{a:Addr}{p:Mq.Q2}(h:Fq K H a p):∀{xs:List V} {ps:List Mq.Q2} (i:Nat),Fqs K H xs ps->Fqs K H (xs.set i (.ref a)) (ps.set i p)
 |_,_,_,.nil=>.nil
 |_,_,0,.cons _ q=>.cons h q
 |_,_,i+1,.cons g q=>.cons g (Fqs.set h i q)
theorem Fqs.at {K:Frag}{H:Hp}:∀{xs:List V} {ps:List Mq.Q2} {i:Nat} {p:Mq.Q2},Fqs K H xs ps->ps[i]?=some p->∃a,xs[i]?=some (.ref a)/\Fq K H a p
 |_,_,_,_,.nil,h=>by simp at h
 |_,_,0,_,.cons h _,e=>by simp at e;subst e;exact⟨_,rfl,h⟩
 |_,_,i+1,_,.cons _ q,e=>by simpa using Fqs.at q (by simpa using e)
theorem vV {n:Nat}{i:Int}(lo:-(2 ^ n:Int) < i)(hi:i < 2 ^ n):Mq.B n i:=by
 unfold Mq.B;have e:((2 ^ n:Nat):Int)=2 ^ n:=by simp
 omega
theorem zD (X:Cx):∀l:List (Int × _ × Pos),PA X (l.map fun q=>Expr.Constant (.int q.1) q.2.1 q.2.2) (fun _ H Q=>Q (l.map fun q=>V.int q.1) H)
 | []=>aB
 |q :: l=>aA (te:=tC (.int q.1)) aF (zD X l) rfl
theorem oF {n k:Nat}(h:k < n):ixN n (k:Int)=some k:=by
 unfold ixN;rw[if_pos (by omega),if_pos (by omega)];simp
section
variable {X:Cx} {tg:Expr}
def qc9 (K:Frag):List V->Hp->VK->Prop:=fun xs H Q=>∃(p:Addr) (bs:List Bool),xs=[.ref p]/\SqL K H p (bs.map V.bl)/\Q (.bl (bs.all id)) H
theorem Nt (hc:X.calm=true):rV X (.builtin "all") (qc9 X.K):=by
 intro pins s σ H xs us Q I r h;obtain⟨p,bs,rfl,hq,q⟩:=h;obtain⟨u,rfl,rx⟩:=yJ r
 cases rx
 obtain⟨its,rv,pl,hz⟩:=I.list hq;have hlen:its.toArray.size=bs.length:=by rw[List.size_toArray,<- rv.length,List.length_map]
 have hne:p≠s.heap.objs.size:=by
  obtain⟨o,e,_⟩:=pl.isList;exact Nat.ne_of_lt (Heap.lt_size e)
 refine call_all_walk (wpAny_pyIter_list pl.isList ?_);refine⟨s.heap.objs.size,_,_,_,_,_,fun i=>bs.getD i false,rfl,Walks.list (by exact I.ok.hd hc) s.heap.objs.size p hne its.toArray,⟨⟨_,Heap.get?_push_size _ rfl,rfl,rfl⟩,?_⟩,?_,?_⟩
 ·obtain⟨o,e,c⟩:=pl.isList;exact⟨o,Heap.get?_push_of_some _ e,c⟩
 ·intro i v s' Q' E' hv q';have hv':its[i]?=some v:=by simpa using hv
  have hi:i < its.length:=(List.getElem?_eq_some_iff.mp hv').1;have hb:(bs.map V.bl)[i]?=some (.bl (bs.getD i false)):=by
   rw[List.getElem?_map,List.getElem?_eq_getElem (by rw[<- hlen];simpa using hi)];simp[List.getD,List.getElem?_eq_getElem (show i < bs.length by rw[<- hlen];simpa using hi)]
  obtain⟨u,hu,ru⟩:=rv.get hb;have e:u=v:=by rw[hv'] at hu;cases hu;rfl
  subst e
  cases ru
  exact wpAny_truthy_bool q'
 ·intro h' tk kk;have e:(List.range its.toArray.size).all (fun i=>bs.getD i false)=bs.all id:=by
   rw[hlen,Bool.eq_iff_iff,List.all_eq_true,List.all_eq_true];constructor
   ·intro z b hb;obtain⟨i,hi,rfl⟩:=List.getElem_of_mem hb;have:=z i (List.mem_range.mpr hi);simpa[List.getD,List.getElem?_eq_getElem hi] using this
   ·intro z i hi;have hi':=List.mem_range.mp hi;have:=z bs[i] (List.getElem_mem hi');simpa[List.getD,List.getElem?_eq_getElem hi'] using this
  rw[e];refine⟨.bl _,H,I.kept (t':=tk) fun b o hb=>?_,rfl,q⟩;have hb2:b≠s.heap.objs.size:=Nat.ne_of_lt (Heap.lt_size hb);exact kk b o (by simpa using hb2) (Heap.get?_push_of_some _ hb)
end
def Xk {ι:Type}(C:ι->Addr)(m:Str)(sp:ι->Sp)(dvs:List V)(E:XK)(ta:TE)(t:TA):TE:=fun σ H Q=>ta σ H fun x H1=>∃i a dx fs,x=.ref a/\H1 a=some (.ins (C i) dx fs)/\fs.lookup m=none/\
 t σ H1 fun vs H2=>sp i (x :: (vs++dvs)) H2 Q E
section
variable {X:Cx} {ι:Type} {C f:ι->Addr} {fd:ι->FuncData} {sp:ι->Sp} {m:Str} {CX:CXT} {k:Nat} {ps:List Str} {ds:List Value} {dvs:List V} {E:XK} {o e:Expr} {es:List Expr} {ta:TE} {t:TA} {apos pos:Pos}
theorem fZ {pl:Sem Bool}(he:PE X o ta)(c:∀i,Cls X.K (C i))(hm:∀i,iB X.K (C i) m (f i))(F:∀i,aM X.prog X.w X.K X.mg X.base CX k (f i) (fd i) ps (sp i))(hr:gS k X.A)(hb:∀i,aQ X.K (fd i) ps ds)(hd:bX dvs ds)(hx:kW CX X E)(ht:eval (.Call (.Attribute o m apos) [] [] pos) X.env=(do
   let ov <- eval o X.env
   standAt apos.atName
   let (f,first) <- holding [ov] (getMethod ov m pl)
   callWith pos f first (backTo pos (starEach [] X.env)) (backToKw pos (keywordEach [] X.env))):=by rfl) :
  PE X (.Call (.Attribute o m apos) [] [] pos) (Xk C m sp dvs E ta Vt):=by
 intro pins s σ H Q I h;refine PySem.W.methodCall_KW (pl:=pl) (thn (he pins s σ H _ I h) fun u s1 ⟨x,H1,I1,rx,i,a,dx,fs,ex,ea,l,q⟩=>?_) ht;subst ex;obtain rfl:u=Value.ref a:=rx;refine nI I1 ea (c i) (hm i) l ?_;exact PySem.W.callWith_K0 (first:=[.ref a]) I1.kIn (hm i).kp (zJ (us:=[.ref a]) (vs:=[.ref a]) (F i) hr (hb i) hd hx I1 (.cons rfl .nil) q)
end
inductive Kd where
 |pc | pu | ho
 deriving DecidableEq
def Kd.wd:Kd->Str
 | .pc=>"piece"
 | .pu=>"push"
 | .ho=>"hold"
def Kd.cn:Kd->Str
 | .pc=>"Piece"
 | .pu=>"Push"
 | .ho=>"Hold"
theorem Kd.wd_inj {k j:Kd}(h:k.wd=j.wd):k=j:=by
 cases k<;>cases j<;>first | rfl | exact absurd h (by decide +kernel)
theorem fsg:¬(("start":Str) = "goal"):=by decide +kernel
theorem fsz:¬(("start":Str) = "size"):=by decide +kernel
theorem fgz:¬(("goal":Str) = "size"):=by decide +kernel
def jP (s g z:V):List (Str × V):=iW "size" z (iW "goal" g (iW "start" s []))
theorem dZ (s g z:V):(jP s g z).lookup ("start":Str)=some s:=by
 unfold jP;rw[cC,if_neg fsz,cC,if_neg fsg,cC,if_pos rfl]
theorem eX (s g z:V):(jP s g z).lookup ("goal":Str)=some g:=by
 unfold jP;rw[cC,if_neg fgz,cC,if_pos rfl]
theorem gR (s g z:V):(jP s g z).lookup ("size":Str)=some z:=by
 unfold jP;rw[cC,if_pos rfl]
theorem fC (s g z:V){m:Str}(h1:¬m = "start")(h2:¬m = "goal")(h3:¬m = "size"):(jP s g z).lookup m=none:=by
 unfold jP;rw[cC,if_neg h3,cC,if_neg h2,cC,if_neg h1];rfl
def Rw (CK:Kd->Addr)(H:Hp)(x:Addr)(k:Kd)(s g z:V):Prop:=∃dx,H x=some (.ins (CK k) dx (jP s g z))
theorem Rw.same {CK:Kd->Addr}{H H':Hp}{x:Addr}{k:Kd}{s g z:V}(e:bF H H')(h:Rw CK H x k s g z):Rw CK H' x k s g z:=let ⟨dx,q⟩:=h;⟨dx,e _ _ q⟩
theorem Rw.upd {CK:Kd->Addr}{H:Hp}{x l:Addr}{k:Kd}{s g z:V}{ys:List V}{o:HO}(h:Rw CK H x k s g z)(hl:H l=some (.lst ys)):Rw CK (L2.upd H l o) x k s g z:=let ⟨dx,q⟩:=h;⟨dx,by rw[aV (jD q hl (fun z=>by cases z))];exact q⟩
structure RT (K:Frag) (mg:Str->Option Value) (CR:Addr) (CK:Kd->Addr):Prop where
 cl:∀k,Cls K (CK k)
 nS:∀k,iR K (CK k) "start"
 nG:∀k,iR K (CK k) "goal"
 nZ:∀k,iR K (CK k) "size"
 t1:∀k,PySem.W.findIn K (.ref (CK k)) "__class__"=some (some (.builtin "object.__class__"))
 t2:PySem.W.specialIn K (.builtin "object.__class__") "__get__"=some (some (.builtin "getset_descriptor.__get__"))
 t3:PySem.W.takesIn K (.builtin "object.__class__")=some true
 t4:∀k,PySem.W.mroIn K (CK k) (.type "object")=some true
 isR:∀k,PySem.W.kitOne K (.ref (CK k)) (.ref CR)=some true
 isK:∀k j,PySem.W.kitOne K (.ref (CK k)) (.ref (CK j))=some (decide (k=j))
 mR:mg "Row"=some (.ref CR)
 mK:∀k,mg (Kd.cn k)=some (.ref (CK k))
section
variable {K:Frag} {mg:Str->Option Value} {CR:Addr} {CK:Kd->Addr} {H:Hp} {x:Addr} {k:Kd} {s g z:V}
theorem Rw.new {C x dx:Addr}{fs:List (Str × V)}(h1:H x=none)(h2:H dx=none)(ne:dx≠x):bF H (L2.upd (L2.upd H dx (.own x)) x (.ins C dx fs)):=fun b o e=>by
 rw[aV (bC e h1),aV (bC e h2)];exact e
end
def yR (CK:Kd->Addr):Sp:=fun vs H Q _=>∃(x dx:Addr) (k:Kd) (s g z:V),vs=[.ref x,s,g,z]/\H x=some (.ins (CK k) dx [])/\Q .non (upd H x (.ins (CK k) dx (jP s g z)))
def kP (k:Kd):Sp:=fun vs H Q _=>∃x,vs=[x]/\Q (.str k.wd) H
def mQ (k:Kd):Sp:=fun vs H Q _=>∃x,vs=[x]/\Q (.bl (decide (k≠.pu))) H
def zY (CK:Kd->Addr):Sp:=fun vs H Q _=>∃(x:Addr) (k:Kd) (s g z:V),vs=[.ref x]/\Rw CK H x k s g z/\∀t,H t=none->Q (.ref t) (upd H t (.tup [.str k.wd,s,g,z]))
def qe3 (CK:Kd->Addr)(H:Hp)(Q:VK)(k:Kd)(s g z:V):Prop:=∀x H',bF H H'->H x=none->Rw CK H' x k s g z->Q (.ref x) H'
theorem ifT {c:Bool}{A B:Prop}(h:c=true)(x:A):if c=true then A else B:=by rw[if_pos h];exact x
theorem ifF {c:Bool}{A B:Prop}(h:c=false)(x:B):if c=true then A else B:=by rw[if_neg (by rw[h];decide)];exact x
theorem eY (k j:Kd):decide (V.str k.wd=V.str j.wd)=decide (k=j):=by
 by_cases h:k=j
 ·subst h;simp
 ·rw[decide_eq_false h];exact decide_eq_false fun z=>h (Kd.wd_inj (V.str.inj z))
end L2
namespace L2
theorem jT {p:Kd->Prop}(a:p .pc)(b:p .pu)(c:p .ho):∀k,p k:=fun k=>by cases k<;>assumption
theorem vC (K:Frag)(t:PySem.Value):PySem.W.kitOne K t t=some true:=by unfold PySem.W.kitOne;rw[if_pos (beq_self_eq_true _)]
def kd3 {α:Type}(a b c:α):Kd->α
 | .pc=>a
 | .pu=>b
 | .ho=>c
end L2
namespace Mq
def kG (ps:List Q2):Prop:=∀p∈ps,Low p
end Mq
namespace L2
open PySem PySem.Spec PyProof.Rows
section
variable {κ:Type} [DecidableEq κ]
def jF (kvs:List (κ × V))(k:κ):Option V:=(kvs.find? fun kv=>decide (kv.1=k)).map (·.2)
def gQ (kvs:List (κ × V))(k:κ)(v:V):List (κ × V):=
 if (kvs.any fun kv=>decide (kv.1=k))=true then kvs.map (fun kv=>if kv.1=k then (kv.1,v) else kv) else kvs++[(k,v)]
def jW (kvs:List (κ × V))(k:κ):List (κ × V):=kvs.filter fun kv=>decide (kv.1≠k)
theorem oM {p:κ × V}{r:List (κ × V)}{k:κ}(e:p.1=k):jF (p :: r) k=some p.2:=by simp[jF,List.find?_cons,e]
theorem lY {p:κ × V}{r:List (κ × V)}{k:κ}(e:¬p.1=k):jF (p :: r) k=jF r k:=by simp[jF,List.find?_cons,e]
theorem Bh (k:κ):∀kvs:List (κ × V),(kvs.any fun kv=>decide (kv.1=k))=(jF kvs k).isSome
 | []=>rfl
 |p :: r=>by
  rw[List.any_cons]
  by_cases e:p.1=k
  ·simp only[oM e,decide_eq_true e,Bool.true_or,Option.isSome_some]
  ·rw[lY e,decide_eq_false e,Bool.false_or];exact Bh k r
theorem lH (kvs:List (κ × V))(k:κ)(v:V):(gQ kvs k v).length<=kvs.length+1:=by
 unfold gQ;split
 ·rw[List.length_map];omega
 ·rw[List.length_append,List.length_cons,List.length_nil];omega
theorem kF.isSome_eq {o:Option V}{u:Option Value}(r:kF o u):o.isSome=u.isSome:=by
 cases o with
 |none=>cases u with
  |none=>rfl
  |some _=>exact(show False from r).elim
 |some _=>cases u with
  |none=>exact(show False from r).elim
  |some _=>rfl
theorem kF.getD {o:Option V}{u:Option Value}{d:V}{d':Value}(r:kF o u)(rd:bV d d'):bV (o.getD d) (u.getD d'):=by
 cases o with
 |none=>cases u with
  |none=>exact rd
  |some _=>exact(show False from r).elim
 |some _=>cases u with
  |none=>exact(show False from r).elim
  |some _=>exact r
theorem KV.val {kvs:List (κ × V)}{vs:List (κ × Value)}(r:KV kvs vs)(k:κ):kF (jF kvs k) (valueAt vs k):=by
 unfold KV at r
 induction r with
 |nil=>exact True.intro
 | @cons p q ps qs h t ih=>
  obtain⟨h1,h2⟩:=h
  by_cases e:p.1=k
  ·have e':q.1=k:=h1.symm.trans e;have b:valueAt (q :: qs) k=some q.2:=by simp[valueAt,List.find?_cons,e']
   rw[oM e,b];exact h2
  ·have e':¬q.1=k:=fun z=>e (h1.trans z);have b:valueAt (q :: qs) k=valueAt qs k:=by simp[valueAt,List.find?_cons,e']
   rw[lY e,b];exact ih
theorem KV.any {kvs:List (κ × V)}{vs:List (κ × Value)}(r:KV kvs vs)(k:κ):(kvs.any fun kv=>decide (kv.1=k))=vs.any fun kv=>decide (kv.1=k):=by
 unfold KV at r
 induction r with
 |nil=>rfl
 |cons h t ih=>rw[List.any_cons,List.any_cons,ih,h.1]
theorem KV.repl {kvs:List (κ × V)}{vs:List (κ × Value)}(r:KV kvs vs)(k:κ){y:V}{u:Value}(ry:bV y u) :
  KV (kvs.map fun kv=>if kv.1=k then (kv.1,y) else kv) (vs.map fun kv=>if kv.1=k then (kv.1,u) else kv):=by
 unfold KV at r ⊢
 induction r with
 |nil=>exact .nil
 | @cons p q ps qs h t ih=>
  rw[List.map_cons,List.map_cons];refine .cons ?_ ih;obtain⟨h1,h2⟩:=h
  by_cases e:p.1=k
  ·rw[if_pos e,if_pos (h1.symm.trans e)];exact⟨h1,ry⟩
  ·rw[if_neg e,if_neg (fun z=>e (h1.trans z))];exact⟨h1,h2⟩
theorem KV.put {kvs:List (κ × V)}{vs:List (κ × Value)}(r:KV kvs vs)(k:κ){y:V}{u:Value}(ry:bV y u):KV (gQ kvs k y) (stored vs k u):=by
 unfold gQ stored;rw[r.any k]
 by_cases e:(vs.any fun kv=>decide (kv.1=k))=true
 ·rw[if_pos e,if_pos e];exact r.repl k ry
 ·rw[if_neg e,if_neg e];exact Paired.snoc r ⟨rfl,ry⟩
theorem KV.drop {kvs:List (κ × V)}{vs:List (κ × Value)}(r:KV kvs vs)(k:κ):KV (jW kvs k) (without vs k):=by
 unfold KV at r ⊢;unfold jW without
 induction r with
 |nil=>exact .nil
 | @cons p q ps qs h t ih=>
  obtain⟨h1,h2⟩:=h;rw[List.filter_cons,List.filter_cons]
  by_cases e:p.1=k
  ·have a:¬decide (p.1≠k)=true:=by simp[e]
   have b:¬decide (q.1≠k)=true:=by simp[h1.symm.trans e]
   rw[if_neg a,if_neg b];exact ih
  ·have e':¬q.1=k:=fun z=>e (h1.trans z);have a:decide (p.1≠k)=true:=by simp[e]
   have b:decide (q.1≠k)=true:=by simp[e']
   rw[if_pos a,if_pos b];exact .cons ⟨h1,h2⟩ ih
theorem KV.keys {kvs:List (κ × V)}{vs:List (κ × Value)}(r:KV kvs vs):kvs.map (·.1)=vs.map (·.1):=by
 unfold KV at r
 induction r with
 |nil=>rfl
 |cons h t ih=>rw[List.map_cons,List.map_cons,ih,h.1]
theorem KV.length {kvs:List (κ × V)}{vs:List (κ × Value)}(r:KV kvs vs):kvs.length=vs.length:=Paired.length r
theorem Km (kvs:List (κ × V))(k:κ):(jW kvs k).length<=kvs.length:=List.length_filter_le _ _
end
theorem rQ {P:Program}{w:World}{k:Key}{u:Value}(r:bV (kV k) u):(dH P w).is k u=true:=by
 cases k with
 |inl i=>obtain⟨t,e⟩:=(show ∃t,u=Value.int i t from r);subst e;exact As P w i t
 |inr x=>obtain⟨t,e⟩:=(show ∃t,u=Value.str x t from r);subst e;exact Cv P w x t
theorem wW {P:Program}{w:World}:∀{ks:List Key} {us:List Value},bX (ks.map kV) us->ItemsAre (dH P w) ks us
 | [],_,r=>by rw[List.map_nil] at r;cases r;exact .nil
 |k :: ks,_,r=>by
  rw[List.map_cons] at r
  cases r with
  |cons h t=>exact .cons (rQ h) (wW t)
abbrev KT (H:Hp):List (List Key × V)->List (List Key × Addr × Value)->Prop:=Paired fun p q=>p.1=q.1/\H q.2.1=some (.tup (p.1.map kV))/\bV p.2 q.2.2
theorem KT.val {H:Hp}{kvs:List (List Key × V)}{xs:List (List Key × Addr × Value)}(r:KT H kvs xs)(k:List Key):kF (jF kvs k) ((atKey xs k).map (·.2)):=by
 induction r with
 |nil=>exact True.intro
 | @cons p q ps qs h t ih=>
  obtain⟨h1,_,h2⟩:=h
  by_cases e:p.1=k
  ·have e':q.1=k:=h1.symm.trans e;have b:atKey (q :: qs) k=some q.2:=by simp[atKey,List.find?_cons,e']
   rw[oM e,b];exact h2
  ·have e':¬q.1=k:=fun z=>e (h1.trans z);have b:atKey (q :: qs) k=atKey qs k:=by simp[atKey,List.find?_cons,e']
   rw[lY e,b];exact ih
theorem KT.repl {H:Hp}{kvs:List (List Key × V)}{xs:List (List Key × Addr × Value)}(r:KT H kvs xs)(k:List Key){y:V}{u:Value}(ry:bV y u) :
  KT H (kvs.map fun kv=>if kv.1=k then (kv.1,y) else kv) (xs.map (putAt k u)):=by
 induction r with
 |nil=>exact .nil
 | @cons p q ps qs h t ih=>
  rw[List.map_cons,List.map_cons];refine .cons ?_ ih;obtain⟨h1,h2,h3⟩:=h;unfold putAt
  by_cases e:p.1=k
  ·rw[if_pos e,if_pos (h1.symm.trans e)];exact⟨h1,h2,ry⟩
  ·rw[if_neg e,if_neg (fun z=>e (h1.trans z))];exact⟨h1,h2,h3⟩
theorem KT.put {H:Hp}{kvs:List (List Key × V)}{xs:List (List Key × Addr × Value)}(r:KT H kvs xs)(k:List Key){b:Addr}{y:V}{u:Value}(hb:H b=some (.tup (k.map kV)))(ry:bV y u) :
  KT H (gQ kvs k y) (storedH xs k b u):=by
 have e:(kvs.any fun kv=>decide (kv.1=k))=(atKey xs k).isSome:=by
  rw[Bh,(r.val k).isSome_eq,Option.isSome_map]
 unfold gQ storedH;rw[e]
 by_cases q:(atKey xs k).isSome=true
 ·rw[if_pos q,if_pos q];exact r.repl k ry
 ·rw[if_neg q,if_neg q];exact Paired.snoc r ⟨rfl,hb,ry⟩
theorem KT.keeps {H H':Hp}{kvs:List (List Key × V)}{xs:List (List Key × Addr × Value)}(r:KT H kvs xs)(ht:∀b ys,H b=some (.tup ys)->H' b=some (.tup ys)):KT H' kvs xs:=
 Paired.mapP r fun _ _ z=>⟨z.1,ht _ _ z.2.1,z.2.2⟩
section
variable {P:Program} {w:World} {H:Hp} {h:Heap} {a:Addr}
theorem Ul {u:HO}(ok:HOk P w H h)(e:Rd H a u):dR P w H h a u:=e.ok ok
theorem rT {kvs:List (Key × V)}(ok:HOk P w H h)(e:Rd H a (.dK kvs)):kvs.length<=sizeLine/\(a == sysModules)=false/\∃vs,KV kvs vs/\h.DictOf (dH P w) a vs:=
 show dR P w H h a (.dK kvs) from Ul ok e
theorem Ew {kvs:List (Key × V)}(ok:HOk P w H h)(e:H a=some (.dK kvs)):kvs.length<=sizeLine/\(a == sysModules)=false/\∃vs,KV kvs vs/\h.DictOf (dH P w) a vs:=rT ok (.inl e)
theorem qG {ks:List Key}(ok:HOk P w H h)(e:H a=some (.tup (ks.map kV))):(tupleKind (dH P w)).is h ks a:=by
 obtain⟨_,its,r,o,h1,h2,n,h3⟩:=(show dR P w H h a (.tup (ks.map kV)) from ok a _ e)
 exact⟨o,its.toArray,n,h1,h2,h3,by simpa using wW r⟩
theorem uC {kvs:List (List Key × V)}(ok:HOk P w H h)(e:Rd H a (.dT kvs)):kvs.length<=sizeLine/\(a == sysModules)=false/\
  ∃xs,KT H kvs xs/\h.DictOfH (tupleKind (dH P w)) a xs:=by
 obtain⟨z,y,xs,r,o,es,ep,h1,h2,h3,h4,h5⟩:=(show dR P w H h a (.dT kvs) from Ul ok e)
 refine⟨z,y,xs,r,o,es,ep,h1,h2,h3,h4,fun x hx=>?_,h5⟩;have all:∀{l:List (List Key × V)} {m:List (List Key × Addr × Value)},KT H l m->∀x∈m,(tupleKind (dH P w)).is h x.1 x.2.1:=by
  intro l m q
  induction q with
  |nil=>intro x hx;exact nomatch hx
  | @cons p q ps qs hq t ih=>
   intro x hx;rcases List.mem_cons.mp hx with e | hx
   ·subst e;exact qG ok (by rw[<- hq.1];exact hq.2.1)
   ·exact ih x hx
 exact all r x hx
theorem Zm {kvs:List (List Key × V)}(ok:HOk P w H h)(e:H a=some (.dT kvs)):kvs.length<=sizeLine/\(a == sysModules)=false/\
  ∃xs,KT H kvs xs/\h.DictOfH (tupleKind (dH P w)) a xs:=uC ok (.inl e)
end
def gY (H:Hp)(a:Addr)(y:V)(r:Option V):Prop:=
 (∃kvs k,Rd H a (.dK kvs)/\y=kV k/\r=jF kvs k)\/∃kvs k b,Rd H a (.dT kvs)/\y=.ref b/\H b=some (.tup (k.map kV))/\r=jF kvs k
def Cl (H:Hp)(a:Addr)(y v:V)(H':Hp):Prop:=
 (∃kvs k,H a=some (.dK kvs)/\y=kV k/\kvs.length < sizeLine/\H'=upd H a (.dK (gQ kvs k v)))\/
 ∃kvs k b,H a=some (.dT kvs)/\y=.ref b/\H b=some (.tup (k.map kV))/\kvs.length < sizeLine/\H'=upd H a (.dT (gQ kvs k v))
theorem gY.k {H:Hp}{a:Addr}{kvs:List (Key × V)}{k:Key}(e:H a=some (.dK kvs)):gY H a (kV k) (jF kvs k):=.inl ⟨kvs,k,.inl e,rfl,rfl⟩
theorem Cl.k {H:Hp}{a:Addr}{kvs:List (Key × V)}{k:Key}{v:V}(e:H a=some (.dK kvs))(hl:kvs.length < sizeLine):Cl H a (kV k) v (upd H a (.dK (gQ kvs k v))):=.inl ⟨kvs,k,e,rfl,hl,rfl⟩
section
variable {X:Cx} {pins:List (Addr × Obj)} {σ:St} {H:Hp} {s:Shared} {a:Addr} {y v:V} {u r:Value} {o:Option V} {A:Around} {E:Value->Shared->Prop}
theorem Inv.big (I:Inv X pins σ H s):sysModules < s.heap.objs.size:=by
 have h:mainGlobals < s.heap.objs.size:=(I.mod.glob.keeps I.bk).lt;exact Nat.lt_trans (by decide) h
theorem Jj {Q:Value->Shared->Prop}(hu:A.units+1 < cLine)(I:Inv X pins σ H s)(g:gY H a y (some v))(ry:bV y u)(h:∀w' s',Inv X pins σ H s'->bV v w'->Q w' s') :
  wpAny (model X.prog X.w) A (getItem (.ref a) u) Q E s:=by
 rcases g with ⟨kvs,k,e,ey,l⟩ | ⟨kvs,k,b,e,ey,eb,l⟩
 ·subst ey;obtain⟨z,hd,vs,rel,dd⟩:=rT I.hok e;obtain⟨w',hw,rw'⟩:=kF.some_of (v:=v) (o:=valueAt vs k) (by rw[l];exact rel.val k);exact wpAny_getItem_of (rQ ry) dd.mapOf hw (h w' _ (I.tok _) rw')
 ·subst ey
  cases (show u=Value.ref b from ry)
  obtain⟨z,hd,xs,rel,dd⟩:=uC I.hok e;obtain⟨w',hw,rw'⟩:=kF.some_of (v:=v) (o:=(atKey xs k).map (·.2)) (by rw[l];exact rel.val k);obtain⟨p,hp,hp2⟩:=Option.map_eq_some_iff.mp hw;refine wpAny_getItem_heap (tupleKind_room_in1 hu) (qG I.hok eb) dd hp ?_;rw[hp2];exact h w' _ (I.tok _) rw'
theorem qc7 {Q:Value->Shared->Prop}(hu:A.units+1 < cLine)(I:Inv X pins σ H s)(g:gY H a y o)(ry:bV y u)(h:∀s',Inv X pins σ H s'->Q (.bool o.isSome) s') :
  wpAny (model X.prog X.w) A (compareOp .In u (.ref a)) Q E s:=by
 rcases g with ⟨kvs,k,e,ey,l⟩ | ⟨kvs,k,b,e,ey,eb,l⟩
 ·subst ey;obtain⟨z,hd,vs,rel,dd⟩:=rT I.hok e;refine wpAny_in_of (rQ ry) hd dd.mapOf ?_;rw[<- (rel.val k).isSome_eq,<- l];exact h _ (I.tok _)
 ·subst ey
  cases (show u=Value.ref b from ry)
  obtain⟨z,hd,xs,rel,dd⟩:=uC I.hok e;refine wpAny_in_heap (tupleKind_room_in1 hu) (qG I.hok eb) hd dd ?_;have q:=(rel.val k).isSome_eq;rw[Option.isSome_map] at q;rw[<- q,<- l];exact h _ (I.tok _)
theorem Qe {Q:Value->Shared->Prop}(hu:A.units+1 < cLine)(I:Inv X pins σ H s)(g:gY H a y o)(ry:bV y u)(h:∀s',Inv X pins σ H s'->Q (.bool (!o.isSome)) s') :
  wpAny (model X.prog X.w) A (compareOp .NotIn u (.ref a)) Q E s:=by
 rcases g with ⟨kvs,k,e,ey,l⟩ | ⟨kvs,k,b,e,ey,eb,l⟩
 ·subst ey;obtain⟨z,hd,vs,rel,dd⟩:=rT I.hok e;refine wpAny_notIn_of (rQ ry) hd dd.mapOf ?_;rw[<- (rel.val k).isSome_eq,<- l];exact h _ (I.tok _)
 ·subst ey
  cases (show u=Value.ref b from ry)
  obtain⟨z,hd,xs,rel,dd⟩:=uC I.hok e;refine wpAny_notIn_heap (tupleKind_room_in1 hu) (qG I.hok eb) hd dd ?_;have q:=(rel.val k).isSome_eq;rw[Option.isSome_map] at q;rw[<- q,<- l];exact h _ (I.tok _)
theorem tP {h':Heap}{t':Nat}{ob:HO}(I:Inv X pins σ H s)(mu:Mut (H a))(hs:Heap.SameBut a s.heap h')(he:∃q,h'.get? a=some q)(new:dR X.prog X.w (upd H a ob) h' a ob) :
  Inv X pins σ (upd H a ob) { s with heap:=h',toks:=t' }:=
 I.write (x:=a) (e:=a) mu (.inl rfl) (fun b q hb z=>(hs.2 b hb).trans z) he new
theorem Eg {P:Program}{w:World}{H':Hp}{h':Heap}{kvs:List (Key × V)}{vs:List (Key × Value)}(z:kvs.length<=sizeLine)(hd:(a == sysModules)=false)(rel:KV kvs vs)(dd:h'.DictOf (dH P w) a vs) :
  dR P w H' h' a (.dK kvs):=⟨z,hd,vs,rel,dd⟩
theorem Jx {H':Hp}{Q:Unit->Shared->Prop}(hu:A.units+1 < cLine)(I:Inv X pins σ H s)(g:Cl H a y v H')(ry:bV y u)(rv:bV v r)(h:∀s',Inv X pins σ H' s'->Q () s') :
  wpAny (model X.prog X.w) A (setItem (.ref a) u r) Q E s:=by
 rcases g with ⟨kvs,k,e,ey,l,eH⟩ | ⟨kvs,k,b,e,ey,eb,l,eH⟩
 ·subst ey eH;obtain⟨z,hd,vs,rel,dd⟩:=Ew I.hok e;have hz:vs.length<=sizeLine:=by rw[<- rel.length];exact z
  have hl:(gQ kvs k v).length<=sizeLine:=by have:=lH kvs k v;omega
  refine wpAny_setItem_pairs (hsz:=hz) (rQ ry) dd fun h' dd' hs=>h _ ?_;have he:∃q,h'.get? a=some q:=let ⟨q,_,_,hq,_⟩:=dd';⟨q,hq⟩
  exact tP I (by rw[e];exact True.intro) hs he (Eg hl hd (rel.put k rv) dd')
 ·subst ey eH
  cases (show u=Value.ref b from ry)
  obtain⟨z,hd,xs,rel,dd⟩:=Zm I.hok e;have hz:xs.length<=sizeLine:=by rw[<- Paired.length rel];exact z
  have hl:(gQ kvs k v).length<=sizeLine:=by have:=lH kvs k v;omega
  refine wpAny_setItem_heap (hsz:=hz) (tupleKind_room_in1 hu) (qG I.hok eb) dd fun h' dd' hs=>h _ ?_;obtain⟨q,es,ep,hq,h2,h3,h4,_,h5⟩:=dd';refine tP I (by rw[e];exact True.intro) hs ⟨q,hq⟩ ⟨hl,hd,_,(rel.put k eb rv).keeps fun c ys ec=>?_,q,es,ep,hq,h2,h3,h4,h5⟩;rw[aV (jD ec e (fun z=>nomatch z))];exact ec
end
section
variable {X:Cx} {pins:List (Addr × Obj)} {σ:St} {H:Hp} {s:Shared} {a:Addr} {kvs:List (Key × V)} {k:Key} {u:Value} {A:Around} {E:Value->Shared->Prop}
theorem qa1 {v:V}{more:List Value}{Q:Value->Shared->Prop}(I:Inv X pins σ H s)(e:H a=some (.dK kvs))(ry:bV (kV k) u)(l:jF kvs k=some v)(hm:more=[]\/∃x,more=[x])(h:∀w' s',Inv X pins σ (upd H a (.dK (jW kvs k))) s'->bV v w'->Q w' s'):wpAny (model X.prog X.w) A (call (.builtin "dict.pop") (.ref a :: u :: more)) Q E s:=by
 obtain⟨z,hd,vs,rel,dd⟩:=Ew I.hok e;obtain⟨w',hw,rw'⟩:=kF.some_of (v:=v) (o:=valueAt vs k) (by rw[<- l];exact rel.val k);have hp:(keyPart u).isSome=true:=by
  cases k with
  |inl i=>obtain⟨t,q⟩:=(show ∃t,u=Value.int i t from ry);subst q;rfl
  |inr x=>obtain⟨t,q⟩:=(show ∃t,u=Value.str x t from ry);subst q;rfl
 have ha:argsOk "dict.pop" ⟨.ref a :: u :: more,[]⟩:=by
  rcases hm with q | ⟨x,q⟩
  ·subst q;exact PySem.F.args_dict_pop_2 _ _
  ·subst q;exact PySem.F.args_dict_pop_3 _ _ _
 refine call_meetsIn PySem.F.slot_dict_pop dd.typeIs PySem.F.entry_dict_pop ha (meets_dict_pop_there (dH X.prog X.w) a (rQ ry) more hm hp)
  ⟨vs,w',dd,by rw[<- rel.length];exact z,hw,fun h' dd' hs=>h w' _ ?_ rw'⟩
 have he:∃q,h'.get? a=some q:=let ⟨q,_,_,hq,_⟩:=dd';⟨q,hq⟩
 exact tP I (by rw[e];exact True.intro) hs he (Eg (Nat.le_trans (Km kvs k) z) hd (rel.drop k) dd')
theorem Yn {Q:Value->Shared->Prop}(I:Inv X pins σ H s)(e:Rd H a (.dK kvs))(h:∀t s',Inv X pins σ H s'->Q (.int kvs.length t) s'):wpAny (model X.prog X.w) A (call (.builtin "len") [.ref a]) Q E s:=by
 obtain⟨z,hd,vs,rel,dd⟩:=rT I.hok e;refine call_len_dict hd dd (by rw[<- rel.length];rw[sizeLine_eq] at z;omega) ?_;rw[<- rel.length];exact h _ _ (I.tok _)
end
def Zr (i:Expr):Prop:=∀ov iv,subscripted i false ov iv=operate [ov,iv] (getItem ov iv)
theorem Tr {prog:Program}{w:World}{A:Around}{E:Value->Shared->Prop}{s:Shared}{env:Env}{value slice:Expr}{pos:Pos}{T id:String}{Q:Value->Shared->Prop}(hl:typeLookup (.type T) "__getitem__"=pure (some (.builtin id)))(hs:Zr slice)(h:wpAny (model prog w) A (eval value env) (fun o s₁=>wpAny (model prog w) A (eval slice env) (fun i s₂=>s₂.TypeIs o T/\wpAny (model prog w) A (getItem o i) Q E s₂) E s₁) E s) :
  wpAny (model prog w) A (eval (.Subscript value slice pos) env) Q E s:=by
 refine Subscript_ (wpAny_mono h (fun o s₁ h₁=>wpAny_mono h₁ (fun i s₂ h₂=>?_) fun _ _ x=>x) fun _ _ x=>x);obtain⟨hT,h₂⟩:=h₂;unfold subscriptTail;refine wpAny_bind ?_;rw[getitemInPython_of_ne hT.not_modules];refine wpAny_bind (wpAny_specialOf hT hl ?_);have fin:wpAny (model prog w) A (subscripted slice false o i) (fun r s₃=>wpAny (model prog w) A (letTemporaryGo value o r >>= fun _=>pure r) Q E s₃) E s₂:=by
  rw[hs o i];exact wpAny_operating (wpAny_mono h₂ (fun r s₃ h₃=>wpAny_bind (wpAny_letTemporaryGo (wpAny_pure h₃))) fun _ _ x=>x)
 first
  |exact wpAny_pure (wpAny_bind fin)
  |exact wpAny_bind (wpAny_pure (wpAny_bind fin))
  |exact wpAny_bind fin
theorem Ca {X:Cx}{pins:List (Addr × Obj)}{σ:St}{H:Hp}{s:Shared}{a:Addr}{y:V}{o:Option V}(I:Inv X pins σ H s)(g:gY H a y o):s.TypeIs (.ref a) "dict":=by
 rcases g with ⟨kvs,k,e,_,_⟩ | ⟨kvs,k,b,e,_,_,_⟩
 ·obtain⟨_,_,vs,_,dd⟩:=rT I.hok e;exact dd.typeIs
 ·obtain⟨_,_,xs,_,dd⟩:=uC I.hok e;exact dd.typeIs
def Zg (td ty:TE):TE:=fun σ H Q=>td σ H fun x H1=>ty σ H1 fun y H2=>∃a v,x=.ref a/\gY H2 a y (some v)/\Q v H2
def qb8 (ty td:TE):TE:=fun σ H Q=>ty σ H fun y H1=>td σ H1 fun x H2=>∃a o,x=.ref a/\gY H2 a y o/\Q (.bl o.isSome) H2
def Qp (ty td:TE):TE:=fun σ H Q=>ty σ H fun y H1=>td σ H1 fun x H2=>∃a o,x=.ref a/\gY H2 a y o/\Q (.bl (!o.isSome)) H2
def Yb (td ty tv:TE):TS:=fun D σ H=>tv σ H fun v H1=>td σ H1 fun x H2=>ty σ H2 fun y H3=>∃a H4,x=.ref a/\Cl H3 a y v H4/\D.nx σ H4
section
variable {X:Cx} {o i e value:Expr} {pos pos' tpos:Pos} {td ty tv:TE}
theorem jB (hu:X.A.units+1 < cLine)(ho:PE X o td)(hi:PE X i ty)(hs:Zr i):PE X (.Subscript o i pos) (Zg td ty):=by
 intro pins s σ H Q I h;refine Tr PySem.F.slot_dict_getitem.lookup hs (thn (ho pins s σ H _ I h) fun u s1 ⟨x,H1,I1,rx,q1⟩=>thn (hi pins s1 σ H1 _ I1 q1) fun iv s2 ⟨y,H2,I2,ry,a,v,ex,g,q2⟩=>?_);subst ex;obtain rfl:u=Value.ref a:=rx;exact⟨Ca I2 g,Jj hu I2 g ry fun w' s3 I3 rw'=>⟨v,H2,I3,rw',q2⟩⟩
theorem Vm (hu:X.A.units+1 < cLine)(hi:PE X i ty)(ho:PE X o td):PC X .In i o (qb8 ty td):=by
 intro pins s σ H Q I h;refine thn (hi pins s σ H _ I h) fun iv s1 ⟨y,H1,I1,ry,q1⟩=>thn (ho pins s1 σ H1 _ I1 q1) fun u s2 ⟨x,H2,I2,rx,a,ov,ex,g,q2⟩=>?_;subst ex;obtain rfl:u=Value.ref a:=rx;exact qc7 hu I2 g ry fun s3 I3=>⟨.bl ov.isSome,H2,I3,rfl,q2⟩
theorem qU (hu:X.A.units+1 < cLine)(hi:PE X i ty)(ho:PE X o td):PC X .NotIn i o (Qp ty td):=by
 intro pins s σ H Q I h;refine thn (hi pins s σ H _ I h) fun iv s1 ⟨y,H1,I1,ry,q1⟩=>thn (ho pins s1 σ H1 _ I1 q1) fun u s2 ⟨x,H2,I2,rx,a,ov,ex,g,q2⟩=>?_;subst ex;obtain rfl:u=Value.ref a:=rx;exact Qe hu I2 g ry fun s3 I3=>⟨.bl (!ov.isSome),H2,I3,rfl,q2⟩
theorem Ag (hu:X.A.units+1 < cLine)(ho:PE X o td)(hi:PE X i ty)(hv:PE X value tv)(hs:swapsWith value (some (.Subscript o i pos')) pos.line X.env=pure false) :
  PS X (.Assign [.Subscript o i pos'] value pos) (Yb td ty tv):=by
 intro pins s σ H D I h;refine wpAny_Assign_Subscript (thn (hv pins s σ H _ I h) fun r s1 ⟨v,H1,I1,rv,q1⟩=>thn (ho pins s1 σ H1 _ I1 q1) fun u s2 ⟨x,H2,I2,rx,q2⟩=>thn (hi pins s2 σ H2 _ I2 q2) fun iv s3 ⟨y,H3,I3,ry,a,H4,ex,g,q3⟩=>?_) hs;subst ex;obtain rfl:u=Value.ref a:=rx;exact Jx hu I3 g ry rv fun s4 I4=>⟨σ,H4,I4,q3⟩
end
theorem Bf {P:Program}{w:World}{H:Hp}(h:Heap)(hb:sysModules < h.objs.size):dR P w H (h.push { cls:=.type "dict",data:=.dict #[] }) h.objs.size (.dK []):=
 ⟨Nat.zero_le _,beq_eq_false_iff_ne.mpr (Ne.symm (Nat.ne_of_lt hb)),[],.nil,Heap.DictOf.new h⟩
def Wy:TE:=fun _ H Q=>∀p,H p=none->Q (.ref p) (upd H p (.dK []))
section
variable {X:Cx} {pos:Pos}
theorem Nk:PE X (.Dict [] [] pos) Wy:=fun pins s σ H Q I h=>
 wpAny_Dict_empty ⟨.ref s.heap.objs.size,_,I.laid (a:=s.heap.objs.size) (o:=.dK []) (t':=s.toks) (fun _ _ q=>Heap.get?_push_of_some _ q) (Nat.le_refl _) (Bf s.heap I.big),rfl,h _ (I.hok.fresh (Nat.le_refl _))⟩
end
def Dh:List (TE × TE)->St->Hp->(List (V × V)->Hp->Prop)->Prop
 | [],_,H,Q=>Q [] H
 | (tk,tv) :: r,σ,H,Q=>tk σ H fun x H1=>tv σ H1 fun y H2=>Dh r σ H2 fun ps H3=>Q ((x,y) :: ps) H3
abbrev VV:List (V × V)->List (Value × Value)->Prop:=Paired fun p q=>bV p.1 q.1/\bV p.2 q.2
def PPs (X:Cx)(pos:Pos)(keys:List (Option Expr))(values:List Expr)(trs:List (TE × TE)):Prop:=
 ∀(pins:List (Addr × Obj)) (s:Shared) (σ:St) (H:Hp) (Q:List (V × V)->Hp->Prop),Inv X pins σ H s->Dh trs σ H Q->
  wpAny (model X.prog X.w) X.A (evalPairs (pairTrees keys values X.env pos)) (fun vs s'=>∃ps H',Inv X pins σ H' s'/\VV ps vs/\Q ps H') X.xe s
theorem Ae {X:Cx}{pos:Pos}:PPs X pos [] [] []:=fun pins s σ H Q I h=>pairTrees_nil_walk ⟨[],H,I,.nil,h⟩
theorem jU {X:Cx}{pos:Pos}{k v:Expr}{ks:List (Option Expr)}{vs:List Expr}{tk tv:TE}{trs:List (TE × TE)}(hk:PE X k tk)(hv:PE X v tv)(hr:PPs X pos ks vs trs) :
  PPs X pos (some k :: ks) (v :: vs) ((tk,tv) :: trs):=fun pins s σ H Q I h=>
 pairTrees_cons_walk (thn (hk pins s σ H _ I h) fun u s1 ⟨x,H1,I1,rx,q1⟩=>thn (hv pins s1 σ H1 _ I1 q1) fun w2 s2 ⟨y,H2,I2,ry,q2⟩=>
  thn (hr pins s2 σ H2 _ I2 q2) fun ws s3 ⟨ps,H3,I3,rel,q3⟩=>⟨(x,y) :: ps,H3,I3,.cons ⟨rx,ry⟩ rel,q3⟩)
def gC (kvs more:List (Key × V)):List (Key × V):=more.foldl (fun acc kv=>gQ acc kv.1 kv.2) kvs
theorem KV.merge:∀{more:List (Key × V)} {rs:List (Key × Value)} {kvs:List (Key × V)} {vs:List (Key × Value)},KV more rs->KV kvs vs->KV (gC kvs more) (merged vs rs):=by
 intro more rs kvs vs r;unfold KV at r
 induction r generalizing kvs vs with
 |nil=>intro q;exact q
 | @cons p q ps qs h t ih=>
  intro r0;have e:KV (gQ kvs p.1 p.2) (stored vs q.1 q.2):=by
   have:=r0.put p.1 h.2;rw[<- h.1];exact this
  exact ih e
theorem mY:∀(more kvs:List (Key × V)),(gC kvs more).length<=kvs.length+more.length
 | [],kvs=>by show kvs.length<=kvs.length+0;omega
 |p :: r,kvs=>by
  have h1:=mY r (gQ kvs p.1 p.2);have h2:=lH kvs p.1 p.2;show (gC (gQ kvs p.1 p.2) r).length<=_;rw[List.length_cons];omega
theorem vF {P:Program}{w:World}:∀{kvs:List (Key × V)} {ws:List (Value × Value)},VV (kvs.map fun kv=>(kV kv.1,kv.2)) ws->∃rs,Carries (dH P w) ws rs/\KV kvs rs
 | [],_,r=>by rw[List.map_nil] at r;cases r;exact⟨[],True.intro,.nil⟩
 |p :: kvs,_,r=>by
  rw[List.map_cons] at r
  cases r with
  | @cons a b as bs h t=>
   obtain⟨rs,c,q⟩:=vF (P:=P) (w:=w) t;obtain⟨b1,b2⟩:=b;exact⟨(p.1,b2) :: rs,⟨rQ h.1,rfl,c⟩,.cons ⟨rfl,h.2⟩ q⟩
def Yq (trs:List (TE × TE)):TE:=fun σ H Q=>∀p,H p=none->Dh trs σ (upd H p (.dK [])) fun ps H2=>H2 p=some (.dK [])/\∃kvs:List (Key × V),ps=kvs.map (fun kv=>(kV kv.1,kv.2))/\kvs.length<=15/\Q (.ref p) (upd H2 p (.dK (gC [] kvs)))
theorem zV {X:Cx}{pos:Pos}{keys:List (Option Expr)}{values:List Expr}{trs:List (TE × TE)}(h:PPs X pos keys values trs)(hall:keys.all (·.isSome)=true)(hl:keys.length=values.length)(h0:keys≠[])(h15:keys.length<=15):PE X (.Dict keys values pos) (Yq trs):=by
 intro pins s σ H Q I q;have hn:=I.hok.fresh (Nat.le_refl s.heap.objs.size);have I1:=I.laid (a:=s.heap.objs.size) (o:=.dK []) (h':=s.heap.push { cls:=.type "dict",data:=.dict #[] }) (t':=s.toks) (fun _ _ q=>Heap.get?_push_of_some _ q) (Nat.le_refl _) (Bf s.heap I.big);refine wpAny_Dict_walk (knd:=dH X.prog X.w) hall hl h0 h15 (thn (h pins _ σ _ _ I1 (q _ hn)) fun ws s2 ⟨ps,H2,I2,rel,e,kvs,ep,lk,q2⟩=>?_);subst ep;obtain⟨rs,c,rk⟩:=vF (P:=X.prog) (w:=X.w) rel;obtain⟨z,hd,vs0,r0,dd⟩:=Ew I2.hok e
 cases r0
 refine⟨rs,c,dd,fun h' dd' hs=>⟨.ref s.heap.objs.size,_,?_,rfl,q2⟩⟩;have hz:(gC [] kvs).length<=sizeLine:=by
  have h1:=mY kvs [];rw[List.length_nil] at h1;rw[sizeLine_eq];omega
 have he:∃q,h'.get? s.heap.objs.size=some q:=let ⟨q,_,_,hq,_⟩:=dd';⟨q,hq⟩
 exact tP I2 (by rw[e];exact True.intro) hs he (Eg hz hd (rk.merge .nil) dd')
structure M1 (X:Cx) (o:Expr) (m:Str) (apos:Pos) (e:Expr) (cpos:Pos):Prop where
 base:attributeBase o m X.env (eval o X.env)=eval o X.env
 few:((backTo cpos (starEach [e] X.env)).all (fun x=>!x.1) && (backToKw cpos (keywordEach [] X.env)).all (fun x=>x.1.isSome)
  && decide (([e]:List Expr).length+([]:List Keyword).length+(if ([]:List Keyword).isEmpty then 0 else 1) < 30))=true
 line:(apos.endLine == cpos.line)=true
 trees:backTo cpos (starEach [e] X.env)=[(false,eval e X.env)]
def IsD (H:Hp)(a:Addr):Prop:=(∃kvs,Rd H a (.dK kvs))\/∃kvs,Rd H a (.dT kvs)
theorem Lx {X:Cx}{pins:List (Addr × Obj)}{σ:St}{H:Hp}{s:Shared}{a:Addr}(I:Inv X pins σ H s)(d:IsD H a) :
  s.TypeIs (.ref a) "dict"/\(∀b,Value.ref a=.ref b->∃ob,s.heap.get? b=some ob/\ob.dict=none)/\(a == sysModules)=false:=by
 rcases d with ⟨kvs,e⟩ | ⟨kvs,e⟩
 ·obtain⟨_,hd,vs,_,dd⟩:=rT I.hok e;refine⟨dd.typeIs,fun b q=>?_,hd⟩
  cases q
  obtain⟨ob,_,_,h1,h2,_⟩:=dd;exact⟨ob,h1,h2.2.1⟩
 ·obtain⟨_,hd,xs,_,dd⟩:=uC I.hok e;refine⟨dd.typeIs,fun b q=>?_,hd⟩
  cases q
  obtain⟨ob,_,_,h1,h2,_⟩:=dd;exact⟨ob,h1,h2.2.1⟩
section
variable {X:Cx} {pins:List (Addr × Obj)} {σ:St} {H:Hp} {s:Shared} {a:Addr} {y d:V} {u r:Value} {o:Option V} {A:Around} {E:Value->Shared->Prop}
theorem Vl {Q:Value->Shared->Prop}(hu:A.units+1 < cLine)(I:Inv X pins σ H s)(g:gY H a y o)(ry:bV y u)(h:∀w' s',Inv X pins σ H s'->bV (o.getD .non) w'->Q w' s') :
  wpAny (model X.prog X.w) A (call (.builtin "dict.get") [.ref a,u]) Q E s:=by
 rcases g with ⟨kvs,k,e,ey,l⟩ | ⟨kvs,k,b,e,ey,eb,l⟩
 ·subst ey;obtain⟨z,hd,vs,rel,dd⟩:=rT I.hok e;refine call_meetsIn PySem.F.slot_dict_get dd.typeIs PySem.F.entry_dict_get (PySem.F.args_dict_get_2 _ _) (meets_dict_get (dH X.prog X.w) a (rQ ry) hd) ⟨_,dd.mapOf,h _ _ (I.tok _) ?_⟩;rw[l];exact(rel.val k).getD rfl
 ·subst ey
  cases (show u=Value.ref b from ry)
  obtain⟨z,hd,xs,rel,dd⟩:=uC I.hok e;refine call_meetsIn PySem.F.slot_dict_get dd.typeIs PySem.F.entry_dict_get (PySem.F.args_dict_get_2 _ _) (meetsH_dict_get (tupleKind (dH X.prog X.w)) a b hd) ⟨tupleKind_room_in1 hu,k,xs,qG I.hok eb,dd,h _ _ (I.tok _) ?_⟩;rw[l];exact(rel.val k).getD rfl
end
def Xu (td ty:TE):TE:=fun σ H Q=>td σ H fun x H1=>∃a,x=.ref a/\IsD H1 a/\ty σ H1 fun y H2=>∃o,gY H2 a y o/\Q (o.getD .non) H2
def Vd (td ty:TE):TE:=fun σ H Q=>td σ H fun x H1=>∃a,x=.ref a/\IsD H1 a/\ty σ H1 fun y H2=>∃kvs k v,H2 a=some (.dK kvs)/\y=kV k/\jF kvs k=some v/\Q v (upd H2 a (.dK (jW kvs k)))
section
variable {X:Cx} {o e f:Expr} {apos cpos:Pos} {td ty tx:TE}
theorem Kq (hu:X.A.units+1 < cLine)(ho:PE X o td)(he:PE X e ty)(m:M1 X o "get" apos e cpos):PE X (.Call (.Attribute o "get" apos) [e] [] cpos) (Xu td ty):=by
 intro pins s σ H Q I h;refine wpAny_Call_method m.base m.few m.line PySem.F.plainAttrs_dict PySem.F.slot_dict_get PySem.F.type_dict_get (thn (ho pins s σ H _ I h) fun u s1 ⟨x,H1,I1,rx,a,ex,d,q1⟩=>?_);subst ex;obtain rfl:u=Value.ref a:=rx;obtain⟨t1,t2,_⟩:=Lx I1 d;refine⟨t1,t2,?_⟩;rw[m.trees];refine Calls.callWith_builtin rfl (Calls.evalArgs_plain (Calls.spliced_cons (thn (he pins s1 σ H1 _ I1 q1) fun iv s2 ⟨y,H2,I2,ry,ov,g,q2⟩=>Calls.spliced_nil ?_)));exact Vl hu I2 g ry fun w' s3 I3 rw'=>⟨_,H2,I3,rw',q2⟩
theorem Kr (ho:PE X o td)(he:PE X e ty)(m:M1 X o "pop" apos e cpos):PE X (.Call (.Attribute o "pop" apos) [e] [] cpos) (Vd td ty):=by
 intro pins s σ H Q I h;refine wpAny_Call_method m.base m.few m.line PySem.F.plainAttrs_dict PySem.F.slot_dict_pop PySem.F.type_dict_pop (thn (ho pins s σ H _ I h) fun u s1 ⟨x,H1,I1,rx,a,ex,d,q1⟩=>?_);subst ex;obtain rfl:u=Value.ref a:=rx;obtain⟨t1,t2,_⟩:=Lx I1 d;refine⟨t1,t2,?_⟩;rw[m.trees];refine Calls.callWith_builtin rfl (Calls.evalArgs_plain (Calls.spliced_cons (thn (he pins s1 σ H1 _ I1 q1) fun iv s2 ⟨y,H2,I2,ry,kvs,k,v,ea,ey,l,q2⟩=>Calls.spliced_nil ?_)));subst ey;exact qa1 I2 ea ry l (.inl rfl) fun w' s3 I3 rw'=>⟨v,_,I3,rw',q2⟩
end
section
variable {X:Cx}
theorem Ip:rV X (.builtin "len") (fun xs H Q=>∃a kvs,xs=[V.ref a]/\H a=some (.dK kvs)/\Q (.int kvs.length) H):=by
 intro pins s σ H xs us Q I r h;obtain⟨a,kvs,rfl,ha,q⟩:=h;obtain⟨u,rfl,ru⟩:=yJ r
 cases ru
 exact Yn I (.inl ha) fun t s' I'=>⟨.int kvs.length,H,I',⟨t,rfl⟩,q⟩
end
theorem Fq.mod {K:Frag}{a:Addr}{d:Option Addr}{n:Nat}{sl:Array (Option Value)}{i j:Int}{t u:Tok}(l:K.lookup a=some ⟨.type "tuple",d,.seq #[.int i t,.int j u] n,sl⟩)(H:Hp):Fq K H a (i,j):=
 .inr ⟨_,_,_,l,rfl,rfl,(zl9 2),.cons ⟨_,rfl⟩ (.cons ⟨_,rfl⟩ .nil)⟩
abbrev RD:=Kd × Int × Int × Mq.Q2
inductive Rts (K:Frag) (H:Hp):List V->List RD->Prop where
 |nil:Rts K H [] []
 |cons {t z:Addr} {k:Kd} {i j:Int} {p:Mq.Q2} {xs:List V} {ds:List RD} (h:SqT K H t [.str k.wd,.int i,.int j,.ref z]) (f:Fq K H z p) (q:Rts K H xs ds):Rts K H (.ref t :: xs) ((k,i,j,p) :: ds)
section
variable {K:Frag} {H H':Hp}
theorem Rts.same (e:bF H H'):∀{xs:List V} {ds:List RD},Rts K H xs ds->Rts K H' xs ds
 |_,_,.nil=>.nil
 |_,_,.cons h f q=>.cons (e.seqT h) (e.fq f) (Rts.same e q)
theorem Rts.length:∀{xs:List V} {ds:List RD},Rts K H xs ds->xs.length=ds.length
 |_,_,.nil=>rfl
 |_,_,.cons _ _ q=>by simp[Rts.length q]
theorem Rts.app:∀{xs ys:List V} {ds es:List RD},Rts K H xs ds->Rts K H ys es->Rts K H (xs++ys) (ds++es)
 |_,_,_,_,.nil,r=>r
 |_,_,_,_,.cons h f q,r=>.cons h f (Rts.app q r)
theorem Rts.at:∀{xs:List V} {ds:List RD} {q:Nat} {d:RD},Rts K H xs ds->ds[q]?=some d->∃t z,xs[q]?=some (.ref t)/\SqT K H t [.str d.1.wd,.int d.2.1,.int d.2.2.1,.ref z]/\Fq K H z d.2.2.2
 |_,_,_,_,.nil,h=>by simp at h
 |_,_,0,_,.cons h f _,e=>by simp at e;subst e;exact⟨_,_,rfl,h,f⟩
 |_,_,i+1,_,.cons _ _ q,e=>by simpa using Rts.at q (by simpa using e)
theorem Rts.set {t z:Addr}{k:Kd}{i j:Int}{p:Mq.Q2}(h:SqT K H t [.str k.wd,.int i,.int j,.ref z])(f:Fq K H z p):∀{xs:List V} {ds:List RD} (q:Nat),Rts K H xs ds->Rts K H (xs.set q (.ref t)) (ds.set q (k,i,j,p))
 |_,_,_,.nil=>.nil
 |_,_,0,.cons _ _ q=>.cons h f q
 |_,_,n+1,.cons a b q=>.cons a b (Rts.set h f n q)
theorem Rts.upd {l:Addr}{ys:List V}{o:HO}(hl:H l=some (.lst ys)):∀{xs:List V} {ds:List RD},Rts K H xs ds->Rts K (L2.upd H l o) xs ds
 |_,_,.nil=>.nil
 |_,_,.cons h f q=>.cons (h.upd hl) (f.upd hl) (Rts.upd hl q)
end
def dI (l:Addr)(H H':Hp):Prop:=∀b o,H b=some o->b≠l->H' b=some o
theorem bF.x {l:Addr}{H H':Hp}(s:bF H H'):dI l H H':=fun b o h _=>s b o h
theorem dI.write {l:Addr}{H H1:Hp}{o:HO}(a:dI l H H1):dI l H (upd H1 l o):=fun c u h n=>by rw[aV n];exact a c u h n
section
variable {K:Frag} {H H':Hp} {l:Addr}
theorem dI.seqT {a:Addr}{xs ys:List V}(hl:H l=some (.lst ys))(e:dI l H H')(h:SqT K H a xs):SqT K H' a xs:=by
 rcases h with (h | ⟨u,h⟩) | h
 ·exact .inl (.inl (e _ _ h (jD h hl (fun z=>by cases z))))
 ·exact .inl (.inr ⟨u,e _ _ h (jD h hl (fun z=>by cases z))⟩)
 ·exact .inr h
end
theorem fpk:¬(("point_count":Str) = "kept"):=by decide +kernel
def oT (m:Int)(l:Addr):List (Str × V):=iW "kept" (.ref l) (iW "point_count" (.int m) [])
theorem Ay (m:Int)(l:Addr):(oT m l).lookup ("point_count":Str)=some (.int m):=by
 unfold oT;rw[cC,if_neg fpk,cC,if_pos rfl]
theorem gF (m:Int)(l:Addr):(oT m l).lookup ("kept":Str)=some (.ref l):=by
 unfold oT;rw[cC,if_pos rfl]
theorem eT (m:Int)(l:Addr){x:Str}(h1:¬x = "point_count")(h2:¬x = "kept"):(oT m l).lookup x=none:=by
 unfold oT;rw[cC,if_neg h2,cC,if_neg h1];rfl
def Ht (m:Int)(d:RD):Prop:=0<=d.2.1/\d.2.1 < m/\0<=d.2.2.1/\d.2.2.1 < m/\Mq.Low d.2.2.2/\(d.1=.pc->0 < d.2.2.2.1)/\Mq.Bd 1000 d.2.2.2
structure fY (CN:Addr) (K:Frag) (H:Hp) (n l:Addr) (m:Int) (ds:List RD):Prop where
 ob:∃dx,H n=some (.ins CN dx (oT m l))
 ls:∃ts,H l=some (.lst ts)/\Rts K H ts ds
theorem fY.same {CN:Addr}{K:Frag}{H H':Hp}{n l:Addr}{m:Int}{ds:List RD}(e:bF H H')(h:fY CN K H n l m ds):fY CN K H' n l m ds:=
 let ⟨⟨dx,a⟩,ts,b,c⟩:=h;⟨⟨dx,e _ _ a⟩,ts,e _ _ b,c.same e⟩
structure NT (K:Frag) (mg:Str->Option Value) (CN:Addr):Prop where
 cl:Cls K CN
 nP:iR K CN "point_count"
 nK:iR K CN "kept"
 t1:PySem.W.findIn K (.ref CN) "__class__"=some (some (.builtin "object.__class__"))
 t2:PySem.W.specialIn K (.builtin "object.__class__") "__get__"=some (some (.builtin "getset_descriptor.__get__"))
 t3:PySem.W.takesIn K (.builtin "object.__class__")=some true
 t4:PySem.W.mroIn K CN (.type "object")=some true
 mN:mg "Net"=some (.ref CN)
def uK (K:Frag)(CK:Kd->Addr):Sp:=fun vs H Q _=>∃(t:Addr) (v s g z:V),vs=[.ref t]/\SqT K H t [v,s,g,z]/\∃k:Kd,v=.str k.wd/\qe3 CK H Q k s g z
def Nz (K:Frag):Sp:=fun vs H Q _=>∃(a:Addr) (p:Mq.Q2),vs=[.ref a]/\Fq K H a p/\Mq.Low p/\Q (.bl true) H
def qa3 (K:Frag):Sp:=fun vs H Q _=>∃(a:Addr) (p:Mq.Q2) (n:Nat),vs=[.ref a]/\Fq K H a p/\Mq.Low p/\0 < p.1/\Mq.Bd n p/\n<=8000/\Q (.bl true) H
def Wk:Sp:=fun vs H Q _=>∃i b:Int,vs=[.int i,.int b]/\0<=i/\i < b/\Q (.bl true) H
def Xe (K:Frag):Sp:=fun vs H Q _=>∃(k:Kd) (z:Addr) (p:Mq.Q2),vs=[.str k.wd,.ref z]/\Fq K H z p/\Mq.Low p/\(k=.pc->0 < p.1)/\Mq.Bd 1000 p/\Q .non H
def Gy (CN:Addr):Sp:=fun vs H Q _=>∃(n dx:Addr) (m:Int),vs=[.ref n,.int m]/\H n=some (.ins CN dx [])/\1<=m/\m<=20/\∀l H',H l=none->(∀b o,H b=some o->b≠n->H' b=some o)->H' n=some (.ins CN dx (oT m l))->H' l=some (.lst [])->Q .non H'
def rC (CN:Addr)(K:Frag):Sp:=fun vs H Q _=>∃(n l:Addr) (m:Int) (ds:List RD),vs=[.ref n]/\fY CN K H n l m ds/\Q (.int m) H
def Uk (CN:Addr)(K:Frag)(CK:Kd->Addr):Sp:=fun vs H Q _=>∃(n l x z:Addr) (m:Int) (ds:List RD) (k:Kd) (i j:Int) (p:Mq.Q2),vs=[.ref n,.ref x]/\fY CN K H n l m ds/\Rw CK H x k (.int i) (.int j) (.ref z)/\Fq K H z p/\Ht m (k,i,j,p)/\ds.length < 40/\
 ∀H',dI l H H'->fY CN K H' n l m (ds++[(k,i,j,p)])->Q (.int ds.length) H'
def Av (CN:Addr)(K:Frag):Sp:=fun vs H Q _=>∃(n l z:Addr) (m q:Int) (ds:List RD) (k:Kd) (i j:Int) (p0 p:Mq.Q2),vs=[.ref n,.int q,.ref z]/\fY CN K H n l m ds/\0<=q/\ds[q.toNat]?=some (k,i,j,p0)/\Fq K H z p/\Mq.Low p/\(k=.pc->0 < p.1)/\Mq.Bd 1000 p/\
 ∀H',dI l H H'->fY CN K H' n l m (ds.set q.toNat (k,i,j,p))->Q .non H'
theorem Pn {a1 u:TS}{D:kM}{σ:St}{H:Hp}(P:St->Hp->Prop)(h1:∀X:St->Hp->Prop,(∀σ' H',P σ' H'->X σ' H')->(a1) { D with nx:=X } σ H)(h2:∀σ' H',P σ' H'->u D σ' H'):(fK a1 (u)) D σ H:=h1 _ h2
theorem Zo {a1 a2 u:TS}{D:kM}{σ:St}{H:Hp}(P:St->Hp->Prop)(h1:∀X:St->Hp->Prop,(∀σ' H',P σ' H'->X σ' H')->(fK a1 (a2)) { D with nx:=X } σ H)(h2:∀σ' H',P σ' H'->u D σ' H'):(fK a1 (fK a2 (u))) D σ H:=h1 _ h2
theorem qb5 {a1 a2 a3 u:TS}{D:kM}{σ:St}{H:Hp}(P:St->Hp->Prop)(h1:∀X:St->Hp->Prop,(∀σ' H',P σ' H'->X σ' H')->(fK a1 (fK a2 (a3))) { D with nx:=X } σ H)(h2:∀σ' H',P σ' H'->u D σ' H'):(fK a1 (fK a2 (fK a3 (u)))) D σ H:=h1 _ h2
theorem qa8 {a1 a2 a3 a4 u:TS}{D:kM}{σ:St}{H:Hp}(P:St->Hp->Prop)(h1:∀X:St->Hp->Prop,(∀σ' H',P σ' H'->X σ' H')->(fK a1 (fK a2 (fK a3 (a4)))) { D with nx:=X } σ H)(h2:∀σ' H',P σ' H'->u D σ' H'):(fK a1 (fK a2 (fK a3 (fK a4 (u))))) D σ H:=h1 _ h2
theorem qd1 {a1 a2 a3 a4 a5 a6 a7 u:TS}{D:kM}{σ:St}{H:Hp}(P:St->Hp->Prop)(h1:∀X:St->Hp->Prop,(∀σ' H',P σ' H'->X σ' H')->(fK a1 (fK a2 (fK a3 (fK a4 (fK a5 (fK a6 (a7))))))) { D with nx:=X } σ H)(h2:∀σ' H',P σ' H'->u D σ' H'):(fK a1 (fK a2 (fK a3 (fK a4 (fK a5 (fK a6 (fK a7 (u)))))))) D σ H:=h1 _ h2
end L2
namespace Mq
def val (p:Q2):Rat:=(p.1:Rat) / (p.2:Rat)
theorem dQ {b:Int}(h:b≠0):(b:Rat)≠0:=fun e=>h (Rat.intCast_inj.mp (by simpa using e))
theorem Ds {p:Q2}{t b:Int}(hp:p.2≠0)(hb:b≠0)(h:p.1*b=t*p.2):val p=(t:Rat) / (b:Rat):=by
 unfold val;have h1:=dQ hp;have h2:=dQ hb;have h3:(p.1:Rat)*(b:Rat)=(t:Rat)*(p.2:Rat):=by rw[<- Rat.intCast_mul,<- Rat.intCast_mul,h]
 grind
theorem kH {t b:Int}(hb:b≠0):val (red t b)=(t:Rat) / (b:Rat):=by
 have:=(iF (t:=t) hb).pos;exact Ds (by omega) hb (wZ hb)
theorem sY {p q:Q2}(hp:Low p)(hq:Low q)(h:val p=val q):p=q:=by
 refine Ni hp hq ?_;have p1:=dQ (show p.2≠0 by have:=hp.pos;omega);have q1:=dQ (show q.2≠0 by have:=hq.pos;omega);unfold val at h;have:(p.1:Rat)*(q.2:Rat)=(q.1:Rat)*(p.2:Rat):=by grind
 rw[<- Rat.intCast_mul,<- Rat.intCast_mul] at this;exact Rat.intCast_inj.mp this
theorem jN {p q:Q2}(hp:1<=p.2)(hq:1<=q.2):val (fL p q)=val p+val q:=by
 have p1:=dQ (show p.2≠0 by omega);have q1:=dQ (show q.2≠0 by omega);unfold fL;rw[kH (gE hp hq),Rat.intCast_add,Rat.intCast_mul,Rat.intCast_mul,Rat.intCast_mul];unfold val;grind
theorem rN {p q:Q2}(hp:1<=p.2)(hq:1<=q.2):val (minus p q)=val p - val q:=by
 have p1:=dQ (show p.2≠0 by omega);have q1:=dQ (show q.2≠0 by omega);unfold minus;rw[kH (gE hp hq),Rat.intCast_sub,Rat.intCast_mul,Rat.intCast_mul,Rat.intCast_mul];unfold val;grind
theorem yE {p q:Q2}(hp:1<=p.2)(hq:1<=q.2):val (gM p q)=val p*val q:=by
 have p1:=dQ (show p.2≠0 by omega);have q1:=dQ (show q.2≠0 by omega);unfold gM;rw[kH (gE hp hq),Rat.intCast_mul,Rat.intCast_mul];unfold val;grind
theorem Ct {p q:Q2}(hp:1<=p.2)(hq:1<=q.2)(h0:q.1≠0):val (oE p q)=val p / val q:=by
 have p1:=dQ (show p.2≠0 by omega);have q1:=dQ (show q.2≠0 by omega);have q2:=dQ h0;unfold oE;rw[kH (pL hp h0),Rat.intCast_mul,Rat.intCast_mul];unfold val;grind
theorem pF:val (0,1)=0:=by unfold val;simp;grind
theorem Ow:val (1,1)=1:=by unfold val;simp;grind
theorem Hc {t b:Int}(ht:0 < t)(hb:0 < b):0 < (red t b).1:=by
 have h1:=wZ (t:=t) (b:=b) (by omega);have h2:=(iF (t:=t) (b:=b) (by omega)).pos;have h3:0 < t*(red t b).2:=Int.mul_pos ht (by omega);rw[<- h1] at h3;exact Int.pos_of_mul_pos_left h3 (by omega)
def rs (n:Nat)(F:Nat->Rat):Rat:=match n with
 |0=>0
 |n+1=>rs n F+F n
theorem aK {n:Nat}{F G:Nat->Rat}(h:∀i,i < n->F i=G i):rs n F=rs n G:=by
 induction n with
 |zero=>rfl
 |succ n ih=>simp only[rs];rw[ih (fun i hi=>h i (by omega)),h n (by omega)]
theorem cV (n:Nat)(F G:Nat->Rat):rs n (fun i=>F i+G i)=rs n F+rs n G:=by
 induction n with
 |zero=>simp[rs];grind
 |succ n ih=>simp only[rs];rw[ih];grind
theorem eI (n:Nat)(c:Rat)(F:Nat->Rat):rs n (fun i=>c*F i)=c*rs n F:=by
 induction n with
 |zero=>simp[rs]
 |succ n ih=>simp only[rs];rw[ih];grind
theorem gX (n:Nat)(F:Nat->Rat):rs n (fun i=>- F i)=- rs n F:=by
 induction n with
 |zero=>simp[rs]
 |succ n ih=>simp only[rs];rw[ih];grind
theorem dF (n:Nat):rs n (fun _=>0)=0:=by
 induction n with
 |zero=>rfl
 |succ n ih=>simp only[rs];rw[ih];grind
theorem zG (n k:Nat)(F:Nat->Rat):rs n (fun i=>if k=i then F i else 0)=if k < n then F k else 0:=by
 induction n with
 |zero=>simp[rs]
 |succ n ih=>
  simp only[rs];rw[ih]
  by_cases h1:k < n
  ·rw[if_pos h1,if_neg (by omega),if_pos (by omega)];grind
  ·by_cases h2:k=n
   ·subst h2;rw[if_neg h1,if_pos rfl,if_pos (by omega)];grind
   ·rw[if_neg h1,if_neg h2,if_neg (by omega)];grind
abbrev z0:Q2:=(0,1)
abbrev Row:=Nat × Nat × Q2
theorem kG.pos {ls:List Q2}(h:kG ls):Pos ls:=fun p hp=>(h p hp).pos
def oA (L b:Int):Int:=Int.fdiv L (gc L b)*b
theorem nQ {L b:Int}(hL:1<=L)(hb:1<=b):1<=oA L b/\(∃j,oA L b=L*j)/\(∃k,oA L b=k*b/\1<=k)/\oA L b<=L*b:=by
 have gp:0 < gc L b:=tV (by omega);have d1:gc L b ∣ L:=by unfold gc;exact Int.gcd_dvd_left ..
 have d2:gc L b ∣ b:=by unfold gc;exact Int.gcd_dvd_right ..
 obtain⟨k,hk⟩:=d1;obtain⟨j,hj⟩:=d2;have ek:Int.fdiv L (gc L b)=k:=fV (by omega) hk;have k1:1<=k:=by
  have:0 < gc L b*k:=by omega
  have:=Int.pos_of_mul_pos_right this (by omega);omega
 unfold oA;rw[ek];refine⟨?_,⟨j,?_⟩,⟨k,rfl,k1⟩,?_⟩
 ·have:0 < k*b:=Int.mul_pos (by omega) (by omega);omega
 ·generalize gc L b=g at *
  rw[hk,hj];grind
 ·have:k<=L:=by
   rw[hk];have:=Int.mul_le_mul_of_nonneg_right (show 1<=gc L b by omega) (show 0<=k by omega);omega
  exact Int.mul_le_mul_of_nonneg_right this (by omega)
def dY (ps:List Q2):Int:=ps.foldl (fun L p=>oA L p.2) 1
theorem Iy (ps:List Q2)(p:Q2):dY (ps++[p])=oA (dY ps) p.2:=by unfold dY;rw[List.foldl_append];rfl
theorem mL {ps:List Q2}{i:Nat}{p:Q2}(h:ps[i]?=some p):dY (ps.take (i+1))=oA (dY (ps.take i)) p.2:=by
 rw[List.take_add_one,h];exact Iy _ _
theorem nY {ps:List Q2}(hp:Pos ps){n:Nat}(hb:∀p∈ps,Bd n p):∀i,i<=ps.length->1<=dY (ps.take i)/\B (1+n*i) (dY (ps.take i))/\∀p∈ps.take i,∃k,dY (ps.take i)=k*p.2
 |0,_=>⟨by show (1:Int)<=1;omega,show (1:Nat) < 2 ^ (1+n*0) by simp,fun p h=>by simp at h⟩
 |i+1,hi=>by
  obtain⟨h1,h2,h3⟩:=nY hp hb i (by omega);have e:ps[i]?=some ps[i]:=List.getElem?_eq_getElem (by omega);have mem:ps[i]∈ps:=List.getElem_mem _;rw[mL e];obtain⟨l1,⟨j,l2⟩,⟨k,l3,l4⟩,l5⟩:=nQ h1 (hp _ mem);refine⟨l1,?_,fun p hpp=>?_⟩
  ·have:=h2.mul (hb _ mem).b;refine B.mono (n:=1+n*i+n) (this.le ?_) (by rw[Nat.mul_succ];omega);have h0:1<=ps[i].2:=hp _ mem;have:0<=dY (ps.take i)*ps[i].2:=Int.mul_nonneg (by omega) (by omega);omega
  ·rw[List.take_add_one,e] at hpp;rcases List.mem_append.mp hpp with z | z
   ·obtain⟨q,hq⟩:=h3 p z;exact⟨q*j,by rw[l2,hq];grind⟩
   ·have:p=ps[i]:=by simpa using z
    rw[this];exact⟨k,l3⟩
theorem tL {ps:List Q2}(hp:Pos ps):1<=dY ps:=by
 have:∀(l:List Q2) (L:Int),1<=L->Pos l->1<=l.foldl (fun L p=>oA L p.2) L:=fun l=>by
  induction l with
  |nil=>intro L h _;exact h
  |cons p l ih=>intro L h q;exact ih _ (nQ h (q p (by simp))).1 fun x hx=>q x (List.mem_cons_of_mem _ hx)
 exact this ps 1 (by omega) hp
def Bk (L:Int)(p:Q2):Int:=p.1*Int.fdiv L p.2
def iw (ps:List Q2):List Int:=ps.map (Bk (dY ps))
theorem Lc {L k:Int}{p:Q2}(h:1<=p.2)(e:L=k*p.2):((Bk L p:Int):Rat)=val p*(L:Rat):=by
 have e1:Int.fdiv L p.2=k:=fV (by omega) (by rw[e,Int.mul_comm]);have n:=dQ (show p.2≠0 by omega);unfold Bk val;rw[e1,e,Rat.intCast_mul,Rat.intCast_mul];grind
theorem Cs {ps:List Q2}(hp:Pos ps):∀p∈ps,∃k,dY ps=k*p.2:=fun p hpp=>by
 have:∀(l:List Q2) (L:Int),1<=L->Pos l->(∃j,l.foldl (fun L p=>oA L p.2) L=L*j)/\∀p∈l,∃k,l.foldl (fun L p=>oA L p.2) L=k*p.2:=fun l=>by
  induction l with
  |nil=>intro L h _;exact⟨⟨1,by simp⟩,fun p h=>by simp at h⟩
  |cons q l ih=>
   intro L h hq;obtain⟨l1,⟨j,l2⟩,⟨k,l3,l4⟩,l5⟩:=nQ h (hq q (by simp));obtain⟨⟨j2,i1⟩,i2⟩:=ih (oA L q.2) l1 fun x hx=>hq x (List.mem_cons_of_mem _ hx);refine⟨⟨j*j2,by rw[List.foldl_cons,i1,l2];grind⟩,fun p hp=>?_⟩;rcases List.mem_cons.mp hp with rfl | hp
   ·exact⟨k*j2,by rw[List.foldl_cons,i1,l3];grind⟩
   ·exact i2 p hp
 exact(this ps 1 (by omega) hp).2 p hpp
def eQ (X:List (List Q2)):Prop:=∀row∈X,Pos row
theorem Lo {row:List Q2}(h:Pos row)(j:Nat):1<=(row.getD j z0).2:=by
 rw[List.getD_eq_getElem?_getD]
 cases e:row[j]? with
 |none=>exact Int.le_refl 1
 |some v=>exact h v (List.mem_of_getElem? e)
end Mq
namespace L2
open PySem PySem.Spec PyProof.Rows
abbrev Oz (scope:Scope)(cl:List (Str × Addr))(x0:Str)(C:Addr)(env:Env):Env:={ compEnvC scope cl C env with cells:=(x0,C+1) :: cl }
abbrev qa7 (X:Cx)(scope:Scope)(cl:List (Str × Addr))(x0:Str)(Nc:List Str)(C:Addr)(s3:Shared)(H3:Hp)(fp:List Addr)(pins:List (Addr × Obj)):Cx:=
 { X with N:=Nc,s₀:=s3,H₀:=H3,env:=Oz scope cl x0 C X.env,outer:=X.stack,ex:=fp,fn:=fun x=>x == x0,pn:=X.pn++pins,xe:=fun _ _=>False }
def Ite (K : Frag)(a : Addr) : It :=
  ⟨fun i H => ∃ xs x, SqL K H a xs /\ xs[i]? = some x,
   fun i H v H' => ∃ T x, v = .ref T /\ H T = none /\ H' = upd H T (.tup [.int (i : Int), x]) /\ ∀ xs, SqL K H a xs -> xs[i]? = some x,
   fun i H => ∃ xs, SqL K H a xs /\ xs.length <= i⟩
def Xl (e it l:Addr)(i:Nat)(h:Heap):Prop:=e≠it/\(∃old,IsEnum h e it (i:Int) old)/\h.IsListIter it l i
theorem Ic {P:Program}{w:World}{K:Frag}{elts:List Expr}{kk:Nat}{tpos:Pos}(e it l:Addr) :
  De P w K (.Tuple elts kk tpos) (Ite K l) [e,it] e (Xl e it l) where
 mem:=by simp
 obj:=fun i h st b hb=>by
  obtain⟨ne,⟨old,he⟩,⟨o1,e1,c1,d1⟩⟩:=st;simp only[List.mem_cons,List.not_mem_nil,or_false] at hb;rcases hb with rfl | rfl
  ·exact⟨_,he,fun v q=>by cases q⟩
  ·exact⟨o1,e1,fun v q=>by rw[d1] at q;cases q⟩
 keep:=fun i h h' st k=>by
  obtain⟨ne,⟨old,he⟩,⟨o1,e1,c1,d1⟩⟩:=st;exact⟨ne,⟨old,k _ (by simp) _ he⟩,⟨o1,k _ (by simp) _ e1,c1,d1⟩⟩
 item:=by
  intro X hP hw hK hc i pins s σ H E I hf st hg;subst hP hw hK;obtain⟨ne,⟨old,he⟩,t1⟩:=st;obtain⟨xs,x,hx,ex⟩:=hg;obtain⟨its1,rv1,p1,z1⟩:=I.list hx;obtain⟨u1,hu1,ru1⟩:=rv1.get ex;refine wpAny_pyNext_enum_item he t1 p1.isList (x:=u1) (by simpa using hu1) ne fun h' g1 g2 g3 g4 kk'=>?_;have hn:H s.heap.objs.size=none:=I.hok.fresh (Nat.le_refl _);have lt:∀b∈[e,it],b < s.heap.objs.size:=fun b hb=>by
   simp only[List.mem_cons,List.not_mem_nil,or_false] at hb;obtain⟨o1,e1,_⟩:=t1;rcases hb with rfl | rfl
   ·exact Heap.lt_size he
   ·exact Heap.lt_size e1
  have I1:Inv X pins σ (upd H s.heap.objs.size (.tup [.int (i:Int),x])) { s with heap:=s.heap.push { cls:=.type "tuple",data:=.seq #[.int i s.toks,u1] },toks:=s.toks+1 }:=
   I.laid (t':=s.toks+1) (fun b o e=>Heap.get?_push_of_some _ e) (Nat.le_refl _) (show dR X.prog X.w _ _ _ (.tup [.int (i:Int),x]) from ⟨zl9 2,[.int i s.toks,u1],.cons ⟨_,rfl⟩ (.cons ru1 .nil),IsTup.new _ _⟩)
  have hf1:∀b∈[e,it],mS X pins (upd H s.heap.objs.size (.tup [.int (i:Int),x])) b:=fun b hb=>⟨by rw[aV (Nat.ne_of_lt (lt b hb))];exact(hf b hb).1,(hf b hb).2⟩
  have k1:∀b o,b∉[e,it]->(s.heap.push { cls:=.type "tuple",data:=.seq #[.int i s.toks,u1] }).get? b=some o->h'.get? b=some o:=fun b o nb e=>by
   simp only[List.mem_cons,List.not_mem_nil,or_false,not_or] at nb
   by_cases hb:b=s.heap.objs.size
   ·subst hb;rw[Heap.get?_push_size _ rfl] at e
    cases e
    exact g3
   ·have e0:s.heap.get? b=some o:=by rw[Heap.get?_push_ne _ _ _ hb] at e;exact e
    exact kk' b o nb.1 nb.2 e0
  have I2:Inv X pins σ (upd H s.heap.objs.size (.tup [.int (i:Int),x])) { s with heap:=h',toks:=s.toks+1 }:=Inv.turnedL (s:={ s with heap:=s.heap.push { cls:=.type "tuple",data:=.seq #[.int i s.toks,u1] },toks:=s.toks+1 }) (t':=s.toks+1) I1 k1 hf1;refine⟨_,rfl,wpAny_letOwnedTupleGo_enum (s:={ s with heap:=h',toks:=s.toks+1 }) g1 fun h2 q1 q2=>?_⟩;have kz:∀b o,b≠e->h'.get? b=some o->h2.get? b=some o:=fun b o nb e=>(q2.2 b nb).trans e;have I3:Inv X pins σ (upd H s.heap.objs.size (.tup [.int (i:Int),x])) { s with heap:=h2,toks:=s.toks+1 }:=Inv.turnedL (s:={ s with heap:=h',toks:=s.toks+1 }) (t':=s.toks+1) (fp:=[e]) I2 (fun b o nb e=>kz b o (by simpa using nb) e) fun b hb=>hf1 b (by simp at hb;simp[hb]);obtain⟨o3,e3,c3,d3⟩:=g2;refine⟨.ref s.heap.objs.size,_,I3,rfl,⟨_,x,rfl,hn,rfl,fun xs' h1=>?_⟩,⟨ne,⟨_,q1⟩,⟨o3,kz _ _ ne.symm e3,c3,d3⟩⟩,fun b hb=>(hf1 b hb).1⟩;rw[I.list_inj h1 hx];exact ex
 done:=by
  intro X hP hw hK hc i pins s σ H E I hf st hg;subst hP hw hK;obtain⟨ne,⟨old,he⟩,t1⟩:=st;obtain⟨xs,hx,hor⟩:=hg;obtain⟨its1,rv1,p1,z1⟩:=I.list hx;have l1':=rv1.length;refine wpAny_pyNext_enum_end (I.ok.hd hc) he t1 p1.isList (by simp;omega) fun h' kk'=>⟨rfl,?_⟩
  refine I.turnedL (t':=s.toks) (fun b o nb e=>?_) hf;simp only[List.mem_cons,List.not_mem_nil,or_false,not_or] at nb;exact kk' b o nb.2 e
 self:=fun A i s Q E st h=>by
  obtain⟨ne,⟨old,he⟩,t1⟩:=st;exact wpAny_pyIter_enum he h
section
variable {X:Cx}
def Ya (K:Frag)(ta:TA):TI:=fun σ H R=>ta σ H fun vs H1=>∃a,vs=[.ref a]/\(∃xs,SqL K H1 a xs)/\R (Ite K a) H1
theorem tN {e1:Expr}{ta:TA}{p pos:Pos}{elts:List Expr}{kk:Nat}{tpos:Pos}(hg:Gl X "enumerate")(hm:X.mg "enumerate"=none)(hv:bootBuiltins "enumerate"=some (.type "enumerate"))(ha:PA X [e1] ta)(hs:starEach [e1] X.env=(false,eval e1 X.env) :: starEach [] X.env:=by rfl)(hpl:(backTo pos (starEach [] X.env)).any (·.1)=false:=by rfl):PI X (.Tuple elts kk tpos) (.Call (.Name "enumerate" p) [e1] [] pos) (Ya X.K ta):=by
 intro pins s σ H R I h;refine Call_ (kC I hg hm hv (PyProof.Rows.callWith_type1 (thn (ha pos pins s σ H _ I h) fun us s1 ⟨vs,H1,I1,r1,q1⟩=>?_) hs hpl));obtain⟨a,rfl,⟨xs,hx⟩,q⟩:=q1;obtain⟨u,rfl,ra⟩:=yJ r1
 cases (show u=Value.ref a from ra)
 obtain⟨its1,rv1,p1,z1⟩:=I1.list hx;have la:a < s1.heap.objs.size:=by obtain⟨o,e,_⟩:=p1.isList;exact Heap.lt_size e
 refine call_enumerate_list p1.isList fun h' g1 g2 g3 kk'=>?_;refine wpAny_pyIter_enum g1 ?_;refine⟨s1.heap.objs.size+1,[s1.heap.objs.size+1,s1.heap.objs.size],_,Ite X.K a,H1,rfl,I1.kept (t':=s1.toks) kk',Ic _ _ a,⟨?_,⟨_,g1⟩,g2⟩,fun c hc=>?_,q⟩
 ·exact Nat.succ_ne_self _
 ·have hle:s1.heap.objs.size<=c:=by
   simp only[List.mem_cons,List.not_mem_nil,or_false] at hc;rcases hc with rfl | rfl<;>first | exact Nat.le_add_right _ _ | exact Nat.le_refl _
  exact I1.fpOk hle (I1.hok.fresh hle)
theorem Pk {K:Frag}{a:Addr}{xs:List V}{g:TG}{tb:TS}{D:kM}{σ:St}{H:Hp}(Pv:Nat->St->Hp->Prop)(h0:Pv 0 σ H)(hl:∀i σ H,i<=xs.length->Pv i σ H->SqL K H a xs)(hs:∀i x σ H T,xs[i]?=some x->Pv i σ H->H T=none->g (.ref T) σ (upd H T (.tup [.int (i:Int),x])) fun σ2 H2=>tb { D with nx:=Pv (i+1),ct:=Pv (i+1),bk:=D.nx } σ2 H2)(hd:∀σ H,Pv xs.length σ H->D.nx σ H) :
  ∃W:Nat->Nat->St->Hp->Prop,(∃m,W 0 m σ H)/\∀i m σ H,W i m σ H->
   ((Ite K a).stop i H/\D.nx σ H)\/((Ite K a).go i H/\∃N:St->Hp->Prop,(∀σ' H',N σ' H'->∃m',m' < m/\W (i+1) m' σ' H')/\∀x H',(Ite K a).yld i H x H'->g x σ H' fun σ2 H2=>tb { D with nx:=N,ct:=N,bk:=D.nx } σ2 H2):=by
 refine⟨fun i m σ H=>m=xs.length - i/\i<=xs.length/\Pv i σ H,⟨_,rfl,Nat.zero_le _,h0⟩,?_⟩;rintro i m σ H ⟨rfl,hi,p⟩;have qx:=hl i σ H hi p
 by_cases hlt:i < xs.length
 ·refine .inr ⟨⟨xs,xs[i],qx,by simp[hlt]⟩,Pv (i+1),fun σ' H' p'=>⟨xs.length - (i+1),by omega,rfl,hlt,p'⟩,fun v H' z=>?_⟩;obtain⟨T,x,rfl,hT,rfl,hh⟩:=z;exact hs i x σ H T (hh xs qx) p hT
 ·have e:i=xs.length:=by omega
  subst e;exact .inl ⟨⟨xs,qx,Nat.le_refl _⟩,hd σ H p⟩
theorem qZ {K:Frag}{a:Addr}{xs:List V}{nl:Nat}{fr:List Nat}{g:TG}{tt:TT}{te:TE}{σ:St}{D:Addr}{H1:Hp}{Q:VK}(Pv:Nat->List V->Hp->Prop)(h0:Pv 0 [] (upd H1 D (.lst [])))(hl:∀i zs H,Pv i zs H->H D=some (.lst zs))(hx:∀i zs H,i<=xs.length->Pv i zs H->SqL K H a xs)(hs:∀i zs x H T,xs[i]?=some x->Pv i zs H->H T=none->∀(C:Nat->List V->Hp->Prop),(∀zs H,Pv (i+1) zs H->C (i+1) zs H)->Fm nl fr g tt te σ D C i zs (.ref T) (upd H T (.tup [.int (i:Int),x])))(hd:∀zs H,Pv xs.length zs H->Q (.ref D) H) :
  Cm (Ite K a) nl fr g tt te σ D H1 Q:=by
 refine⟨fun i m zs H=>m=xs.length - i/\i<=xs.length/\Pv i zs H,⟨_,rfl,Nat.zero_le _,h0⟩,?_⟩;rintro i m zs H ⟨rfl,hi,p⟩;refine⟨hl i zs H p,?_⟩;have qx:=hx i zs H hi p
 by_cases hlt:i < xs.length
 ·refine .inr ⟨⟨xs,xs[i],qx,by simp[hlt]⟩,fun v H' z=>?_⟩;obtain⟨T,x,rfl,hT,rfl,hh⟩:=z;exact hs i zs x H T (hh xs qx) p hT (fun j zs Hz=>∃m',m' < xs.length - i/\m'=xs.length - j/\j<=xs.length/\Pv j zs Hz) fun zs Hz z=>⟨xs.length - (i+1),by omega,rfl,hlt,z⟩
 ·have e:i=xs.length:=by omega
  subst e;exact .inl ⟨⟨xs,qx,Nat.le_refl _⟩,hd zs H p⟩
end
end L2
namespace Shp
open PySem L2
theorem Sy {t b:Int}(h:0 < b):Mq.dvr t b=Mq.gc t b:=by unfold Mq.dvr;rw[if_neg (by omega)]
end Shp
namespace Mq
def skip (j k:Nat):Nat:=if k < j then k else k+1
def sgn (n:Nat):Rat:=if n % 2=0 then 1 else -1
theorem uW (n:Nat):sgn (n+1)=- sgn n:=by
 unfold sgn;rcases Nat.mod_two_eq_zero_or_one n with h | h
 ·rw[if_neg (by omega),if_pos h]
 ·rw[if_pos (by omega),if_neg (by omega)];grind
abbrev Mat:=Nat->Nat->Rat
def det:Nat->Mat->Rat
 |0,_=>1
 |n+1,M=>rs (n+1) fun j=>sgn (n+j)*M n j*det n fun i k=>M i (skip j k)
theorem fU (n:Nat)(M:Mat):det (n+1) M=rs (n+1) fun j=>sgn (n+j)*M n j*det n fun i k=>M i (skip j k):=rfl
theorem Rx {j k n:Nat}(hk:k < n):skip j k < n+1:=by unfold skip;split<;>omega
theorem cS:∀{n:Nat} {M N:Mat},(∀i j,i < n->j < n->M i j=N i j)->det n M=det n N
 |0,_,_,_=>rfl
 |n+1,M,N,h=>by
  rw[fU,fU];exact aK fun j hj=>by rw[h n j (by omega) hj,cS (N:=fun i k=>N i (skip j k)) fun i k hi hk=>h i _ (by omega) (Rx hk)]
theorem xD {j k l:Nat}(h:j<=k):skip (k+1) (skip j l)=skip j (skip k l):=by
 unfold skip
 by_cases h1:l < j
 ·rw[if_pos h1,if_pos (show l < k by omega),if_pos (show l < k+1 by omega),if_pos h1]
 ·rw[if_neg h1]
  by_cases h2:l < k
  ·rw[if_pos h2,if_pos (show l+1 < k+1 by omega),if_neg h1]
  ·rw[if_neg h2,if_neg (show ¬l+1 < k+1 by omega),if_neg (show ¬l+1 < j by omega)]
theorem Rm (n m:Nat)(F:Nat->Nat->Rat):(rs n fun i=>rs m fun j=>F i j)=rs m fun j=>rs n fun i=>F i j:=by
 induction n with
 |zero=>simp only[rs];rw[dF]
 |succ n ih=>simp only[rs];rw[ih,<- cV]
theorem oR (n:Nat)(F:Nat->Rat):rs (n+1) F=F 0+rs n fun i=>F (i+1):=by
 induction n with
 |zero=>simp only[rs];grind
 |succ n ih=>rw[show rs (n+1+1) F=rs (n+1) F+F (n+1) from rfl,ih];simp only[rs];grind
theorem yI (N:Nat)(X:Nat->Nat->Rat):(rs (N+1) fun j=>rs N fun k=>X j k)=(rs N fun k=>rs N fun j=>if k<=j then X (j+1) k else 0)+rs N fun j=>rs N fun k=>if j<=k then X j k else 0:=by
 have h1:(rs (N+1) fun j=>rs N fun k=>X j k)=(rs (N+1) fun j=>rs N fun k=>if k < j then X j k else 0)+rs (N+1) fun j=>rs N fun k=>if k < j then 0 else X j k:=by
  rw[<- cV];refine aK fun j _=>?_;rw[<- cV];exact aK fun k _=>by split<;>grind
 have h2:(rs (N+1) fun j=>rs N fun k=>if k < j then X j k else 0)=rs N fun k=>rs N fun j=>if k<=j then X (j+1) k else 0:=by
  rw[Rm];refine aK fun k _=>?_;rw[oR,if_neg (by omega)];have:(rs N fun i=>if k < i+1 then X (i+1) k else 0)=rs N fun j=>if k<=j then X (j+1) k else 0:=aK fun i _=>by
   by_cases c:k<=i
   ·rw[if_pos (by omega),if_pos c]
   ·rw[if_neg (by omega),if_neg c]
  rw[this];grind
 have h3:(rs (N+1) fun j=>rs N fun k=>if k < j then 0 else X j k)=rs N fun j=>rs N fun k=>if j<=k then X j k else 0:=by
  show (rs N fun j=>rs N fun k=>if k < j then 0 else X j k)+(rs N fun k=>if k < N then 0 else X N k)=_;have:(rs N fun k=>if k < N then 0 else X N k)=rs N fun _=>0:=aK fun k hk=>by rw[if_pos hk]
  rw[this,dF];have e2:(rs N fun j=>rs N fun k=>if k < j then 0 else X j k)=rs N fun j=>rs N fun k=>if j<=k then X j k else 0:=aK fun j _=>aK fun k _=>by
   by_cases c:j<=k
   ·rw[if_neg (by omega),if_pos c]
   ·rw[if_pos (by omega),if_neg c]
  rw[e2];grind
 rw[h1,h2,h3]
theorem Dn (N:Nat)(X Y:Nat->Nat->Rat)(h:∀j k,j<=k->Y (k+1) j=- X j k)(h':∀j k,j<=k->X (k+1) j=- Y j k):(rs (N+1) fun j=>rs N fun k=>Y j k)=- rs (N+1) fun j=>rs N fun k=>X j k:=by
 rw[yI,yI];have e1:(rs N fun k=>rs N fun j=>if k<=j then Y (j+1) k else 0)=- rs N fun j=>rs N fun k=>if j<=k then X j k else 0:=by
  rw[<- gX];refine aK fun k _=>?_;rw[<- gX];exact aK fun j _=>by
   by_cases c:k<=j
   ·rw[if_pos c,if_pos c,h k j c]
   ·rw[if_neg c,if_neg c];grind
 have e2:(rs N fun k=>rs N fun j=>if k<=j then X (j+1) k else 0)=- rs N fun j=>rs N fun k=>if j<=k then Y j k else 0:=by
  rw[<- gX];refine aK fun k _=>?_;rw[<- gX];exact aK fun j _=>by
   by_cases c:k<=j
   ·rw[if_pos c,if_pos c,h' k j c]
   ·rw[if_neg c,if_neg c];grind
 rw[e1,e2];grind
def cG (a:Nat)(M:Mat):Mat:=fun i=>if i=a then M (a+1) else if i=a+1 then M a else M i
theorem Gn (n:Nat)(M:Mat):det (n+2) M=rs (n+2) fun j=>rs (n+1) fun k=>(sgn (n+1+j)*M (n+1) j)*(sgn (n+k)*M n (skip j k)*det n fun i l=>M i (skip j (skip k l))):=by
 rw[fU];exact aK fun j _=>by rw[fU,<- eI]
theorem pH (a b:Nat):sgn (a+1+b)=- sgn (a+b):=by rw[show a+1+b=a+b+1 by omega,uW]
theorem yM (n:Nat)(M:Mat):det (n+2) (cG n M)=- det (n+2) M:=by
 rw[Gn,Gn];refine Dn (n+1) _ _ (fun j k hjk=>?_) (fun j k hjk=>?_)
 ·show (sgn (n+1+(k+1))*cG n M (n+1) (k+1))*(sgn (n+j)*cG n M n (skip (k+1) j)*det n fun i l=>cG n M i (skip (k+1) (skip j l)))=- ((sgn (n+1+j)*M (n+1) j)*(sgn (n+k)*M n (skip j k)*det n fun i l=>M i (skip j (skip k l))));have a1:cG n M (n+1)=M n:=by unfold cG;rw[if_neg (by omega),if_pos rfl]
  have a2:cG n M n=M (n+1):=by unfold cG;rw[if_pos rfl]
  have a3:(det n fun i l=>cG n M i (skip (k+1) (skip j l)))=det n fun i l=>M i (skip j (skip k l)):=cS fun i l hi _=>by
   show cG n M i (skip (k+1) (skip j l))=M i (skip j (skip k l));rw[xD hjk];unfold cG;rw[if_neg (by omega),if_neg (by omega)]
  have a4:skip (k+1) j=j:=by unfold skip;rw[if_pos (by omega)]
  have a5:skip j k=k+1:=by unfold skip;rw[if_neg (by omega)]
  rw[a1,a2,a3,a4,a5,pH,pH,show n+(k+1)=n+k+1 by omega,uW];generalize (det n fun i l=>M i (skip j (skip k l)))=dd;generalize sgn (n+k)=s1;generalize sgn (n+j)=s2;grind
 ·show (sgn (n+1+(k+1))*M (n+1) (k+1))*(sgn (n+j)*M n (skip (k+1) j)*det n fun i l=>M i (skip (k+1) (skip j l)))=- ((sgn (n+1+j)*cG n M (n+1) j)*(sgn (n+k)*cG n M n (skip j k)*det n fun i l=>cG n M i (skip j (skip k l))));have a1:cG n M (n+1)=M n:=by unfold cG;rw[if_neg (by omega),if_pos rfl]
  have a2:cG n M n=M (n+1):=by unfold cG;rw[if_pos rfl]
  have a3:(det n fun i l=>M i (skip (k+1) (skip j l)))=det n fun i l=>cG n M i (skip j (skip k l)):=cS fun i l hi _=>by
   show M i (skip (k+1) (skip j l))=cG n M i (skip j (skip k l));rw[xD hjk];unfold cG;rw[if_neg (by omega),if_neg (by omega)]
  have a4:skip (k+1) j=j:=by unfold skip;rw[if_pos (by omega)]
  have a5:skip j k=k+1:=by unfold skip;rw[if_neg (by omega)]
  rw[a1,a2,a3,a4,a5,pH,pH,show n+(k+1)=n+k+1 by omega,uW];generalize (det n fun i l=>cG n M i (skip j (skip k l)))=dd;generalize sgn (n+k)=s1;generalize sgn (n+j)=s2;grind
theorem kZ:∀(n a:Nat) (M:Mat),a+1 < n->det n (cG a M)=- det n M
 |0,_,_,h=>absurd h (by omega)
 |n+1,a,M,h=>by
  by_cases e:a+1=n
  ·subst e;exact yM a M
  ·rw[fU,fU,<- gX];refine aK fun j hj=>?_;have e1:cG a M n j=M n j:=by unfold cG;rw[if_neg (by omega),if_neg (by omega)]
   have e2:(det n fun i k=>cG a M i (skip j k))=- det n fun i k=>M i (skip j k):=by
    rw[<- kZ n a (fun i k=>M i (skip j k)) (by omega)];exact cS fun i k _ _=>by
     show cG a M i (skip j k)=cG a (fun i k=>M i (skip j k)) i k;unfold cG;split
     ·rfl
     ·split<;>rfl
   rw[e1,e2];grind
theorem xX:∀(t n:Nat) (M:Mat) (i:Nat),i+t+1=n->(∀j,M i j=M n j)->det (n+1) M=0
 |0,n,M,i,h,e=>by
  have hn:n=i+1:=by omega
  subst hn;have s:=yM i M;have c:det (i+2) (cG i M)=det (i+2) M:=cS fun k j _ _=>by
   unfold cG
   by_cases k1:k=i
   ·rw[if_pos k1,k1];exact(e j).symm
   ·rw[if_neg k1]
    by_cases k2:k=i+1
    ·rw[if_pos k2,k2];exact e j
    ·rw[if_neg k2]
  rw[c] at s;grind
 |t+1,n,M,i,h,e=>by
  have s:=kZ (n+1) i M (by omega);have z:=xX t n (cG i M) (i+1) (by omega) fun j=>by
   have a1:cG i M (i+1)=M i:=by unfold cG;rw[if_neg (by omega),if_pos rfl]
   have a2:cG i M n=M n:=by unfold cG;rw[if_neg (by omega),if_neg (by omega)]
   rw[a1,a2];exact e j
  rw[z] at s;grind
def Ad (n:Nat)(S:Mat)(x:Nat->Rat):Mat:=fun i=>if i=n then x else S i
def F (n:Nat)(S:Mat)(c:Nat->Nat)(x:Nat->Rat):Rat:=det (n+1) (Ad n (fun i j=>S i (c j)) fun j=>x (c j))
theorem Hw (n:Nat)(S:Mat)(c:Nat->Nat)(x:Nat->Rat):F n S c x=rs (n+1) fun j=>sgn (n+j)*x (c j)*det n fun i k=>S i (c (skip j k)):=by
 unfold F;rw[fU];refine aK fun j _=>?_;have e1:Ad n (fun i j=>S i (c j)) (fun j=>x (c j)) n j=x (c j):=by unfold Ad;rw[if_pos rfl]
 rw[e1,cS fun i k hi _=>show Ad n (fun i j=>S i (c j)) (fun j=>x (c j)) i (skip j k)=S i (c (skip j k)) by unfold Ad;rw[if_neg (by omega)]]
theorem Za (n:Nat)(S:Mat)(c:Nat->Nat)(x y:Nat->Rat)(l:Rat):F n S c (fun j=>x j+l*y j)=F n S c x+l*F n S c y:=by
 rw[Hw,Hw,Hw,<- eI,<- cV];exact aK fun j _=>by grind
theorem Gu (n:Nat)(S:Mat)(c:Nat->Nat){i:Nat}(h:i < n):F n S c (S i)=0:=by
 unfold F;refine xX (n - i - 1) n _ i (by omega) fun j=>?_;unfold Ad;rw[if_neg (by omega),if_pos rfl]
theorem zI (n:Nat)(S:Mat)(c:Nat->Nat)(x:Nat->Rat)(h:∀j,j < n->x (c j)=0):F n S c x=x (c n)*det n fun i j=>S i (c j):=by
 rw[Hw];show (rs n fun j=>sgn (n+j)*x (c j)*det n fun i k=>S i (c (skip j k)))+sgn (n+n)*x (c n)*(det n fun i k=>S i (c (skip n k)))=_;have z:(rs n fun j=>sgn (n+j)*x (c j)*det n fun i k=>S i (c (skip j k)))=rs n fun _=>0:=aK fun j hj=>by rw[h j hj];grind
 have s:sgn (n+n)=1:=by unfold sgn;rw[if_pos (by omega)]
 have d:(det n fun i k=>S i (c (skip n k)))=det n fun i j=>S i (c j):=cS fun i k _ hk=>by show S i (c (skip n k))=_;unfold skip;rw[if_pos hk]
 rw[z,dF,s,d];grind
theorem Cj {n:Nat}{F:Nat->Rat}(h:∀i,i < n->∃z:Int,F i=(z:Rat)):∃z:Int,rs n F=(z:Rat):=by
 induction n with
 |zero=>exact⟨0,by simp[rs]⟩
 |succ n ih=>
  obtain⟨a,ha⟩:=ih fun i hi=>h i (by omega);obtain⟨b,hb⟩:=h n (by omega);exact⟨a+b,by simp only[rs];rw[ha,hb,Rat.intCast_add]⟩
theorem Ja (n:Nat):∃z:Int,sgn n=(z:Rat):=by
 unfold sgn;split
 ·exact⟨1,by simp⟩
 ·exact⟨-1,by rw[Rat.intCast_neg];simp⟩
theorem qE {a b:Rat}(h:∃z:Int,a=(z:Rat))(k:∃z:Int,b=(z:Rat)):∃z:Int,a*b=(z:Rat):=by
 obtain⟨x,rfl⟩:=h;obtain⟨y,rfl⟩:=k;exact⟨x*y,by rw[Rat.intCast_mul]⟩
theorem wI:∀{n:Nat} {M:Mat},(∀i j,∃z:Int,M i j=(z:Rat))->∃z:Int,det n M=(z:Rat)
 |0,_,_=>⟨1,by simp[det]⟩
 |n+1,M,h=>by
  rw[fU];exact Cj fun j _=>qE (qE (Ja _) (h n j)) (wI fun i k=>h i _)
theorem Tf {n:Nat}{S:Mat}{c:Nat->Nat}{x:Nat->Rat}(h:∀i j,∃z:Int,S i j=(z:Rat))(hx:∀j,∃z:Int,x j=(z:Rat)):∃z:Int,F n S c x=(z:Rat):=by
 unfold F;refine wI fun i j=>?_;unfold Ad;split
 ·exact hx _
 ·exact h i _
def Lin (Φ:(Nat->Rat)->Rat):Prop:=∀x y l,Φ (fun j=>x j+l*y j)=Φ x+l*Φ y
theorem Lin.zero {Φ:(Nat->Rat)->Rat}(h:Lin Φ):Φ (fun _=>0)=0:=by
 have:=h (fun _=>0) (fun _=>0) 1;have e:(fun j:Nat=>(fun _=>(0:Rat)) j+1*(fun _=>(0:Rat)) j)=fun _=>0:=by funext j;show (0:Rat)+1*0=0;grind
 rw[e] at this;grind
theorem Lin.mul {Φ:(Nat->Rat)->Rat}(h:Lin Φ)(l:Rat)(y:Nat->Rat):Φ (fun j=>l*y j)=l*Φ y:=by
 have:=h (fun _=>0) y l;have e:(fun j:Nat=>(fun _=>(0:Rat)) j+l*y j)=fun j=>l*y j:=by funext j;show (0:Rat)+l*y j=_;grind
 rw[e,h.zero] at this;grind
theorem Lin.sum {Φ:(Nat->Rat)->Rat}(h:Lin Φ)(a:Nat->Rat)(Y:Nat->Nat->Rat):∀n,Φ (fun j=>rs n fun k=>a k*Y k j)=rs n fun k=>a k*Φ (Y k)
 |0=>h.zero
 |n+1=>by
  have:=h (fun j=>rs n fun k=>a k*Y k j) (Y n) (a n);simp only[rs];rw[this,Lin.sum h a Y n]
theorem Gq (n:Nat)(S:Mat)(c:Nat->Nat):Lin (F n S c):=fun x y l=>Za n S c x y l
def Wh (x:Rat):Prop:=∃z:Int,x=(z:Rat)
theorem Wh.mul {a b:Rat}(h:Wh a)(k:Wh b):Wh (a*b):=qE h k
theorem Wh.neg {a:Rat}(h:Wh a):Wh (-a):=by obtain⟨z,rfl⟩:=h;exact⟨-z,by rw[Rat.intCast_neg]⟩
theorem Wh.sub {a b:Rat}(h:Wh a)(k:Wh b):Wh (a - b):=by obtain⟨x,rfl⟩:=h;obtain⟨y,rfl⟩:=k;exact⟨x - y,by rw[Rat.intCast_sub]⟩
theorem Wh.one:Wh 1:=⟨1,by simp⟩
theorem Wh.nil:Wh 0:=⟨0,by simp⟩
structure Bar (m:Nat) (A E:Mat) (r col:Nat) (d:Rat) (c:Nat->Nat):Prop where
 dne:d≠0
 rm:r<=m
 rc:r<=col
 clt:∀j,j < r->c j < col
 cinj:∀i j,i < r->j < r->c i=c j->i=j
 wA:∀i j,Wh (A i j)
 wE:∀i j,i < m->Wh (E i j)
 i2:∀k j,k < r->j < r->E k (c j)=if j=k then d else 0
 i3:∀i x,r<=i->i < m->x < col->E i x=0
 i4:∀i x,i < m->d*A i x=(rs r fun k=>A i (c k)*E k x)+if i < r then 0 else E i x
 i5:det r (fun i j=>A i (c j))=d
 i6:∀Φ,Lin Φ->(∀s,s < r->Φ (A s)=0)->∀k,k < r->Φ (E k)=0
 full:r=col->∀j,j < r->c j=j
theorem Bar.start {m:Nat}{A:Mat}(wA:∀i j,Wh (A i j)):Bar m A A 0 0 1 id where
 dne:=by grind
 rm:=by omega
 rc:=by omega
 clt:=fun j h=>absurd h (by omega)
 cinj:=fun i j h=>absurd h (by omega)
 wA:=wA
 wE:=fun i j _=>wA i j
 i2:=fun k j h=>absurd h (by omega)
 i3:=fun i x _ _ h=>absurd h (by omega)
 i4:=fun i x _=>by simp only[rs];rw[if_neg (by omega)];grind
 i5:=rfl
 i6:=fun Φ _ _ k h=>absurd h (by omega)
 full:=fun _ j h=>absurd h (by omega)
section
variable {m:Nat} {A E:Mat} {r col:Nat} {d:Rat} {c:Nat->Nat}
theorem Bar.skip (h:Bar m A E r col d c)(hz:∀i,r<=i->i < m->E i col=0):Bar m A E r (col+1) d c:=
 { h with
  rc:=by have:=h.rc;omega
  clt:=fun j hj=>by have:=h.clt j hj;omega
  i3:=fun i x hi hm hx=>by
   by_cases e:x=col
   ·rw[e];exact hz i hi hm
   ·exact h.i3 i x hi hm (by omega)
  full:=fun e=>by have:=h.rc;omega }
def sw (p r i:Nat):Nat:=if i=r then p else if i=p then r else i
theorem yK {p r i:Nat}(hp:r<=p)(hi:i < r):sw p r i=i:=by unfold sw;rw[if_neg (by omega),if_neg (by omega)]
theorem Ue {p r i:Nat}(hp:r<=p)(hi:r<=i):r<=sw p r i:=by unfold sw;split;exact hp;split<;>omega
theorem zO {p r i m:Nat}(hp:p < m)(hr:r < m)(hi:i < m):sw p r i < m:=by unfold sw;split;exact hp;split<;>omega
theorem Pg (p r i:Nat):sw p r (sw p r i)=i:=by
 unfold sw
 by_cases h1:i=r
 ·rw[if_pos h1]
  by_cases h2:p=r
  ·rw[if_pos h2];omega
  ·rw[if_neg h2,if_pos rfl];exact h1.symm
 ·rw[if_neg h1]
  by_cases h2:i=p
  ·rw[if_pos h2,if_pos rfl];exact h2.symm
  ·rw[if_neg h2,if_neg h1,if_neg h2]
theorem Bar.swap (h:Bar m A E r col d c){p:Nat}(hp:r<=p)(hpm:p < m):Bar m (fun i=>A (sw p r i)) (fun i=>E (sw p r i)) r col d c:=
 { h with
  wA:=fun i j=>h.wA _ j
  wE:=fun i j hi=>h.wE _ j (zO hpm (by omega) hi)
  i2:=fun k j hk hj=>by
   show E (sw p r k) (c j)=_;rw[yK hp hk];exact h.i2 k j hk hj
  i3:=fun i x hi hm hx=>h.i3 _ x (Ue hp hi) (zO hpm (by omega) hm) hx
  i4:=fun i x hm=>by
   have e:(rs r fun k=>A (sw p r i) (c k)*E (sw p r k) x)=rs r fun k=>A (sw p r i) (c k)*E k x:=aK fun k hk=>by rw[yK hp hk]
   show d*A (sw p r i) x=(rs r fun k=>A (sw p r i) (c k)*E (sw p r k) x)+_;rw[e,h.i4 _ x (zO hpm (by omega) hm)];congr 1
   by_cases hi:i < r
   ·rw[yK hp hi,if_pos hi]
   ·have:=Ue hp (show r<=i by omega);rw[if_neg (by omega),if_neg hi]
  i5:=by
   rw[<- h.i5];exact cS fun i j hi _=>by show A (sw p r i) (c j)=_;rw[yK hp hi]
  i6:=fun Φ hΦ hs k hk=>by
   show Φ (E (sw p r k))=0;rw[yK hp hk];exact h.i6 Φ hΦ (fun s hs'=>by have:=hs s hs';rwa [yK hp hs'] at this) k hk }
def clr (E:Mat)(r col:Nat)(d:Rat):Mat:=fun k x=>if k=r then E r x else (E r col*E k x - E k col*E r x) / d
def c1 (c:Nat->Nat)(r col:Nat):Nat->Nat:=fun j=>if j=r then col else c j
theorem iP (c:Nat->Nat){r col j:Nat}(h:j < r):c1 c r col j=c j:=by unfold c1;rw[if_neg (by omega)]
theorem nC (c:Nat->Nat)(r col:Nat):c1 c r col r=col:=by unfold c1;rw[if_pos rfl]
theorem yY (E:Mat)(r col:Nat)(d:Rat):clr E r col d r=E r:=by funext x;unfold clr;rw[if_pos rfl]
theorem kY (E:Mat){r col k:Nat}{d:Rat}(h:k≠r)(x:Nat):clr E r col d k x=(E r col*E k x - E k col*E r x) / d:=by unfold clr;rw[if_neg h]
theorem Bar.j2 (h:Bar m A E r col d c)(hr:r < m):∀k j,k < r+1->j < r+1->clr E r col d k (c1 c r col j)=if j=k then E r col else 0:=fun k j hk hj=>by
 have hd:=h.dne
 by_cases kr:k=r
 ·subst kr;rw[yY]
  by_cases jr:j=k
  ·rw[if_pos jr,jr,nC]
  ·rw[if_neg jr,iP c (by omega)];exact h.i3 k _ (Nat.le_refl _) hr (h.clt j (by omega))
 ·rw[kY E kr]
  by_cases jr:j=r
  ·subst jr;rw[nC,if_neg (by omega)];grind
  ·rw[iP c (by omega),h.i2 k j (by omega) (by omega),h.i3 r (c j) (Nat.le_refl _) hr (h.clt j (by omega))]
   by_cases e:j=k
   ·rw[if_pos e,if_pos e];grind
   ·rw[if_neg e,if_neg e];grind
theorem Bar.j4 (h:Bar m A E r col d c)(hr:r < m):∀i x,i < m->E r col*A i x=(rs (r+1) fun k=>A i (c1 c r col k)*clr E r col d k x)+if i < r+1 then 0 else clr E r col d i x:=fun i x hi=>by
 have hd:=h.dne;have q:=h.i4 i x hi;have q2:=h.i4 i col hi;show _=(rs r fun k=>A i (c1 c r col k)*clr E r col d k x)+A i (c1 c r col r)*clr E r col d r x+_;rw[nC,yY];have e:(rs r fun k=>A i (c1 c r col k)*clr E r col d k x)=(E r col / d)*(rs r fun k=>A i (c k)*E k x)+(-(E r x / d))*rs r fun k=>A i (c k)*E k col:=by
  rw[<- eI,<- eI,<- cV];exact aK fun k hk=>by rw[iP c hk,kY E (by omega)];grind
 rw[e];generalize (rs r fun k=>A i (c k)*E k x)=s1 at q ⊢;generalize (rs r fun k=>A i (c k)*E k col)=s2 at q2 ⊢
 by_cases h1:i < r
 ·rw[if_pos h1] at q q2;rw[if_pos (by omega)];have:s1=d*A i x:=by grind
  have:s2=d*A i col:=by grind
  subst s1 s2;grind
 ·rw[if_neg h1] at q q2;have a1:s1=d*A i x - E i x:=by grind
  have a2:s2=d*A i col - E i col:=by grind
  subst a1 a2
  by_cases h2:i=r
  ·subst h2;rw[if_pos (by omega)];grind
  ·rw[if_neg (by omega),kY E h2];grind
theorem Bar.j6 (h:Bar m A E r col d c)(hr:r < m):∀Φ,Lin Φ->(∀s,s < r+1->Φ (A s)=0)->∀k,k < r+1->Φ (clr E r col d k)=0:=fun Φ hΦ hs k hk=>by
 have hd:=h.dne;have z:=h.i6 Φ hΦ fun s hs'=>hs s (by omega);have zr:Φ (E r)=0:=by
  have e:E r=fun x=>(fun x=>d*A r x) x+(-1)*(fun x=>rs r fun k=>A r (c k)*E k x) x:=by
   funext x
   have:=h.i4 r x hr;rw[if_neg (by omega)] at this;show E r x=d*A r x+(-1)*(rs r fun k=>A r (c k)*E k x)
   grind
  rw[e,hΦ,hΦ.mul,hΦ.sum,hs r (by omega)];have:(rs r fun k=>A r (c k)*Φ (E k))=rs r fun _=>0:=aK fun k hk=>by rw[z k hk];grind
  rw[this,dF];grind
 by_cases kr:k=r
 ·rw[kr,yY];exact zr
 ·have e:clr E r col d k=fun x=>(fun x=>(E r col / d)*E k x) x+(-(E k col / d))*E r x:=by
   funext x
   rw[kY E kr];show _=(E r col / d)*E k x+(-(E k col / d))*E r x;grind
  rw[e,hΦ,hΦ.mul,z k (by omega),zr];grind
theorem Bar.j5 (h:Bar m A E r col d c)(hr:r < m):det (r+1) (fun i j=>A i (c1 c r col j))=E r col:=by
 have hd:=h.dne;have e1:det (r+1) (fun i j=>A i (c1 c r col j))=F r A (c1 c r col) (A r):=by
  unfold F;exact cS fun i j hi _=>by
   unfold Ad
   by_cases e:i=r
   ·rw[if_pos e,e]
   ·rw[if_neg e]
 have hΦ:=Gq r A (c1 c r col);have z:=h.i6 _ hΦ fun s hs=>Gu r A (c1 c r col) hs;have eA:A r=fun x=>(fun x=>(1 / d)*E r x) x+(1 / d)*(fun x=>rs r fun k=>A r (c k)*E k x) x:=by
  funext x
  have:=h.i4 r x hr;rw[if_neg (by omega)] at this;show A r x=(1 / d)*E r x+(1 / d)*(rs r fun k=>A r (c k)*E k x)
  grind
 have zs:(rs r fun k=>A r (c k)*F r A (c1 c r col) (E k))=0:=by
  have:(rs r fun k=>A r (c k)*F r A (c1 c r col) (E k))=rs r fun _=>0:=aK fun k hk=>by rw[z k hk];grind
  rw[this,dF]
 have fb:=zI r A (c1 c r col) (E r) fun j hj=>by rw[iP c hj];exact h.i3 r _ (Nat.le_refl _) hr (h.clt j hj)
 have dd:(det r fun i j=>A i (c1 c r col j))=d:=by rw[<- h.i5];exact cS fun i j _ hj=>by show A i (c1 c r col j)=_;rw[iP c hj]
 rw[nC,dd] at fb;rw[e1,eA,hΦ,hΦ.mul,hΦ.sum,zs,fb];grind
theorem Bar.wV (h:Bar m A E r col d c)(hr:r < m)(he:E r col≠0):∀i x,i < m->Wh (clr E r col d i x):=by
 have j2:=h.j2 hr;have j4:=h.j4 hr;have j5:=h.j5 hr;have j6:=h.j6 hr;have cin:∀i j,i < r+1->j < r+1->c1 c r col i=c1 c r col j->i=j:=fun i j hi hj e=>by
  by_cases a:i=r
  ·by_cases b:j=r
   ·omega
   ·rw[a,nC,iP c (by omega)] at e;have:=h.clt j (by omega);omega
  ·by_cases b:j=r
   ·rw[b,nC,iP c (by omega)] at e;have:=h.clt i (by omega);omega
   ·rw[iP c (by omega),iP c (by omega)] at e;exact h.cinj i j (by omega) (by omega) e
 have top:∀k x,k < r+1->Wh (clr E r col d k x):=fun k x hk=>by
  by_cases hx:∃j,j < r+1/\x=c1 c r col j
  ·obtain⟨j,hj,rfl⟩:=hx;rw[j2 k j hk hj];split
   ·exact h.wE r col hr
   ·exact Wh.nil
  ·let c2:Nat->Nat:=fun j=>if j=r+1 then x else c1 c r col j
   let u:Nat->Rat:=fun j=>if j=c1 c r col k then 1 else 0
   have hΦ:=Gq (r+1) A c2;have z:=j6 _ hΦ (fun s hs=>Gu (r+1) A c2 hs) k hk;have eu:u=fun y=>(fun y=>u y+(-(1 / E r col))*clr E r col d k y) y+(1 / E r col)*clr E r col d k y:=by
    funext y
    show u y=u y+(-(1 / E r col))*clr E r col d k y+(1 / E r col)*clr E r col d k y;grind
   have fb:=zI (r+1) A c2 (fun y=>u y+(-(1 / E r col))*clr E r col d k y) fun j hj=>by
    have ec:c2 j=c1 c r col j:=by show (if j=r+1 then x else c1 c r col j)=_;rw[if_neg (by omega)]
    rw[ec];show u (c1 c r col j)+(-(1 / E r col))*clr E r col d k (c1 c r col j)=0;rw[j2 k j hk hj];show (if c1 c r col j=c1 c r col k then (1:Rat) else 0)+_=0
    by_cases e:j=k
    ·rw[if_pos e,if_pos (by rw[e])];grind
    ·rw[if_neg e,if_neg (fun q=>e (cin j k hj hk q))];grind
   have dd:(det (r+1) fun i j=>A i (c2 j))=E r col:=by
    rw[<- j5];exact cS fun i j _ hj=>by show A i (if j=r+1 then x else c1 c r col j)=_;rw[if_neg (by omega)]
   have ux:u x=0:=by show (if x=c1 c r col k then (1:Rat) else 0)=0;rw[if_neg (fun q=>hx ⟨k,hk,q⟩)]
   have cx:c2 (r+1)=x:=by show (if r+1=r+1 then x else _)=x;rw[if_pos rfl]
   rw[dd,cx] at fb;have val:F (r+1) A c2 u=- clr E r col d k x:=by
    rw[eu,hΦ,z,fb];show (u x+(-(1 / E r col))*clr E r col d k x)*E r col+_=_;rw[ux];grind
   have wh:Wh (F (r+1) A c2 u):=Tf h.wA fun j=>by
    show Wh (if j=c1 c r col k then (1:Rat) else 0);split
    ·exact Wh.one
    ·exact Wh.nil
   rw[val] at wh;have:=wh.neg
   rwa [show - - clr E r col d k x=clr E r col d k x by grind] at this
 intro i x hi
 by_cases h1:i < r+1
 ·exact top i x h1
 ·have q:=j4 i x hi;rw[if_neg h1] at q;have e:clr E r col d i x=E r col*A i x - rs (r+1) fun k=>A i (c1 c r col k)*clr E r col d k x:=by grind
  rw[e];exact Wh.sub (Wh.mul (h.wE r col hr) (h.wA i x)) (Cj fun k hk=>Wh.mul (h.wA _ _) (top k x hk))
theorem Bar.clear (h:Bar m A E r col d c)(hr:r < m)(he:E r col≠0):Bar m A (clr E r col d) (r+1) (col+1) (E r col) (c1 c r col) where
 dne:=he
 rm:=hr
 rc:=by have:=h.rc;omega
 clt:=fun j hj=>by
  by_cases e:j=r
  ·rw[e,nC];omega
  ·rw[iP c (by omega)];have:=h.clt j (by omega);omega
 cinj:=fun i j hi hj e=>by
  by_cases a:i=r
  ·by_cases b:j=r
   ·omega
   ·rw[a,nC,iP c (by omega)] at e;have:=h.clt j (by omega);omega
  ·by_cases b:j=r
   ·rw[b,nC,iP c (by omega)] at e;have:=h.clt i (by omega);omega
   ·rw[iP c (by omega),iP c (by omega)] at e;exact h.cinj i j (by omega) (by omega) e
 wA:=h.wA
 wE:=fun i j hi=>h.wV hr he i j hi
 i2:=h.j2 hr
 i3:=fun i x hi hm hx=>by
  rw[kY E (by omega)]
  by_cases e:x=col
  ·rw[e];grind
  ·rw[h.i3 i x (by omega) hm (by omega),h.i3 r x (Nat.le_refl _) hr (by omega)];grind
 i4:=h.j4 hr
 i5:=h.j5 hr
 i6:=h.j6 hr
 full:=fun e j hj=>by
  by_cases a:j=r
  ·rw[a,nC];omega
  ·rw[iP c (by omega)];exact h.full (by omega) j (by omega)
end
def ent (R:List (List Int))(i x:Nat):Int:=(R.getD i []).getD x 0
def at2 (R:List (List Int)):Mat:=fun i x=>((ent R i x:Int):Rat)
theorem Bar.congr {m:Nat}{A E E':Mat}{r col:Nat}{d:Rat}{c:Nat->Nat}(h:Bar m A E r col d c)(e:∀i,i < m->E i=E' i):Bar m A E' r col d c:=
 { h with
  wE:=fun i j hi=>by rw[<- e i hi];exact h.wE i j hi
  i2:=fun k j hk hj=>by rw[<- e k (by have:=h.rm;omega)];exact h.i2 k j hk hj
  i3:=fun i x hi hm hx=>by rw[<- e i hm];exact h.i3 i x hi hm hx
  i4:=fun i x hm=>by
   rw[h.i4 i x hm];congr 1
   ·exact aK fun k hk=>by rw[e k (by have:=h.rm;omega)]
   ·rw[e i hm]
  i6:=fun Φ hΦ hs k hk=>by rw[<- e k (by have:=h.rm;omega)];exact h.i6 Φ hΦ hs k hk }
theorem Nu (n:Nat):∀(t p r:Nat) (A:Mat),p=r+t+1->p < n->det n (fun i=>A (sw p r i))=- det n A
 |0,p,r,A,h,hp=>by
  subst h;rw[<- kZ n r A (by omega)];exact cS fun i j _ _=>by
   show A (sw (r+0+1) r i) j=cG r A i j;unfold sw cG
   by_cases h1:i=r
   ·rw[if_pos h1,if_pos h1]
   ·rw[if_neg h1,if_neg h1]
    by_cases h2:i=r+1
    ·rw[if_pos (by omega),if_pos h2]
    ·rw[if_neg (by omega),if_neg h2]
 |t+1,p,r,A,h,hp=>by
  have ih:=Nu n t (r+t+1) r (cG (r+t+1) A) rfl (by omega);have s1:=kZ n (r+t+1) A (by omega);have s2:=kZ n (r+t+1) (fun i=>cG (r+t+1) A (sw (r+t+1) r i)) (by omega);have e:det n (fun i=>A (sw p r i))=det n (cG (r+t+1) (fun i=>cG (r+t+1) A (sw (r+t+1) r i))):=cS fun i j _ _=>by
   subst h;show A (sw (r+(t+1)+1) r i) j=cG (r+t+1) (fun i=>cG (r+t+1) A (sw (r+t+1) r i)) i j
   by_cases h1:i=r
   ·have a1:sw (r+(t+1)+1) r i=r+t+1+1:=by unfold sw;rw[if_pos h1];omega
    have a2:sw (r+t+1) r i=r+t+1:=by unfold sw;rw[if_pos h1]
    rw[a1];unfold cG;rw[if_neg (by omega),if_neg (by omega)];dsimp only;rw[a2,if_pos rfl]
   ·by_cases h2:i=r+t+1+1
    ·have a1:sw (r+(t+1)+1) r i=r:=by unfold sw;rw[if_neg h1,if_pos (by omega)]
     have a2:sw (r+t+1) r (r+t+1)=r:=by unfold sw;rw[if_neg (by omega),if_pos rfl]
     rw[a1];unfold cG;rw[if_neg (by omega),if_pos h2];dsimp only;rw[a2,if_neg (by omega),if_neg (by omega)]
    ·have a1:sw (r+(t+1)+1) r i=i:=by unfold sw;rw[if_neg h1,if_neg (by omega)]
     rw[a1]
     by_cases h3:i=r+t+1
     ·have a2:sw (r+t+1) r (r+t+1+1)=r+t+1+1:=by unfold sw;rw[if_neg (by omega),if_neg (by omega)]
      unfold cG;rw[if_pos h3];dsimp only;rw[a2,if_neg (by omega),if_pos rfl,h3]
     ·have a2:sw (r+t+1) r i=i:=by unfold sw;rw[if_neg h1,if_neg h3]
      unfold cG;rw[if_neg h3,if_neg h2];dsimp only;rw[a2,if_neg h3,if_neg h2]
  rw[e,s2,ih,s1];grind
def fI (R:List (List Int))(p r:Nat):List (List Int):=(R.set p (R.getD r [])).set r (R.getD p [])
theorem Uw (R:List (List Int))(p r:Nat):(fI R p r).length=R.length:=by unfold fI;simp
theorem yW {R:List (List Int)}{p r:Nat}(hp:p < R.length)(hr:r < R.length)(i:Nat):(fI R p r).getD i []=R.getD (sw p r i) []:=by
 unfold fI sw;rw[List.getD_eq_getElem?_getD]
 by_cases h1:i=r
 ·rw[if_pos h1,h1,List.getElem?_set_self (by simpa using hr)];rfl
 ·rw[if_neg h1,List.getElem?_set_ne (Ne.symm h1)]
  by_cases h2:i=p
  ·rw[if_pos h2,h2,List.getElem?_set_self hp];rfl
  ·rw[if_neg h2,List.getElem?_set_ne (Ne.symm h2),List.getD_eq_getElem?_getD]
def gJ (upper row:List Int)(col:Nat)(dv:Int):List Int:=List.zipWith (fun here above=>Int.fdiv (upper.getD col 0*here - row.getD col 0*above) dv) row upper
def cH (R:List (List Int))(r col:Nat)(dv:Int):List (List Int):=R.mapIdx fun i row=>if i=r then row else gJ (R.getD r []) row col dv
theorem Fu (R:List (List Int))(r col:Nat)(dv:Int):(cH R r col dv).length=R.length:=by unfold cH;simp
theorem pC {R:List (List Int)}{i:Nat}(hi:i < R.length)(r col:Nat)(dv:Int):(cH R r col dv).getD i []=if i=r then R.getD i [] else gJ (R.getD r []) (R.getD i []) col dv:=by
 unfold cH;rw[List.getD_eq_getElem?_getD,List.getElem?_mapIdx,List.getElem?_eq_getElem hi];have:R.getD i []=R[i]:=by rw[List.getD_eq_getElem?_getD,List.getElem?_eq_getElem hi];rfl
 rw[this];rfl
structure SI (m w:Nat) (A0:Mat) (R:List (List Int)) (r col:Nat) (d sg:Int):Prop where
 len:R.length=m
 wid:∀i,i < m->(R.getD i []).length=w
 bar:∃A c,Bar m A (at2 R) r col (d:Rat) c/\det m A=(sg:Rat)*det m A0
 one:sg=1\/sg=-1
theorem SI.start {m w:Nat}{R:List (List Int)}(h:R.length=m)(hw:∀i,i < m->(R.getD i []).length=w):SI m w (at2 R) R 0 0 1 1:=
 ⟨h,hw,⟨at2 R,id,by
  have:=Bar.start (m:=m) (A:=at2 R) fun i j=>⟨_,rfl⟩
  simpa using this,by simp⟩,.inl rfl⟩
theorem SI.skip {m w:Nat}{A0:Mat}{R:List (List Int)}{r col:Nat}{d sg:Int}(h:SI m w A0 R r col d sg)(hz:∀i,r<=i->i < m->ent R i col=0):SI m w A0 R r (col+1) d sg:=by
 obtain⟨A,c,B,e⟩:=h.bar;exact⟨h.len,h.wid,⟨A,c,B.skip fun i h1 h2=>by unfold at2;rw[hz i h1 h2];simp,e⟩,h.one⟩
theorem SI.swap {m w:Nat}{A0:Mat}{R:List (List Int)}{r col:Nat}{d sg:Int}(h:SI m w A0 R r col d sg){p:Nat}(hp:r < p)(hm:p < m):SI m w A0 (fI R p r) r col d (-sg):=by
 obtain⟨A,c,B,e⟩:=h.bar;have hl:=h.len;have gd:=fun i=>yW (R:=R) (p:=p) (r:=r) (by omega) (by omega) i;refine⟨(Uw R p r).trans hl,fun i hi=>?_,⟨_,c,(B.swap (by omega) hm).congr fun i hi=>?_,?_⟩,?_⟩
 ·rw[gd i];exact h.wid _ (zO hm (by omega) hi)
 ·funext x
  show (((R.getD (sw p r i) []).getD x 0:Int):Rat)=((((fI R p r).getD i []).getD x 0:Int):Rat)
  rw[gd i]
 ·rw[Nu m (p - r - 1) p r A (by omega) hm,e,Rat.intCast_neg];grind
 ·rcases h.one with z | z
  ·right;omega
  ·left;omega
theorem lU {l:List Int}{x:Nat}(h:x < l.length):l[x]?=some (l.getD x 0):=by rw[List.getD_eq_getElem?_getD,List.getElem?_eq_getElem h];rfl
theorem vK {l:List Int}{x:Nat}(h:l.length<=x):l.getD x 0=0:=by rw[List.getD_eq_getElem?_getD,List.getElem?_eq_none h];rfl
theorem Hd {m w:Nat}{A A0:Mat}{R:List (List Int)}{r col:Nat}{d sg:Int}(h:SI m w A0 R r col d sg){c:Nat->Nat}(B:Bar m A (at2 R) r col (d:Rat) c)(hr:r < m)(hc:col < w)(he:ent R r col≠0){i:Nat}(hi:i < m)(hir:i≠r)(x:Nat) :
  ∃z:Int,(gJ (R.getD r []) (R.getD i []) col d).getD x 0=z/\(z:Rat)=clr (at2 R) r col (d:Rat) i x/\(x < w->ent R r col*ent R i x - ent R i col*ent R r x=d*z):=by
 have dn:d≠0:=fun z=>B.dne (by rw[z];simp);have dq:=B.dne;have heq:at2 R r col≠0:=fun z=>he (Rat.intCast_inj.mp (by unfold at2 at z;simpa using z));have wi:=h.wid i hi;have wr:=h.wid r hr
 by_cases hx:x < w
 ·obtain⟨z,hz⟩:=B.wV hr heq i x hi;have e1:ent R r col*ent R i x - ent R i col*ent R r x=d*z:=by
   rw[kY _ hir] at hz;have:((ent R r col*ent R i x - ent R i col*ent R r x:Int):Rat)=((d*z:Int):Rat):=by
    rw[Rat.intCast_sub,Rat.intCast_mul,Rat.intCast_mul,Rat.intCast_mul,<- hz];show at2 R r col*at2 R i x - at2 R i col*at2 R r x=_;grind
   exact Rat.intCast_inj.mp this
  refine⟨z,?_,hz.symm,fun _=>e1⟩;unfold gJ;have g1:(R.getD i [])[x]?=some ((R.getD i []).getD x 0):=lU (by omega);have g2:(R.getD r [])[x]?=some ((R.getD r []).getD x 0):=lU (by omega);rw[List.getD_eq_getElem?_getD (l:=List.zipWith _ _ _),List.getElem?_zipWith,g1,g2];exact fV dn e1
 ·refine⟨0,?_,?_,fun h=>absurd h hx⟩
  ·unfold gJ;exact vK (by rw[List.length_zipWith,wi,wr];omega)
  ·rw[kY _ hir];have a1:at2 R i x=0:=by unfold at2 ent;rw[vK (by omega)];simp
   have a2:at2 R r x=0:=by unfold at2 ent;rw[vK (by omega)];simp
   rw[a1,a2];simp;grind
theorem SI.clear {m w:Nat}{A0:Mat}{R:List (List Int)}{r col:Nat}{d sg:Int}(h:SI m w A0 R r col d sg)(hr:r < m)(hc:col < w)(he:ent R r col≠0):SI m w A0 (cH R r col d) (r+1) (col+1) (ent R r col) sg:=by
 obtain⟨A,c,B,e⟩:=h.bar;have hl:=h.len;have heq:at2 R r col≠0:=fun z=>he (Rat.intCast_inj.mp (by unfold at2 at z;simpa using z));refine⟨(Fu R r col d).trans hl,fun i hi=>?_,⟨A,_,(B.clear hr heq).congr fun i hi=>?_,e⟩,h.one⟩
 ·rw[pC (by omega)];split
  ·exact h.wid i hi
  ·unfold gJ;rw[List.length_zipWith,h.wid i hi,h.wid r hr,Nat.min_self]
 ·funext x
  show clr (at2 R) r col (d:Rat) i x=((((cH R r col d).getD i []).getD x 0:Int):Rat)
  rw[pC (by omega)]
  by_cases hir:i=r
  ·rw[if_pos hir,hir,yY];rfl
  ·rw[if_neg hir];obtain⟨z,h1,h2,_⟩:=Hd h B hr hc he hi hir x;rw[h1,h2]
def BdR (n:Nat)(R:List (List Int)):Prop:=∀i x,B n (ent R i x)
theorem SI.whole {m w:Nat}{A0:Mat}{R:List (List Int)}{d sg:Int}(h:SI m w A0 R m m d sg):det m A0=(sg:Rat)*(d:Rat):=by
 obtain⟨A,c,B,e⟩:=h.bar;have f:=B.full rfl;have i5:=B.i5;have:det m (fun i j=>A i (c j))=det m A:=cS fun i j _ hj=>by show A i (c j)=A i j;rw[f j hj]
 rw[this,e] at i5;rcases h.one with z | z
 ·rw[z] at i5 ⊢;simp at i5 ⊢;exact i5
 ·rw[z,Rat.intCast_neg] at i5 ⊢;simp at i5 ⊢;grind
theorem SI.lame {m w:Nat}{A0:Mat}{R:List (List Int)}{r:Nat}{d sg:Int}(h:SI m w A0 R r m d sg)(hr:r < m):det m A0=0:=by
 obtain⟨A,c,B,e⟩:=h.bar;obtain⟨n,rfl⟩:∃n,m=n+1:=⟨m - 1,by omega⟩
 have dq:=B.dne;have e1:det (n+1) A=F n A id (A n):=by
  unfold F;exact cS fun i j hi _=>by
   unfold Ad
   by_cases z:i=n
   ·rw[if_pos z,z];rfl
   ·rw[if_neg z];rfl
 have hΦ:=Gq n A id;have z:=B.i6 _ hΦ fun s hs=>Gu n A id (by omega);have eA:A n=fun x=>(fun x=>(1 / (d:Rat))*at2 R n x) x+(1 / (d:Rat))*(fun x=>rs r fun k=>A n (c k)*at2 R k x) x:=by
  funext x
  have:=B.i4 n x (by omega);rw[if_neg (by omega)] at this;show A n x=(1 / (d:Rat))*at2 R n x+(1 / (d:Rat))*(rs r fun k=>A n (c k)*at2 R k x)
  grind
 have zs:(rs r fun k=>A n (c k)*F n A id (at2 R k))=0:=by
  have:(rs r fun k=>A n (c k)*F n A id (at2 R k))=rs r fun _=>0:=aK fun k hk=>by rw[z k hk];grind
  rw[this,dF]
 have zn:F n A id (at2 R n)=0:=by
  rw[Hw];have:(rs (n+1) fun j=>sgn (n+j)*at2 R n (id j)*det n fun i k=>A i (id (Mq.skip j k)))=rs (n+1) fun _=>0:=aK fun j hj=>by
   rw[show at2 R n (id j)=0 from B.i3 n j (by omega) (by omega) hj];grind
  rw[this,dF]
 have:det (n+1) A=0:=by
  rw[e1,eA,hΦ,hΦ.mul,hΦ.sum,zs,zn];grind
 rw[this] at e;rcases h.one with q | q
 ·rw[q] at e;simp at e;exact e.symm
 ·rw[q,Rat.intCast_neg] at e;simp at e;grind
def Hy:Nat->(Nat->Rat)->Rat
 |0,_=>1
 |n+1,b=>Hy n b*b n
theorem rM:∀(n:Nat) (b:Nat->Rat) (Q:Mat),det n (fun i j=>b i*Q i j)=Hy n b*det n Q
 |0,_,_=>by simp[det,Hy]
 |n+1,b,Q=>by
  rw[fU,fU,<- eI];refine aK fun j _=>?_;have:=rM n b (fun i k=>Q i (Mq.skip j k));show sgn (n+j)*(b n*Q n j)*det n (fun i k=>b i*Q i (Mq.skip j k))=Hy n b*b n*_;rw[this];grind
end Mq
namespace Shp
open PySem L2
inductive Imx (D:Addr) (H:Hp):List V->List (List Int)->Prop where
 |nil:Imx D H [] []
 |cons {u:Addr} {r:List Int} {us:List V} {R:List (List Int)} (ne:u≠D) (h:H u=some (.lst (r.map V.int))) (q:Imx D H us R):Imx D H (.ref u :: us) (r :: R)
theorem Imx.same {D:Addr}{H H':Hp}(e:bF H H'):∀{xs:List V} {R:List (List Int)},Imx D H xs R->Imx D H' xs R
 |_,_,.nil=>.nil
 |_,_,.cons n h q=>.cons n (e _ _ h) (q.same e)
theorem Imx.upd {D:Addr}{H:Hp}{o:HO}:∀{xs:List V} {R:List (List Int)},Imx D H xs R->Imx D (L2.upd H D o) xs R
 |_,_,.nil=>.nil
 |_,_,.cons n h q=>.cons n (by rw[aV n];exact h) q.upd
theorem Imx.length {D:Addr}{H:Hp}:∀{xs:List V} {R:List (List Int)},Imx D H xs R->xs.length=R.length
 |_,_,.nil=>rfl
 |_,_,.cons _ _ q=>by rw[List.length_cons,List.length_cons,q.length]
theorem Imx.get {D:Addr}{H:Hp}:∀{xs:List V} {R:List (List Int)} {i:Nat} {x:V},Imx D H xs R->xs[i]?=some x->∃u r,x=.ref u/\R[i]?=some r/\u≠D/\H u=some (.lst (r.map V.int))
 |_,_,0,_,.cons n h q,e=>by simp at e;exact⟨_,_,e.symm,rfl,n,h⟩
 |_,_,i+1,_,.cons n h q,e=>by simp at e;exact q.get e
theorem Imx.at {D:Addr}{H:Hp}{xs:List V}{R:List (List Int)}(h:Imx D H xs R){i:Nat}(hi:i < R.length):∃u,xs[i]?=some (.ref u)/\u≠D/\H u=some (.lst ((R.getD i []).map V.int)):=by
 have hx:i < xs.length:=by rw[h.length];exact hi
 obtain⟨u,r,e1,e2,e3,e4⟩:=h.get (List.getElem?_eq_getElem hx);refine⟨u,by rw[List.getElem?_eq_getElem hx,e1],e3,?_⟩;rw[List.getD_eq_getElem?_getD,e2];exact e4
theorem Imx.app {D:Addr}{H:Hp}:∀{xs ys:List V} {R S:List (List Int)},Imx D H xs R->Imx D H ys S->Imx D H (xs++ys) (R++S)
 |_,_,_,_,.nil,k=>k
 |_,_,_,_,.cons n h q,k=>.cons n h (q.app k)
theorem Imx.set {D:Addr}{H:Hp}{u:Addr}{r:List Int}(hn:u≠D)(hu:H u=some (.lst (r.map V.int))):∀{xs:List V} {R:List (List Int)} (i:Nat),Imx D H xs R->Imx D H (xs.set i (.ref u)) (R.set i r)
 |_,_,_,.nil=>by simp;exact .nil
 |_,_,0,.cons n h q=>.cons hn hu q
 |_,_,i+1,.cons n h q=>.cons n h (q.set hn hu i)
theorem Imx.other {D D':Addr}{H:Hp}(hD:H D'=none):∀{xs:List V} {R:List (List Int)},Imx D H xs R->Imx D' H xs R
 |_,_,.nil=>.nil
 |_,_,.cons n h q=>.cons (fun z=>by rw[z,hD] at h;cases h) h (q.other hD)
theorem kJ {l:List Int}{i:Nat}(h:i < l.length):(l.map V.int)[i]?=some (.int (l.getD i 0)):=by
 rw[List.getElem?_map,Mq.lU h];rfl
def Uj (K:Frag):Sp:=fun vs H Q _=>∃(a:Addr) (xs:List V) (ps:List Mq.Q2) (n:Nat),vs=[.ref a]/\SqL K H a xs/\Fqs K H xs ps/\Mq.Pos ps/\(∀p∈ps,Mq.Bd n p)/\ps.length<=100/\10+n+n*ps.length<=8000/\
 ∀t l H',bF H H'->H l=none->SqT K H' t [.ref l,.int (Mq.dY ps)]->H' l=some (.lst ((Mq.iw ps).map V.int))->Q (.ref t) H'
def Uq (K:Frag):Sp:=fun vs H Q _=>∃(l D:Addr) (zs:List V) (R:List (List Int)) (r c m w:Nat),vs=[.ref l,.int (r:Int),.int (c:Int)]/\SqL K H l zs/\Imx D H zs R/\R.length=m/\(∀i,i < m->(R.getD i []).length=w)/\c < w/\r<=m/\m<=100/\
 (∀p,r<=p->p < m->Mq.ent R p c≠0->Q (.int (p:Int)) H)/\((∀i,r<=i->i < m->Mq.ent R i c=0)->Q .non H)
def xZ (K:Frag):Sp:=fun vs H Q _=>∃(u v:Addr) (row upper:List Int) (c n:Nat) (dv:Int),vs=[.ref u,.ref v,.int (c:Int),.int dv]/\SqL K H u (row.map V.int)/\SqL K H v (upper.map V.int)/\row.length=upper.length/\row.length<=100/\c < row.length/\dv≠0/\
 (∀i,Mq.B n (row.getD i 0))/\(∀i,Mq.B n (upper.getD i 0))/\Mq.B n dv/\n<=9000/\
 ∀l H',bF H H'->H l=none->H' l=some (.lst ((Mq.gJ upper row c dv).map V.int))->Q (.ref l) H'
def wH (K:Frag):Sp:=fun vs H Q _=>∃(l D:Addr) (zs:List V) (R:List (List Int)) (r c m w n:Nat) (dv:Int),vs=[.ref l,.int (r:Int),.int (c:Int),.int dv]/\SqL K H l zs/\Imx D H zs R/\R.length=m/\(∀i,i < m->(R.getD i []).length=w)/\c < w/\w<=100/\r < m/\m<=100/\dv≠0/\Mq.BdR n R/\Mq.B n dv/\n<=9000/\
 ∀l' zs' H',bF H H'->H l'=none->H' l'=some (.lst zs')->Imx l' H' zs' (Mq.cH R r c dv)->Q (.ref l') H'
def Pm (l:Addr)(rank:Nat)(pivot sign:Int):HO:=.dK (gC [] [(.inr "rows",.ref l),(.inr "rank",.int (rank:Int)),(.inr "pivot",.int pivot),(.inr "sign",.int sign)])
def wgt (X:List (List Mq.Q2)):Rat:=Mq.det X.length fun i j=>Mq.val ((X.getD i []).getD j Mq.z0)
theorem Bo {H:Hp}{d l:Addr}{rank:Nat}{pivot sign:Int}(h:H d=some (Pm l rank pivot sign)):gY H d (.str "rows") (some (.ref l))/\gY H d (.str "rank") (some (.int (rank:Int)))/\gY H d (.str "pivot") (some (.int pivot))/\gY H d (.str "sign") (some (.int sign)):=by
 refine⟨?_,?_,?_,?_⟩
 ·exact gY.k (k:=(Sum.inr "rows":Key)) h
 ·exact gY.k (k:=(Sum.inr "rank":Key)) h
 ·exact gY.k (k:=(Sum.inr "pivot":Key)) h
 ·exact gY.k (k:=(Sum.inr "sign":Key)) h
def rZ (X:List (List Mq.Q2)):Int:=X.foldl (fun b row=>b*Mq.dY row) 1
theorem xG {X:List (List Mq.Q2)}{i:Nat}{row:List Mq.Q2}(h:X[i]?=some row):rZ (X.take (i+1))=rZ (X.take i)*Mq.dY row:=by
 unfold rZ;rw[List.take_add_one,h,List.foldl_append];rfl
theorem qM (X:List (List Mq.Q2)):∀i,i<=X.length->((rZ (X.take i):Int):Rat)=Mq.Hy i fun k=>((Mq.dY (X.getD k []):Int):Rat)
 |0,_=>by simp[rZ,Mq.Hy]
 |i+1,h=>by
  have e:X[i]?=some (X.getD i []):=by rw[List.getD_eq_getElem?_getD,List.getElem?_eq_getElem (by omega)];rfl
  rw[xG e,Rat.intCast_mul,qM X i (by omega)];rfl
theorem zH {X:List (List Mq.Q2)}(hX:Mq.eQ X):∀i,i<=X.length->1<=rZ (X.take i)
 |0,_=>by show (1:Int)<=1;omega
 |i+1,h=>by
  have e:X[i]?=some (X.getD i []):=by rw[List.getD_eq_getElem?_getD,List.getElem?_eq_getElem (by omega)];rfl
  rw[xG e];have h1:=zH hX i (by omega);have h2:=Mq.tL (hX _ (List.mem_of_getElem? e));have:=Int.mul_pos (show 0 < rZ (X.take i) by omega) (show 0 < Mq.dY (X.getD i []) by omega);omega
theorem Oi {row:List Mq.Q2}(hp:Mq.Pos row){j:Nat}(hj:j < row.length):(((Mq.iw row).getD j 0:Int):Rat)=((Mq.dY row:Int):Rat)*Mq.val (row.getD j Mq.z0):=by
 have ej:row[j]?=some (row.getD j Mq.z0):=by rw[List.getD_eq_getElem?_getD,List.getElem?_eq_getElem hj];rfl
 have mem:row.getD j Mq.z0∈row:=List.mem_of_getElem? ej;obtain⟨k,hk⟩:=Mq.Cs hp _ mem;have e2:(Mq.iw row).getD j 0=Mq.Bk (Mq.dY row) (row.getD j Mq.z0):=by
  unfold Mq.iw;rw[List.getD_eq_getElem?_getD,List.getElem?_map,ej];rfl
 rw[e2,Mq.Lc (hp _ mem) hk];grind
theorem qJ (row:List Mq.Q2):(Mq.iw row).length=row.length:=by unfold Mq.iw;simp
end Shp
namespace Mq
theorem lC (m a:Nat)(v:Rat)(h:a < m):(rs m fun i=>if i=a then v else 0)=v:=by
 induction m with
 |zero=>omega
 |succ m ih=>
  simp only[rs]
  by_cases e:m=a
  ·subst e;rw[if_pos rfl];have:(rs m fun i=>if i=m then v else 0)=rs m fun _=>0:=aK fun i hi=>by rw[if_neg (by omega)]
   rw[this,dF];grind
  ·rw[if_neg e,ih (by omega)];grind
theorem Zd (m p r:Nat)(hp:p < m)(hr:r < m)(F:Nat->Rat):(rs m fun i=>F (sw p r i))=rs m F:=by
 by_cases e:p=r
 ·subst e;exact aK fun i _=>by
   congr 1;unfold sw
   by_cases h:i=p
   ·rw[if_pos h,h]
   ·rw[if_neg h,if_neg h]
 have:(rs m fun i=>F (sw p r i))=rs m fun i=>F i+((if i=r then F p - F r else 0)+(if i=p then F r - F p else 0)):=aK fun i _=>by
  unfold sw
  by_cases h1:i=r
  ·rw[if_pos h1,if_pos h1,if_neg (by omega),h1];grind
  ·rw[if_neg h1,if_neg h1]
   by_cases h2:i=p
   ·rw[if_pos h2,if_pos h2,h2];grind
   ·rw[if_neg h2,if_neg h2];grind
 rw[this,cV,cV,lC m r _ hr,lC m p _ hp];grind
structure LI (m:Nat) (Aq:Mat) (R:List (List Int)):Prop where
 lin:∀i x,i < m->x < m->at2 R i x=rs m fun k=>at2 R i (m+k)*Aq k x
 ind:∀lam:Nat->Rat,(∀j,j < m->(rs m fun i=>lam i*at2 R i (m+j))=0)->∀i,i < m->lam i=0
theorem rO {R:List (List Int)}{p r:Nat}(hp:p < R.length)(hr:r < R.length)(i x:Nat):at2 (fI R p r) i x=at2 R (sw p r i) x:=by
 show ((((fI R p r).getD i []).getD x 0:Int):Rat)=_;rw[yW hp hr];rfl
theorem LI.swap {m:Nat}{Aq:Mat}{R:List (List Int)}(h:LI m Aq R)(hl:R.length=m){p r:Nat}(hp:p < m)(hr:r < m):LI m Aq (fI R p r) where
 lin:=fun i x hi hx=>by
  rw[rO (by omega) (by omega),h.lin _ x (zO hp hr hi) hx];exact aK fun k _=>by rw[rO (by omega) (by omega)]
 ind:=fun lam hz i hi=>by
  have:=h.ind (fun i=>lam (sw p r i)) (fun j hj=>by
   rw[<- hz j hj,<- Zd m p r hp hr];exact aK fun i _=>by
    show lam (sw p r (sw p r i))*_=_;rw[Pg,rO (by omega) (by omega)]) (sw p r i) (zO hp hr hi)
  have e:lam (sw p r (sw p r i))=0:=this
  rwa [Pg] at e
theorem tO {m w:Nat}{A0:Mat}{R:List (List Int)}{r col:Nat}{d sg:Int}(h:SI m w A0 R r col d sg)(hr:r < m)(hc:col < w)(he:ent R r col≠0){i:Nat}(hi:i < m)(x:Nat) :
  at2 (cH R r col d) i x=if i=r then at2 R i x else (at2 R r col*at2 R i x - at2 R i col*at2 R r x) / (d:Rat):=by
 obtain⟨A,c,B,e⟩:=h.bar;have hl:=h.len;show ((((cH R r col d).getD i []).getD x 0:Int):Rat)=_;rw[pC (by omega)]
 by_cases hir:i=r
 ·rw[if_pos hir,if_pos hir];rfl
 ·rw[if_neg hir,if_neg hir];obtain⟨z,h1,h2,_⟩:=Hd h B hr hc he hi hir x;rw[h1,h2,kY _ hir]
theorem SI.dne {m w:Nat}{A0:Mat}{R:List (List Int)}{r col:Nat}{d sg:Int}(h:SI m w A0 R r col d sg):(d:Rat)≠0:=by
 obtain⟨A,c,B,e⟩:=h.bar;exact B.dne
theorem LI.clear {m w:Nat}{Aq A0:Mat}{R:List (List Int)}{r col:Nat}{d sg:Int}(h:LI m Aq R)(s:SI m w A0 R r col d sg)(hr:r < m)(hc:col < w)(he:ent R r col≠0):LI m Aq (cH R r col d):=by
 have dn:=s.dne;have hn:at2 R r col≠0:=fun z=>he (Rat.intCast_inj.mp (by unfold at2 at z;simpa using z));have cl:=fun (i:Nat) (hi:i < m) (x:Nat)=>tO s hr hc he hi x;refine⟨fun i x hi hx=>?_,fun lam hz i hi=>?_⟩
 ·rw[cl i hi x]
  by_cases e:i=r
  ·rw[if_pos e,h.lin i x hi hx];exact aK fun k _=>by rw[cl i hi,if_pos e]
  ·rw[if_neg e,h.lin i x hi hx,h.lin r x hr hx];have:(rs m fun k=>at2 (cH R r col d) i (m+k)*Aq k x)=rs m fun k=>(at2 R r col / (d:Rat))*(at2 R i (m+k)*Aq k x)+(-(at2 R i col / (d:Rat)))*(at2 R r (m+k)*Aq k x):=aK fun k _=>by rw[cl i hi,if_neg e];grind
   rw[this,cV,eI,eI];grind
 ·-- the factors of the rows as they were
  have key:=h.ind (fun i=>if i=r then lam r - (rs m fun k=>if k=r then 0 else lam k*(at2 R k col / (d:Rat))) else lam i*(at2 R r col / (d:Rat))) (fun j hj=>by
   have e0:=hz j hj;have e1:(rs m fun i=>lam i*at2 (cH R r col d) i (m+j))=rs m fun i=>(if i=r then lam r*at2 R r (m+j) else 0)+((if i=r then 0 else lam i*(at2 R r col / (d:Rat))*at2 R i (m+j))+(-(at2 R r (m+j)))*(if i=r then 0 else lam i*(at2 R i col / (d:Rat)))):=aK fun i hi=>by
    rw[cl i hi]
    by_cases e:i=r
    ·rw[if_pos e,if_pos e,if_pos e,if_pos e,e];grind
    ·rw[if_neg e,if_neg e,if_neg e,if_neg e];grind
   rw[e1,cV,cV,eI,lC m r _ hr] at e0;have e2:(rs m fun i=>(if i=r then lam r - (rs m fun k=>if k=r then 0 else lam k*(at2 R k col / (d:Rat))) else lam i*(at2 R r col / (d:Rat)))*at2 R i (m+j))=rs m fun i=>(if i=r then (lam r - (rs m fun k=>if k=r then 0 else lam k*(at2 R k col / (d:Rat))))*at2 R r (m+j) else 0)+(if i=r then 0 else lam i*(at2 R r col / (d:Rat))*at2 R i (m+j)):=aK fun i _=>by
    by_cases e:i=r
    ·rw[if_pos e,if_pos e,if_pos e,e];grind
    ·rw[if_neg e,if_neg e,if_neg e];grind
   rw[e2,cV,lC m r _ hr];grind)
  have other:∀k,k < m->k≠r->lam k=0:=fun k hk e=>by
   have:=key k hk;rw[if_neg e] at this;have n2:at2 R r col / (d:Rat)≠0:=fun z=>hn (by grind);grind
  by_cases e:i=r
  ·have:=key r hr;rw[if_pos rfl] at this;have z:(rs m fun k=>if k=r then 0 else lam k*(at2 R k col / (d:Rat)))=rs m fun _=>0:=aK fun k hk=>by
    by_cases e:k=r
    ·rw[if_pos e]
    ·rw[if_neg e,other k hk e];grind
   rw[z,dF] at this;rw[e];grind
  ·exact other i hi e
theorem LI.lame {m w:Nat}{Aq A0:Mat}{R:List (List Int)}{d sg:Int}{r:Nat}(h:LI m Aq R)(s:SI m w A0 R r m d sg)(hr:r < m):(∃k,k < m/\ent R (m - 1) (m+k)≠0)/\∀x,x < m->(rs m fun k=>at2 R (m - 1) (m+k)*Aq k x)=0:=by
 obtain⟨A,c,B,e⟩:=s.bar;refine⟨Classical.byContradiction fun n=>?_,fun x hx=>?_⟩
 ·have all:∀k,k < m->ent R (m - 1) (m+k)=0:=fun k hk=>Classical.byContradiction fun z=>n ⟨k,hk,z⟩;have:=h.ind (fun i=>if i=m - 1 then 1 else 0) (fun j hj=>by
   have:(rs m fun i=>(if i=m - 1 then (1:Rat) else 0)*at2 R i (m+j))=rs m fun _=>0:=aK fun i _=>by
    by_cases e:i=m - 1
    ·rw[if_pos e,e];have:at2 R (m - 1) (m+j)=0:=by unfold at2;rw[all j hj];simp
     rw[this];grind
    ·rw[if_neg e];grind
   rw[this,dF]) (m - 1) (by omega)
  rw[if_pos rfl] at this;grind
 ·rw[<- h.lin (m - 1) x (by omega) hx];exact B.i3 (m - 1) x (by omega) (by omega) hx
end Mq
namespace PySem
open Sem (wp)
section
variable {prog:Program} {w:World} {A:Around} {E:Value->Shared->Prop} {h:Heap} {g:Array GenState} {d:Drawn} {t:Nat} {os:OsState}
variable {nm q:Str} {C N f:Addr} {bs bm bmB:List Value} {hdct:Bool} {sn:List Str} {sub:List Value} {ab:Bool} {col:Option Bool} {dd:Option Addr} {k0 k1 k2 k3 k5:Option Value} {B Bn newId nid initId inN:String} {bmN:List Value}
abbrev Xb (h:Heap)(C:Addr)(rest:List Value):Heap:=(h.push { cls:=.type "tuple",data:=.seq rest.toArray }).push { cls:=.ref C,data:=.fields #[.ref h.objs.size,.none,.none,.none,.bool false,.none] }
end
end PySem
namespace Shp
open PySem L2
inductive Fmd (K:Frag) (H0:Hp) (D:Addr) (H:Hp):List V->List (List Mq.Q2)->Prop where
 |nil:Fmd K H0 D H [] []
 |cons {u:Addr} {xs:List V} {ps:List Mq.Q2} {us:List V} {X:List (List Mq.Q2)} (n0:H0 u=none) (ne:u≠D) (h:H u=some (.lst xs)) (f:Fqs K H xs ps) (q:Fmd K H0 D H us X):Fmd K H0 D H (.ref u :: us) (ps :: X)
theorem Fmd.same {K:Frag}{H0:Hp}{D:Addr}{H H':Hp}(e:bF H H'):∀{xs:List V} {X:List (List Mq.Q2)},Fmd K H0 D H xs X->Fmd K H0 D H' xs X
 |_,_,.nil=>.nil
 |_,_,.cons n0 n h f q=>.cons n0 n (e _ _ h) (f.same e) (q.same e)
theorem Fmd.length {K:Frag}{H0:Hp}{D:Addr}{H:Hp}:∀{xs:List V} {X:List (List Mq.Q2)},Fmd K H0 D H xs X->xs.length=X.length
 |_,_,.nil=>rfl
 |_,_,.cons _ _ _ _ q=>by rw[List.length_cons,List.length_cons,q.length]
def oB (X:List (List Mq.Q2)):Mq.Mat:=fun i j=>Mq.val ((X.getD i []).getD j Mq.z0)
def mI (m i:Nat)(row:List Mq.Q2):List Int:=Mq.iw row++(List.range m).map fun c=>if c=i then Mq.dY row else 0
def jR (X:List (List Mq.Q2)):List (List Int):=X.mapIdx fun i row=>mI X.length i row
theorem Pl (X:List (List Mq.Q2)):(jR X).length=X.length:=by unfold jR;simp
theorem tY {X:List (List Mq.Q2)}{i:Nat}(h:i < X.length):(jR X).getD i []=mI X.length i (X.getD i []):=by
 unfold jR;rw[List.getD_eq_getElem?_getD,List.getElem?_mapIdx,List.getD_eq_getElem?_getD,List.getElem?_eq_getElem h];rfl
theorem uH {X:List (List Mq.Q2)}{i:Nat}(h:i < X.length):X[i]?=some (X.getD i []):=by rw[List.getD_eq_getElem?_getD,List.getElem?_eq_getElem h];rfl
theorem Ap (m i:Nat)(row:List Mq.Q2):(mI m i row).length=row.length+m:=by unfold mI;simp[qJ]
theorem wO {X:List (List Mq.Q2)}(hX:Mq.eQ X)(hw:∀row∈X,row.length=X.length){i x:Nat}(hi:i < X.length)(hx:x < X.length):Mq.at2 (jR X) i x=((Mq.dY (X.getD i []):Int):Rat)*oB X i x:=by
 have mem:=List.mem_of_getElem? (uH hi);show ((((jR X).getD i []).getD x 0:Int):Rat)=_;rw[tY hi];unfold mI;have l:=hw _ mem;rw[List.getD_eq_getElem?_getD,List.getElem?_append_left (by rw[qJ];omega),<- List.getD_eq_getElem?_getD];exact Oi (hX _ mem) (by omega)
theorem vX {X:List (List Mq.Q2)}(hw:∀row∈X,row.length=X.length){i k:Nat}(hi:i < X.length)(hk:k < X.length):Mq.ent (jR X) i (X.length+k)=if k=i then Mq.dY (X.getD i []) else 0:=by
 have mem:=List.mem_of_getElem? (uH hi);unfold Mq.ent;rw[tY hi];unfold mI;have l:=hw _ mem;rw[List.getD_eq_getElem?_getD,List.getElem?_append_right (by rw[qJ];omega),qJ,l,Nat.add_sub_cancel_left,List.getElem?_map,List.getElem?_range hk];rfl
theorem Qx {X:List (List Mq.Q2)}(hX:Mq.eQ X)(hw:∀row∈X,row.length=X.length):Mq.LI X.length (oB X) (jR X) where
 lin:=fun i x hi hx=>by
  rw[wO hX hw hi hx];have:(Mq.rs X.length fun k=>Mq.at2 (jR X) i (X.length+k)*oB X k x)=Mq.rs X.length fun k=>if k=i then ((Mq.dY (X.getD i []):Int):Rat)*oB X i x else 0:=Mq.aK fun k hk=>by
   show ((Mq.ent (jR X) i (X.length+k):Int):Rat)*_=_;rw[vX hw hi hk]
   by_cases e:k=i
   ·rw[if_pos e,if_pos e,e]
   ·rw[if_neg e,if_neg e];simp
  rw[this,Mq.lC _ _ _ hi]
 ind:=fun lam hz i hi=>by
  have e:=hz i hi;have:(Mq.rs X.length fun j=>lam j*Mq.at2 (jR X) j (X.length+i))=Mq.rs X.length fun j=>if j=i then lam i*((Mq.dY (X.getD i []):Int):Rat) else 0:=Mq.aK fun k hk=>by
   show _*((Mq.ent (jR X) k (X.length+i):Int):Rat)=_;rw[vX hw hk hi]
   by_cases e:k=i
   ·rw[if_pos e,if_pos e.symm,e]
   ·rw[if_neg e,if_neg (Ne.symm e)];simp
  rw[this,Mq.lC _ _ _ hi] at e;have g:=Mq.tL (hX _ (List.mem_of_getElem? (uH hi)));have n:=Mq.dQ (show Mq.dY (X.getD i [])≠0 by omega);grind
theorem Su {X:List (List Mq.Q2)}{R:List (List Int)}(h:∀i j,i < X.length->j < X.length->Mq.at2 R i j=((Mq.dY (X.getD i []):Int):Rat)*oB X i j):Mq.det X.length (Mq.at2 R)=((rZ X:Int):Rat)*wgt X:=by
 unfold wgt;have hb:=qM X X.length (Nat.le_refl _);rw[List.take_length] at hb;rw[hb,<- Mq.rM];exact Mq.cS fun i j hi hj=>h i j hi hj
theorem Md {X:List (List Mq.Q2)}{R R':List (List Int)}{w r:Nat}{d sg:Int}(hX:Mq.eQ X)(hR:Mq.det X.length (Mq.at2 R)=((rZ X:Int):Rat)*wgt X)(h:Mq.SI X.length w (Mq.at2 R) R' r X.length d sg):(r < X.length/\wgt X=0)\/(r=X.length/\wgt X≠0):=by
 have b1:=zH hX X.length (Nat.le_refl _);rw[List.take_length] at b1;have bn:=Mq.dQ (show rZ X≠0 by omega);obtain⟨A,c,B,e⟩:=h.bar;have rm:=B.rm;have dn:=B.dne;clear B
 by_cases hr:r < X.length
 ·left
  have e:=h.lame hr;rw[hR] at e;exact⟨hr,by grind⟩
 ·right
  have er:r=X.length:=by omega
  subst er;refine⟨rfl,fun z=>?_⟩;have e:=h.whole;rw[hR,z] at e;rcases h.one with q | q
  ·rw[q] at e;simp at e;grind
  ·rw[q,Rat.intCast_neg] at e;simp at e;grind
structure Stp (m w:Nat) (A0:Mq.Mat) (Pr:List (List Int)->Prop):Prop where
 sw:∀R r col d sg p,Mq.SI m w A0 R r col d sg->r < p->p < m->Pr R->Pr (Mq.fI R p r)
 cl:∀R r col d sg,Mq.SI m w A0 R r col d sg->r < m->col < w->Mq.ent R r col≠0->Pr R->Pr (Mq.cH R r col d)
theorem Xy {m w:Nat}{A0 Aq:Mq.Mat}:Stp m w A0 (Mq.LI m Aq):=
 ⟨fun R r col d sg p s h1 h2 h=>h.swap s.len h2 (by omega),fun R r col d sg s h1 h2 h3 h=>h.clear s h1 h2 h3⟩
end Shp
namespace Mq
theorem Zt {row:List Q2}{j:Nat}(h:j < row.length):row[j]?=some (row.getD j z0):=by rw[List.getD_eq_getElem?_getD,List.getElem?_eq_getElem h];rfl
end Mq
namespace Shp
open PySem L2
theorem Fmd.get {K:Frag}{H0:Hp}{D:Addr}{H:Hp}:∀{xs:List V} {X:List (List Mq.Q2)} {i:Nat} {x:V},Fmd K H0 D H xs X->xs[i]?=some x->∃u ys ps,x=.ref u/\X[i]?=some ps/\H0 u=none/\u≠D/\H u=some (.lst ys)/\Fqs K H ys ps
 |_,_,0,_,.cons n0 n h f q,e=>by simp at e;exact⟨_,_,_,e.symm,rfl,n0,n,h,f⟩
 |_,_,i+1,_,.cons n0 n h f q,e=>by simp at e;exact q.get e
end Shp
namespace Mq
def KI (m:Nat)(A0:Mat)(R:List (List Int)):Prop:=∀Φ,Lin Φ->(∀k,k < m->Φ (at2 R k)=0)->∀i,i < m->Φ (A0 i)=0
theorem KI.swap {m:Nat}{A0:Mat}{R:List (List Int)}(h:KI m A0 R)(hl:R.length=m){p r:Nat}(hp:p < m)(hr:r < m):KI m A0 (fI R p r):=fun Φ lin hz=>by
 refine h Φ lin fun k hk=>?_;have e:at2 R k=at2 (fI R p r) (sw p r k):=by
  funext x
  rw[rO (by omega) (by omega),Pg]
 rw[e];exact hz _ (zO hp hr hk)
theorem KI.clear {m w:Nat}{A0 A1:Mat}{R:List (List Int)}{r col:Nat}{d sg:Int}(h:KI m A1 R)(s:SI m w A0 R r col d sg)(hr:r < m)(hc:col < w)(he:ent R r col≠0):KI m A1 (cH R r col d):=fun Φ lin hz=>by
 have dn:=s.dne;have hn:at2 R r col≠0:=fun z=>he (Rat.intCast_inj.mp (by unfold at2 at z;simpa using z));have cl:=fun (i:Nat) (hi:i < m) (x:Nat)=>tO s hr hc he hi x;have zr:Φ (at2 R r)=0:=by
  have e:at2 R r=at2 (cH R r col d) r:=by funext x;rw[cl r hr x,if_pos rfl]
  rw[e];exact hz r hr
 refine h Φ lin fun k hk=>?_
 by_cases e:k=r
 ·rw[e];exact zr
 ·have e2:at2 R k=fun x=>(fun x=>((d:Rat) / at2 R r col)*at2 (cH R r col d) k x) x+(at2 R k col / at2 R r col)*at2 R r x:=by
   funext x
   show _=((d:Rat) / at2 R r col)*at2 (cH R r col d) k x+_;rw[cl k hk x,if_neg e];grind
  rw[e2,lin,lin.mul,hz k hk,zr];grind
theorem KI.whole {m w:Nat}{A0 A1:Mat}{R:List (List Int)}{d sg:Int}(h:KI m A1 R)(s:SI m w A0 R m m d sg){i:Nat}(hi:i < m):(rs m fun k=>A1 i k*(at2 R k m / (d:Rat)))=A1 i m:=by
 obtain⟨A,c,B,e⟩:=s.bar;have dn:=B.dne;have:=h (fun f=>(rs m fun k=>f k*(at2 R k m / (d:Rat))) - f m) (fun x y l=>by
  have:(rs m fun k=>(x k+l*y k)*(at2 R k m / (d:Rat)))=(rs m fun k=>x k*(at2 R k m / (d:Rat))+l*(y k*(at2 R k m / (d:Rat)))):=aK fun k _=>by grind
  show (rs m fun k=>(x k+l*y k)*(at2 R k m / (d:Rat))) - (x m+l*y m)=((rs m fun k=>x k*(at2 R k m / (d:Rat))) - x m)+l*((rs m fun k=>y k*(at2 R k m / (d:Rat))) - y m)
  rw[this,cV,eI];grind) (fun k hk=>by
  have:(rs m fun j=>at2 R k j*(at2 R j m / (d:Rat)))=rs m fun j=>if j=k then (d:Rat)*(at2 R k m / (d:Rat)) else 0:=aK fun j hj=>by
   have i2:=B.i2 k j hk hj;rw[B.full rfl j hj] at i2;rw[i2]
   by_cases z:j=k
   ·rw[if_pos z,if_pos z,z]
   ·rw[if_neg z,if_neg z];grind
  show (rs m fun j=>at2 R k j*(at2 R j m / (d:Rat))) - at2 R k m=0;rw[this,lC m k _ hk];grind) i hi
 have e2:(rs m fun k=>A1 i k*(at2 R k m / (d:Rat))) - A1 i m=0:=this;grind
end Mq
namespace Shp
open PySem L2
def lV (X:List (List Mq.Q2))(qs:List Mq.Q2):List (List Mq.Q2):=List.zipWith (fun row q=>row++[q]) X qs
def gN (X:List (List Mq.Q2))(qs:List Mq.Q2):List (List Int):=(lV X qs).map Mq.iw
section
variable {X:List (List Mq.Q2)} {qs:List Mq.Q2}
theorem oX (hl:qs.length=X.length):(lV X qs).length=X.length:=by unfold lV;simp[hl]
theorem vQ (hl:qs.length=X.length):(gN X qs).length=X.length:=by unfold gN;rw[List.length_map,oX hl]
theorem oJ (hl:qs.length=X.length){i:Nat}(hi:i < X.length):(lV X qs).getD i []=X.getD i []++[qs.getD i Mq.z0]:=by
 unfold lV;rw[List.getD_eq_getElem?_getD,List.getElem?_zipWith,uH hi,Mq.Zt (show i < qs.length by omega)];rfl
theorem pP (hl:qs.length=X.length){i:Nat}(hi:i < X.length):(gN X qs).getD i []=Mq.iw (X.getD i []++[qs.getD i Mq.z0]):=by
 unfold gN;rw[List.getD_eq_getElem?_getD,List.getElem?_map,uH (X:=lV X qs) (by rw[oX hl];exact hi),oJ hl hi];rfl
theorem tJ (hX:Mq.eQ X)(hq:Mq.Pos qs)(hl:qs.length=X.length){i:Nat}(hi:i < X.length):Mq.Pos (X.getD i []++[qs.getD i Mq.z0]):=fun p hp=>by
 rcases List.mem_append.mp hp with z | z
 ·exact hX _ (List.mem_of_getElem? (uH hi)) p z
 ·have e:p=qs.getD i Mq.z0:=by simpa using z
  rw[e];exact Mq.Lo hq i
theorem Da (hX:Mq.eQ X)(hq:Mq.Pos qs)(hl:qs.length=X.length):Mq.eQ (lV X qs):=fun row hr=>by
 obtain⟨i,hi,rfl⟩:=List.getElem_of_mem hr;have hi':i < X.length:=by rw[oX hl] at hi;exact hi
 have e:=oJ hl hi';rw[List.getD_eq_getElem?_getD,List.getElem?_eq_getElem hi] at e;have e':(lV X qs)[i]=X.getD i []++[qs.getD i Mq.z0]:=e;rw[e'];exact tJ hX hq hl hi'
theorem uI (hX:Mq.eQ X)(hq:Mq.Pos qs)(hl:qs.length=X.length)(hw:∀row∈X,row.length=X.length){i x:Nat}(hi:i < X.length)(hx:x < X.length+1) :
  Mq.at2 (gN X qs) i x=((Mq.dY ((lV X qs).getD i []):Int):Rat)*if x < X.length then oB X i x else Mq.val (qs.getD i Mq.z0):=by
 have l:=hw _ (List.mem_of_getElem? (uH hi));show ((((gN X qs).getD i []).getD x 0:Int):Rat)=_;rw[pP hl hi,oJ hl hi,Oi (tJ hX hq hl hi) (by rw[List.length_append,l];simpa using hx)];congr 1
 by_cases h:x < X.length
 ·rw[if_pos h,List.getD_eq_getElem?_getD,List.getElem?_append_left (by rw[l];exact h),<- List.getD_eq_getElem?_getD];rfl
 ·have ex:x=X.length:=by omega
  rw[if_neg h,List.getD_eq_getElem?_getD,List.getElem?_append_right (by rw[l];omega),l,ex,Nat.sub_self];rfl
theorem Ta (hX:Mq.eQ X)(hq:Mq.Pos qs)(hl:qs.length=X.length)(hw:∀row∈X,row.length=X.length):Mq.det X.length (Mq.at2 (gN X qs))=((rZ (lV X qs):Int):Rat)*wgt X:=by
 unfold wgt;have hb:=qM (lV X qs) (lV X qs).length (Nat.le_refl _);rw[List.take_length,oX hl] at hb;rw[hb,<- Mq.rM];refine Mq.cS fun i j hi hj=>?_;rw[uI hX hq hl hw hi (by omega),if_pos hj];rfl
theorem Ji {R R':List (List Int)}{w r:Nat}{d sg:Int}{f:Rat}(fn:f≠0)(hR:Mq.det X.length (Mq.at2 R)=f*wgt X)(h:Mq.SI X.length w (Mq.at2 R) R' r X.length d sg):(r < X.length/\wgt X=0)\/(r=X.length/\wgt X≠0):=by
 obtain⟨A,c,B,e⟩:=h.bar;have rm:=B.rm;have dn:=B.dne;clear B
 by_cases hr:r < X.length
 ·left
  have e:=h.lame hr;rw[hR] at e;exact⟨hr,by grind⟩
 ·right
  have er:r=X.length:=by omega
  subst er;refine⟨rfl,fun z=>?_⟩;have e:=h.whole;rw[hR,z] at e;rcases h.one with q | q
  ·rw[q] at e;simp at e;grind
  ·rw[q,Rat.intCast_neg] at e;simp at e;grind
theorem Bu (hX:Mq.eQ X)(hq:Mq.Pos qs)(hl:qs.length=X.length)(hw:∀row∈X,row.length=X.length){R':List (List Int)}{w r:Nat}{d sg:Int}(h:Mq.SI X.length w (Mq.at2 (gN X qs)) R' r X.length d sg):(r < X.length/\wgt X=0)\/(r=X.length/\wgt X≠0):=by
 have b1:=zH (Da hX hq hl) (lV X qs).length (Nat.le_refl _);rw[List.take_length] at b1;exact Ji (Mq.dQ (show rZ (lV X qs)≠0 by omega)) (Ta hX hq hl hw) h
end
structure Slv (X:List (List Mq.Q2)) (qs ps:List Mq.Q2):Prop where
 len:ps.length=X.length
 low:Mq.kG ps
 bd:∀p∈ps,Mq.Bd 9000 p
 sum:∀i,i < X.length->(Mq.rs X.length fun j=>oB X i j*Mq.val (ps.getD j Mq.z0))=Mq.val (qs.getD i Mq.z0)
theorem Nl {X:List (List Mq.Q2)}{qs:List Mq.Q2}(hX:Mq.eQ X)(hq:Mq.Pos qs)(hl:qs.length=X.length)(hw:∀row∈X,row.length=X.length){R:List (List Int)}{w:Nat}{d sg:Int}(h:Mq.KI X.length (Mq.at2 (gN X qs)) R)(s:Mq.SI X.length w (Mq.at2 (gN X qs)) R X.length X.length d sg){i:Nat}(hi:i < X.length):(Mq.rs X.length fun j=>oB X i j*(Mq.at2 R j X.length / (d:Rat)))=Mq.val (qs.getD i Mq.z0):=by
 have e:=h.whole s hi;rw[uI hX hq hl hw hi (by omega),if_neg (by omega)] at e;have e2:(Mq.rs X.length fun k=>Mq.at2 (gN X qs) i k*(Mq.at2 R k X.length / (d:Rat)))=((Mq.dY ((lV X qs).getD i []):Int):Rat)*Mq.rs X.length fun k=>oB X i k*(Mq.at2 R k X.length / (d:Rat)):=by
  rw[<- Mq.eI];refine Mq.aK fun k hk=>?_;rw[uI hX hq hl hw hi (by omega),if_pos hk];grind
 rw[e2] at e;have g:=Mq.tL (tJ hX hq hl hi);have n:=Mq.dQ (show Mq.dY ((lV X qs).getD i [])≠0 by rw[oJ hl hi];omega);grind
end Shp
namespace Mq
def Wb (n:Nat)(x:Rat):Prop:=∃z:Int,x=(z:Rat)/\B n z
theorem Wb.mono {n m:Nat}{x:Rat}(h:Wb n x)(l:n<=m):Wb m x:=by obtain⟨z,e,b⟩:=h;exact⟨z,e,b.mono l⟩
theorem Wb.mul {n m:Nat}{x y:Rat}(h:Wb n x)(k:Wb m y):Wb (n+m) (x*y):=by
 obtain⟨a,rfl,b⟩:=h;obtain⟨c,rfl,d⟩:=k;exact⟨a*c,by rw[Rat.intCast_mul],b.mul d⟩
theorem Wb.sub {n:Nat}{x y:Rat}(h:Wb n x)(k:Wb n y):Wb (n+1) (x - y):=by
 obtain⟨a,rfl,b⟩:=h;obtain⟨c,rfl,d⟩:=k;exact⟨a - c,by rw[Rat.intCast_sub],b.sub d⟩
theorem Wb.neg {n:Nat}{x:Rat}(h:Wb n x):Wb n (-x):=by
 obtain⟨a,rfl,b⟩:=h;exact⟨-a,by rw[Rat.intCast_neg],b.neg⟩
theorem Wb.zero (n:Nat):Wb n 0:=⟨0,by simp,Nat.two_pow_pos _⟩
theorem Wb.one:Wb 1 1:=⟨1,by simp,show (1:Nat) < 2 ^ 1 by decide⟩
theorem Wb.sgn {n:Nat}{x:Rat}(h:Wb n x)(k:Nat):Wb n (Mq.sgn k*x):=by
 unfold Mq.sgn;split
 ·rw[show (1:Rat)*x=x by grind];exact h
 ·rw[show (-1:Rat)*x=-x by grind];exact h.neg
theorem Uf {n:Nat}{f:Nat->Rat}:∀K,(∀k,k < K->Wb n (f k))->∃z:Int,rs K f=(z:Rat)/\z.natAbs+K<=K*2 ^ n
 |0,_=>⟨0,by simp only[rs];simp,by simp⟩
 |K+1,h=>by
  obtain⟨z,e,b⟩:=Uf K fun k hk=>h k (by omega);obtain⟨y,e2,b2⟩:=h K (by omega);refine⟨z+y,by simp only[rs];rw[e,e2,Rat.intCast_add],?_⟩;have:y.natAbs < 2 ^ n:=b2;rw[Nat.succ_mul];omega
def SB (n m:Nat)(R:List (List Int))(r col:Nat)(d:Int):Prop:=∃A c,Bar m A (at2 R) r col (d:Rat) c/\∀i x,i < m->Wb n (A i x)
theorem SB.start {n m:Nat}{R:List (List Int)}(hb:BdR n R):SB n m R 0 0 1:=
 ⟨at2 R,id,by
  have:=Bar.start (m:=m) (A:=at2 R) fun i j=>⟨_,rfl⟩
  simpa using this,fun i x _=>⟨ent R i x,rfl,hb i x⟩⟩
theorem SB.skip {n m:Nat}{R:List (List Int)}{r col:Nat}{d:Int}(h:SB n m R r col d)(hz:∀i,r<=i->i < m->ent R i col=0):SB n m R r (col+1) d:=by
 obtain⟨A,c,B,q⟩:=h;exact⟨A,c,B.skip fun i h1 h2=>by unfold at2;rw[hz i h1 h2];simp,q⟩
theorem SB.swap {n m w:Nat}{A0:Mat}{R:List (List Int)}{r col:Nat}{d sg:Int}(h:SB n m R r col d)(s:SI m w A0 R r col d sg){p:Nat}(hp:r < p)(hm:p < m):SB n m (fI R p r) r col d:=by
 obtain⟨A,c,B,q⟩:=h;have hl:=s.len;refine⟨_,c,(B.swap (by omega) hm).congr fun i hi=>?_,fun i x hi=>q _ x (zO hm (by omega) hi)⟩
 funext x
 rw[rO (by omega) (by omega)]
theorem SB.clear {n m w:Nat}{A0:Mat}{R:List (List Int)}{r col:Nat}{d sg:Int}(h:SB n m R r col d)(s:SI m w A0 R r col d sg)(hr:r < m)(hc:col < w)(he:ent R r col≠0):SB n m (cH R r col d) (r+1) (col+1) (ent R r col):=by
 obtain⟨A,c,B,q⟩:=h;have heq:at2 R r col≠0:=fun z=>he (Rat.intCast_inj.mp (by unfold at2 at z;simpa using z));refine⟨A,_,(B.clear hr heq).congr fun i hi=>?_,q⟩
 funext x
 rw[tO s hr hc he hi x];unfold clr
 by_cases e:i=r
 ·rw[if_pos e,if_pos e,e]
 ·rw[if_neg e,if_neg e]
end Mq
namespace Shp
open PySem L2
abbrev bq (n m:Nat):Nat:=(n+4)*(m+1)+7
end Shp
namespace L2
open PySem PySem.Spec PyProof.Rows
theorem aM.weak {P:Program}{w:World}{K:Frag}{mg:Str->Option Value}{base:Heap}{CX:CXT}{k:Nat}{f:Addr}{fd:FuncData}{ps:List Str}{sp sp':Sp}(F:aM P w K mg base CX k f fd ps sp)(h:∀vs H Q E,sp' vs H Q E->sp vs H Q E):aM P w K mg base CX k f fd ps sp':=
 ⟨fun vs H Q E q=>F.len vs H Q E (h _ _ _ _ q),fun A outer s H args us vs Q E hr he hb hv hs=>F.run A outer s H args us vs Q E hr he hb hv (h _ _ _ _ hs)⟩
abbrev dA (m i j:Int):Prop:=0<=i/\i < m/\0<=j/\j < m
inductive Zv (K:Frag) (H:Hp):V->Option Mq.Q2->Prop where
 |fr {u:Addr} {p:Mq.Q2} (h:Fq K H u p) (l:Mq.Low p):Zv K H (.ref u) (some p)
 |ty {v:V} {t:Value} (h:TyQ K H v t) (n:PySem.W.kitOne K t (.type "tuple")=some false):Zv K H v none
 |len {u:Addr} {x y z:V} (h:SqT K H u [x,y,z]):Zv K H (.ref u) none
 |n0 {u:Addr} {x y:V} {t:Value} (h:SqT K H u [x,y]) (ty:mU K H x t) (n:uU t):Zv K H (.ref u) none
 |n1 {u:Addr} {i:Int} {y:V} {t:Value} (h:SqT K H u [.int i,y]) (ty:mU K H y t) (n:uU t):Zv K H (.ref u) none
 |fb {u:Addr} {p:Mq.Q2} (h:Fq K H u p) (c:p.2 < 1\/(1<=p.2/\Mq.gc p.1 p.2≠1)):Zv K H (.ref u) none
abbrev Bz (o:Option Mq.Q2):Prop:=∀p,o=some p->Mq.Bd 1000 p
def Np (K:Frag):Sp:=fun vs H Q _=>∃(v:V) (o:Option Mq.Q2),vs=[v]/\Zv K H v o/\Q (.bl o.isSome) H
inductive gU (CK:Kd->Addr) (K:Frag) (H:Hp):List V->List RD->Prop where
 |nil:gU CK K H [] []
 |cons {x z:Addr} {k:Kd} {i j:Int} {p:Mq.Q2} {xs:List V} {ds:List RD} (h:Rw CK H x k (.int i) (.int j) (.ref z)) (f:Fq K H z p) (q:gU CK K H xs ds):gU CK K H (.ref x :: xs) ((k,i,j,p) :: ds)
section
variable {CK:Kd->Addr} {K:Frag} {H H':Hp}
theorem gU.same (e:bF H H'):∀{xs:List V} {ds:List RD},gU CK K H xs ds->gU CK K H' xs ds
 |_,_,.nil=>.nil
 |_,_,.cons h f q=>.cons (h.same e) (e.fq f) (gU.same e q)
theorem gU.length:∀{xs:List V} {ds:List RD},gU CK K H xs ds->xs.length=ds.length
 |_,_,.nil=>rfl
 |_,_,.cons _ _ q=>by simp[gU.length q]
theorem gU.app:∀{xs ys:List V} {ds es:List RD},gU CK K H xs ds->gU CK K H ys es->gU CK K H (xs++ys) (ds++es)
 |_,_,_,_,.nil,r=>r
 |_,_,_,_,.cons h f q,r=>.cons h f (gU.app q r)
theorem gU.at:∀{xs:List V} {ds:List RD} {q:Nat} {d:RD},gU CK K H xs ds->ds[q]?=some d->∃x z,xs[q]?=some (.ref x)/\Rw CK H x d.1 (.int d.2.1) (.int d.2.2.1) (.ref z)/\Fq K H z d.2.2.2
 |_,_,_,_,.nil,h=>by simp at h
 |_,_,0,_,.cons h f _,e=>by simp at e;subst e;exact⟨_,_,rfl,h,f⟩
 |_,_,i+1,_,.cons _ _ q,e=>by simpa using gU.at q (by simpa using e)
theorem gU.upd {l:Addr}{ys:List V}{o:HO}(hl:H l=some (.lst ys)):∀{xs:List V} {ds:List RD},gU CK K H xs ds->gU CK K (L2.upd H l o) xs ds
 |_,_,.nil=>.nil
 |_,_,.cons (h:=h) f q=>by
  obtain⟨dx,e⟩:=h;exact .cons ⟨dx,by rw[aV (jD e hl (fun z=>by cases z))];exact e⟩ (f.upd hl) (gU.upd hl q)
end
def vO (CN:Addr)(K:Frag)(CK:Kd->Addr):Sp:=fun vs H Q _=>∃(n l:Addr) (m:Int) (ds:List RD),vs=[.ref n]/\fY CN K H n l m ds/\ds.length<=100/\∀a xs H',bF H H'->H a=none->H' a=some (.lst xs)->gU CK K H' xs ds->Q (.ref a) H'
abbrev RE:=RD × Mq.Q2
def eZ (k:Kd)(l:List RD):List RD:=l.filter fun d=>decide (d.1=k)
theorem Kg (k:Kd)(l:List RD)(e:RD):eZ k (l++[e])=if e.1=k then eZ k l++[e] else eZ k l:=by
 unfold eZ;rw[List.filter_append]
 by_cases h:e.1=k
 ·rw[if_pos h];simp[h]
 ·rw[if_neg h];simp[h]
def zB (K:Frag):Sp:=fun vs H Q _=>∃(a b:Addr) (p q:Mq.Q2) (n m:Nat),vs=[.ref a,.ref b]/\Fq K H a p/\Fq K H b q/\1<=p.2/\1<=q.2/\0 < q.1/\Mq.Bd n p/\Mq.Bd m q/\n+m+1<=9000/\sQ H Q (Mq.oE p q)
section
variable {m n:Nat} {hp:List Mq.Q2} {d:RD} {e:RE}
theorem xO {ps:List Mq.Q2}{j:Nat}(h:j < ps.length):ps[j]?=some (ps.getD j (0,1)):=by rw[List.getD_eq_getElem?_getD,List.getElem?_eq_getElem h];rfl
end
def rzl (ps:List Mq.Q2)(j:Nat)(a:Mq.Q2):List Mq.Q2:=ps.set j (Mq.fL (ps.getD j (0,1)) a)
def jI (M:List (List Mq.Q2))(i j:Nat):Mq.Q2:=(M.getD i []).getD j (0,1)
def rz (M:List (List Mq.Q2))(i j:Nat)(a:Mq.Q2):List (List Mq.Q2):=M.set i (rzl (M.getD i []) j a)
structure MxB (M:List (List Mq.Q2)) (h w n:Nat):Prop where
 h:M.length=h
 w:∀ps∈M,ps.length=w
 l:∀ps∈M,∀p∈ps,Mq.Low p/\Mq.Bd n p
theorem MxB.mono {M:List (List Mq.Q2)}{h w n n':Nat}(b:MxB M h w n)(le:n<=n'):MxB M h w n':=⟨b.h,b.w,fun ps hp p hp'=>⟨(b.l ps hp p hp').1,(b.l ps hp p hp').2.mono le⟩⟩
theorem MxB.row {M:List (List Mq.Q2)}{h w n i:Nat}(b:MxB M h w n)(hi:i < h):M[i]?=some (M.getD i [])/\M.getD i []∈M/\(M.getD i []).length=w:=by
 have hi':i < M.length:=by rw[b.h];exact hi
 have e:M.getD i []=M[i]:=by rw[List.getD_eq_getElem?_getD,List.getElem?_eq_getElem hi'];rfl
 rw[e];exact⟨List.getElem?_eq_getElem hi',List.getElem_mem hi',b.w _ (List.getElem_mem hi')⟩
theorem MxB.at {M:List (List Mq.Q2)}{h w n i j:Nat}(b:MxB M h w n)(hi:i < h)(hj:j < w):(M.getD i [])[j]?=some (jI M i j)/\Mq.Low (jI M i j)/\Mq.Bd n (jI M i j):=by
 obtain⟨e,m,l⟩:=b.row hi;have hj':j < (M.getD i []).length:=by rw[l];exact hj
 have:=xO hj';exact⟨this,b.l _ m _ (List.mem_of_getElem? this)⟩
theorem MxB.rz {M:List (List Mq.Q2)}{h w n k i j:Nat}{a:Mq.Q2}(b:MxB M h w n)(hi:i < h)(hj:j < w)(la:Mq.Low a)(ba:Mq.Bd k a):MxB (L2.rz M i j a) h w (n+k+1):=by
 obtain⟨e,m,l⟩:=b.row hi;obtain⟨e2,l2,b2⟩:=b.at hi hj;refine⟨by unfold L2.rz;rw[List.length_set];exact b.h,fun ps hp=>?_,fun ps hp p hp'=>?_⟩
 ·rcases List.mem_or_eq_of_mem_set hp with z | z
  ·exact b.w ps z
  ·rw[z];unfold rzl;rw[List.length_set];exact l
 ·rcases List.mem_or_eq_of_mem_set hp with z | z
  ·have:=b.l ps z p hp';exact⟨this.1,this.2.mono (by omega)⟩
  ·rw[z] at hp';unfold rzl at hp';rcases List.mem_or_eq_of_mem_set hp' with y | y
   ·have:=b.l _ m p y;exact⟨this.1,this.2.mono (by omega)⟩
   ·rw[y];exact⟨Mq.jM l2.pos la.pos,Mq.mD b2 ba l2.pos la.pos⟩
theorem Ai {M:List (List Mq.Q2)}{h w n i j:Nat}{a:Mq.Q2}(b:MxB M h w n)(hi:i < h)(hj:j < w)(la:Mq.Low a)(x y:Nat):Mq.val (jI (L2.rz M i j a) x y)=Mq.val (jI M x y)+if i=x/\j=y then Mq.val a else 0:=by
 obtain⟨e,m,l⟩:=b.row hi;obtain⟨e2,l2,b2⟩:=b.at hi hj;have hl:i < M.length:=by rw[b.h];exact hi
 unfold jI L2.rz
 by_cases c:i=x
 ·subst c;have e3:(M.set i (rzl (M.getD i []) j a)).getD i []=rzl (M.getD i []) j a:=by rw[List.getD_eq_getElem?_getD,List.getElem?_set,if_pos rfl,if_pos hl];rfl
  rw[e3];unfold rzl
  by_cases d:j=y
  ·subst d;have e4:((M.getD i []).set j (Mq.fL ((M.getD i []).getD j (0,1)) a)).getD j (0,1)=Mq.fL ((M.getD i []).getD j (0,1)) a:=by rw[List.getD_eq_getElem?_getD,List.getElem?_set,if_pos rfl,if_pos (by rw[l];exact hj)];rfl
   rw[e4,if_pos ⟨rfl,rfl⟩];exact Mq.jN l2.pos la.pos
  ·have e4:((M.getD i []).set j (Mq.fL ((M.getD i []).getD j (0,1)) a)).getD y (0,1)=(M.getD i []).getD y (0,1):=by rw[List.getD_eq_getElem?_getD,List.getElem?_set,if_neg d,<- List.getD_eq_getElem?_getD]
   rw[e4,if_neg (fun z=>d z.2),Rat.add_zero]
 ·have e3:(M.set i (rzl (M.getD i []) j a)).getD x []=M.getD x []:=by rw[List.getD_eq_getElem?_getD,List.getElem?_set,if_neg c,<- List.getD_eq_getElem?_getD]
  rw[e3,if_neg (fun z=>c z.1),Rat.add_zero]
structure LnB (R:List Mq.Q2) (w n:Nat):Prop where
 w:R.length=w
 l:∀p∈R,Mq.Low p/\Mq.Bd n p
theorem LnB.mono {R:List Mq.Q2}{w n n':Nat}(b:LnB R w n)(le:n<=n'):LnB R w n':=⟨b.w,fun p hp=>⟨(b.l p hp).1,(b.l p hp).2.mono le⟩⟩
theorem LnB.at {R:List Mq.Q2}{w n j:Nat}(b:LnB R w n)(hj:j < w):R[j]?=some (R.getD j (0,1))/\Mq.Low (R.getD j (0,1))/\Mq.Bd n (R.getD j (0,1)):=by
 have hj':j < R.length:=by rw[b.w];exact hj
 have:=xO hj';exact⟨this,b.l _ (List.mem_of_getElem? this)⟩
theorem LnB.set {R:List Mq.Q2}{w n j:Nat}{q:Mq.Q2}(b:LnB R w n)(lq:Mq.Low q)(bq:Mq.Bd n q):LnB (R.set j q) w n:=⟨by rw[List.length_set];exact b.w,fun p hp=>by
 rcases List.mem_or_eq_of_mem_set hp with z | z
 ·exact b.l p z
 ·rw[z];exact⟨lq,bq⟩⟩
theorem LnB.rz {R:List Mq.Q2}{w n k j:Nat}{a:Mq.Q2}(b:LnB R w n)(hj:j < w)(la:Mq.Low a)(ba:Mq.Bd k a):LnB (rzl R j a) w (n+k+1):=by
 obtain⟨_,l2,b2⟩:=b.at hj;exact(b.mono (by omega)).set (Mq.jM l2.pos la.pos) (Mq.mD b2 ba l2.pos la.pos)
theorem wP {R:List Mq.Q2}{j y:Nat}{q:Mq.Q2}(hj:j < R.length):(R.set j q).getD y (0,1)=if j=y then q else R.getD y (0,1):=by
 rw[List.getD_eq_getElem?_getD,List.getElem?_set]
 by_cases e:j=y
 ·rw[if_pos e,if_pos e,if_pos (by omega)];rfl
 ·rw[if_neg e,if_neg e,<- List.getD_eq_getElem?_getD]
theorem Eu {R:List Mq.Q2}{w n j:Nat}{a:Mq.Q2}(b:LnB R w n)(hj:j < w)(la:Mq.Low a)(y:Nat):Mq.val ((rzl R j a).getD y (0,1))=Mq.val (R.getD y (0,1))+if j=y then Mq.val a else 0:=by
 obtain⟨_,l2,b2⟩:=b.at hj;unfold rzl;rw[wP (by rw[b.w];exact hj)]
 by_cases d:j=y
 ·subst d;rw[if_pos rfl,if_pos rfl];exact Mq.jN l2.pos la.pos
 ·rw[if_neg d,if_neg d,Rat.add_zero]
def SX (as:List Addr)(H H':Hp):Prop:=∀b o,H b=some o->b∉as->H' b=some o
theorem bF.sx {as:List Addr}{H H':Hp}(s:bF H H'):SX as H H':=fun b o e _=>s b o e
theorem SX.trans {as:List Addr}{H H1 H2:Hp}(a:SX as H H1)(b:SX as H1 H2):SX as H H2:=fun c o h n=>b c o (a c o h n) n
theorem SX.write {as:List Addr}{H H1:Hp}{l:Addr}{o:HO}(a:SX as H H1)(hl:l∈as):SX as H (upd H1 l o):=fun c u h n=>by rw[aV (fun z=>n (by rw[z];exact hl))];exact a c u h n
theorem SX.mono {as bs:List Addr}{H H':Hp}(a:SX as H H')(h:∀x∈as,x∈bs):SX bs H H':=fun c o e n=>a c o e fun z=>n (h c z)
theorem SX.same {as:List Addr}{H0 H H':Hp}(s:bF H0 H)(a:SX as H H')(h:∀x∈as,H0 x=none):bF H0 H':=fun c o e=>a c o (s c o e) fun z=>by rw[h c z] at e;cases e
def Th (as:List Addr)(H:Hp):Prop:=∀a∈as,∃xs,H a=some (.lst xs)
theorem SX.seqT {K:Frag}{as:List Addr}{H H':Hp}(hl:Th as H)(e:SX as H H'){a:Addr}{xs:List V}(h:SqT K H a xs):SqT K H' a xs:=by
 have nx:∀{o:HO},H a=some o->(∀ys,o≠.lst ys)->a∉as:=fun ho n z=>by
  obtain⟨ys,hy⟩:=hl a z;rw[hy] at ho;exact n ys (Option.some.inj ho).symm
 rcases h with (h | ⟨u,h⟩) | h
 ·exact .inl (.inl (e _ _ h (nx h fun ys z=>by cases z)))
 ·exact .inl (.inr ⟨u,e _ _ h (nx h fun ys z=>by cases z)⟩)
 ·exact .inr h
theorem SX.rw {CK:Kd->Addr}{as:List Addr}{H H':Hp}(hl:Th as H)(e:SX as H H'){x:Addr}{k:Kd}{s g z:V}(h:Rw CK H x k s g z):Rw CK H' x k s g z:=by
 obtain⟨dx,q⟩:=h;refine⟨dx,e _ _ q fun y=>?_⟩;obtain⟨ys,hy⟩:=hl x y;rw[hy] at q;cases q
theorem SX.fqs {K:Frag}{as:List Addr}{H H':Hp}(hl:Th as H)(e:SX as H H'):∀{xs:List V} {ps:List Mq.Q2},Fqs K H xs ps->Fqs K H' xs ps
 |_,_,.nil=>.nil
 |_,_,.cons f q=>.cons (e.seqT hl f) (SX.fqs hl e q)
structure Mx (K:Frag) (H:Hp) (D:Addr) (as:List Addr) (M:List (List Mq.Q2)):Prop where
 d:H D=some (.lst (as.map V.ref))
 n:as.Nodup
 nd:D∉as
 la:as.length=M.length
 r:∀(i:Nat) (a:Addr) (ps:List Mq.Q2),as[i]?=some a->M[i]?=some ps->∃xs,H a=some (.lst xs)/\Fqs K H xs ps
theorem Mx.lsts {K:Frag}{H:Hp}{D:Addr}{as:List Addr}{M:List (List Mq.Q2)}(m:Mx K H D as M):Th as H:=fun a ha=>by
 obtain⟨i,hi⟩:=List.getElem?_of_mem ha;have il:=(List.getElem?_eq_some_iff.mp hi).1;have il':i < M.length:=by rw[<- m.la];exact il
 obtain⟨xs,h,_⟩:=m.r i a M[i] hi (List.getElem?_eq_getElem il');exact⟨xs,h⟩
theorem Mx.same {K:Frag}{H H':Hp}{D:Addr}{as:List Addr}{M:List (List Mq.Q2)}(s:bF H H')(m:Mx K H D as M):Mx K H' D as M:=⟨s _ _ m.d,m.n,m.nd,m.la,fun i a ps h1 h2=>by
 obtain⟨xs,h,f⟩:=m.r i a ps h1 h2;exact⟨xs,s _ _ h,f.same s⟩⟩
theorem Mx.other {K:Frag}{H:Hp}{D l:Addr}{as:List Addr}{M:List (List Mq.Q2)}{ys:List V}{o:HO}(m:Mx K H D as M)(hl:H l=some (.lst ys))(n1:l≠D)(n2:l∉as):Mx K (upd H l o) D as M:=⟨by rw[aV (Ne.symm n1)];exact m.d,m.n,m.nd,m.la,fun i a ps h1 h2=>by
 obtain⟨xs,h,f⟩:=m.r i a ps h1 h2;exact⟨xs,by rw[aV (fun z=>n2 (by rw[<- z];exact List.mem_of_getElem? h1))];exact h,f.upd hl⟩⟩
theorem Mx.set {K:Frag}{H H1:Hp}{D a v:Addr}{as:List Addr}{M:List (List Mq.Q2)}{i j:Nat}{ps:List Mq.Q2}{xs:List V}{q:Mq.Q2}(m:Mx K H D as M)(ha:as[i]?=some a)(hp:M[i]?=some ps)(hx:H a=some (.lst xs))(hF:Fqs K H xs ps)(s:bF H H1)(fv:Fq K H1 v q):Mx K (upd H1 a (.lst (xs.set j (.ref v)))) D as (M.set i (ps.set j q))/\SX as H (upd H1 a (.lst (xs.set j (.ref v)))):=by
 have ma:=List.mem_of_getElem? ha;have hx1:=s _ _ hx;have il:=(List.getElem?_eq_some_iff.mp ha).1;refine⟨⟨?_,m.n,m.nd,by rw[List.length_set];exact m.la,fun k b qs h1 h2=>?_⟩,s.sx.write ma⟩
 ·rw[aV (fun z=>m.nd (by rw[z];exact ma))];exact s _ _ m.d
 ·rw[List.getElem?_set] at h2
  by_cases c:i=k
  ·subst c;rw[ha] at h1;have h1:a=b:=Option.some.inj h1;subst h1;rw[if_pos rfl] at h2;split at h2
   ·have h2:ps.set j q=qs:=Option.some.inj h2;rw[<- h2];exact⟨_,aD,(Fqs.set fv j (hF.same s)).upd hx1⟩
   ·cases h2
  ·rw[if_neg c] at h2;obtain⟨ys,hy,fy⟩:=m.r k b qs h1 h2;have nb:b≠a:=fun z=>by
    subst z;have kl:=(List.getElem?_eq_some_iff.mp h1).1;have e1:as[i]'il=b:=(List.getElem?_eq_some_iff.mp ha).2;have e2:as[k]'kl=b:=(List.getElem?_eq_some_iff.mp h1).2;exact c ((List.getElem_inj m.n).mp (e1.trans e2.symm))
   exact⟨ys,by rw[aV nb];exact s _ _ hy,(fy.same s).upd hx1⟩
def bN (k:Kd):Nat:=if k=.ho then 1 else 0
def en (M:List (List Mq.Q2))(d:RD)(c:Nat)(a:Mq.Q2):List (List Mq.Q2):=rz (rz M d.2.1.toNat c a) d.2.2.1.toNat c (Mq.minus (0,1) a)
def dl (s g x:Nat):Rat:=(if s=x then 1 else 0) - (if g=x then 1 else 0)
def cM (d:RD)(h x y:Nat):Rat:=match d.1 with
 | .pc=>dl d.2.1.toNat d.2.2.1.toNat x*dl d.2.1.toNat d.2.2.1.toNat y*(1 / Mq.val d.2.2.2)
 | .pu=>0
 | .ho=>dl d.2.1.toNat d.2.2.1.toNat x*(if h=y then 1 else 0)+(if h=x then 1 else 0)*dl d.2.1.toNat d.2.2.1.toNat y
def cR (d:RD)(h x:Nat):Rat:=match d.1 with
 | .pc=>0
 | .pu=>- dl d.2.1.toNat d.2.2.1.toNat x*Mq.val d.2.2.2
 | .ho=>if h=x then Mq.val d.2.2.2 else 0
def eqM:Nat->List RD->Nat->Nat->Rat
 |_,[],_,_=>0
 |h,d :: ds,x,y=>cM d h x y+eqM (h+bN d.1) ds x y
def eqR:Nat->List RD->Nat->Rat
 |_,[],_=>0
 |h,d :: ds,x=>cR d h x+eqR (h+bN d.1) ds x
def bQ (ds:List RD):Nat:=(eZ .ho ds).length
theorem iN (ds:List RD)(d:RD):bQ (ds++[d])=bQ ds+bN d.1:=by
 unfold bQ bN;rw[Kg];split
 ·rw[List.length_append];rfl
 ·rfl
theorem fQ (d:RD)(ds:List RD):bQ (d :: ds)=bN d.1+bQ ds:=by
 unfold bQ bN eZ
 by_cases h:d.1=.ho
 ·rw[List.filter_cons_of_pos (by exact decide_eq_true h),if_pos h,List.length_cons];omega
 ·rw[List.filter_cons_of_neg (by simp[h]),if_neg h];omega
theorem Bv (d:RD)(x y:Nat):∀(ds:List RD) (h:Nat),eqM h (ds++[d]) x y=eqM h ds x y+cM d (h+bQ ds) x y
 | [],h=>by show cM d h x y+0=0+cM d (h+0) x y;rw[Nat.add_zero];grind
 |e :: ds,h=>by
  show cM e h x y+eqM (h+bN e.1) (ds++[d]) x y=cM e h x y+eqM (h+bN e.1) ds x y+_;rw[Bv d x y ds,fQ,Nat.add_assoc];grind
theorem Bc (d:RD)(x:Nat):∀(ds:List RD) (h:Nat),eqR h (ds++[d]) x=eqR h ds x+cR d (h+bQ ds) x
 | [],h=>by show cR d h x+0=0+cR d (h+0) x;rw[Nat.add_zero];grind
 |e :: ds,h=>by
  show cR e h x+eqR (h+bN e.1) (ds++[d]) x=cR e h x+eqR (h+bN e.1) ds x+_;rw[Bc d x ds,fQ,Nat.add_assoc];grind
theorem gZ:Mq.Low (1,1):=⟨by decide,by decide⟩
theorem kR {a:Mq.Q2}{k:Nat}(la:Mq.Low a)(ba:Mq.Bd k a):Mq.Low (Mq.minus (0,1) a)/\Mq.Bd (k+2) (Mq.minus (0,1) a)/\Mq.val (Mq.minus (0,1) a)=- Mq.val a:=by
 have h01:1<=((0,1):Mq.Q2).2:=by decide
 have b01:Mq.Bd 1 (0,1):=⟨show (0:Nat) < 2 ^ 1 by decide,show (1:Nat) < 2 ^ 1 by decide⟩
 refine⟨Mq.rJ h01 la.pos,(Mq.Kt b01 ba h01 la.pos).mono (by omega),?_⟩;rw[Mq.rN h01 la.pos,Mq.pF];grind
theorem Ci {M:List (List Mq.Q2)}{h w n k c:Nat}{d:RD}{a:Mq.Q2}(b:MxB M h w n)(pt:dA (h:Int) d.2.1 d.2.2.1)(hc:c < w)(la:Mq.Low a)(ba:Mq.Bd k a):MxB (en M d c a) h w (n+2*k+4)/\∀x y,Mq.val (jI (en M d c a) x y)=Mq.val (jI M x y)+dl d.2.1.toNat d.2.2.1.toNat x*(if c=y then 1 else 0)*Mq.val a:=by
 obtain⟨i0,i1,j0,j1⟩:=pt;obtain⟨ln,bn,vn⟩:=kR la ba;have b1:=b.rz (i:=d.2.1.toNat) (by omega) hc la ba;have b2:=b1.rz (i:=d.2.2.1.toNat) (by omega) hc ln bn;refine⟨b2.mono (by omega),fun x y=>?_⟩;unfold en;rw[Ai b1 (by omega) hc ln,Ai b (by omega) hc la,vn];unfold dl
 by_cases c1:d.2.1.toNat=x<;>by_cases c2:d.2.2.1.toNat=x<;>by_cases c3:c=y<;>simp only[c1,c2,c3,true_and,and_true,false_and,and_false,and_self,if_true,if_false]<;>grind
def hM (M:List (List Mq.Q2))(d:RD)(c:Nat):List (List Mq.Q2):=rz (rz (en M d c (1,1)) c d.2.1.toNat (1,1)) c d.2.2.1.toNat (Mq.minus (0,1) (1,1))
def pM (M:List (List Mq.Q2))(d:RD):List (List Mq.Q2):=en (en M d d.2.1.toNat (Mq.oE (1,1) d.2.2.2)) d d.2.2.1.toNat (Mq.minus (0,1) (Mq.oE (1,1) d.2.2.2))
def pR (rs:List Mq.Q2)(d:RD):List Mq.Q2:=rzl (rzl rs d.2.1.toNat (Mq.minus (0,1) d.2.2.2)) d.2.2.1.toNat d.2.2.2
theorem gP:Mq.Bd 1 (1,1):=⟨show (1:Nat) < 2 ^ 1 by decide,show (1:Nat) < 2 ^ 1 by decide⟩
theorem h11:1<=((1,1):Mq.Q2).2:=by decide
theorem Cr {p:Mq.Q2}{k:Nat}(l:Mq.Low p)(h0:0 < p.1)(b:Mq.Bd k p):Mq.Low (Mq.oE (1,1) p)/\Mq.Bd (k+1) (Mq.oE (1,1) p)/\Mq.val (Mq.oE (1,1) p)=1 / Mq.val p:=by
 refine⟨Mq.Ao h11 (by omega),(Mq.Rn gP b h11 (by omega)).mono (by omega),?_⟩;rw[Mq.Ct h11 l.pos (by omega),Mq.Ow]
theorem Zu {M:List (List Mq.Q2)}{w n k m h:Nat}{d:RD}(b:MxB M w w n)(pt:dA (m:Int) d.2.1 d.2.2.1)(hm:m<=w)(hk:d.1=.pc)(l:Mq.Low d.2.2.2)(h0:0 < d.2.2.2.1)(bk:Mq.Bd k d.2.2.2):MxB (pM M d) w w (n+4*k+20)/\∀x y,Mq.val (jI (pM M d) x y)=Mq.val (jI M x y)+cM d h x y:=by
 obtain⟨i0,i1,j0,j1⟩:=pt;obtain⟨ls,bs,vs⟩:=Cr l h0 bk;obtain⟨ln,bn,vn⟩:=kR ls bs;have pt':dA (w:Int) d.2.1 d.2.2.1:=⟨i0,by omega,j0,by omega⟩
 obtain⟨b1,v1⟩:=Ci b pt' (c:=d.2.1.toNat) (by omega) ls bs;obtain⟨b2,v2⟩:=Ci b1 pt' (c:=d.2.2.1.toNat) (by omega) ln bn;refine⟨b2.mono (by omega),fun x y=>?_⟩;unfold pM;rw[v2,v1,vn,vs];unfold cM;rw[hk];show _=_+dl d.2.1.toNat d.2.2.1.toNat x*dl d.2.1.toNat d.2.2.1.toNat y*(1 / Mq.val d.2.2.2)
 generalize 1 / Mq.val d.2.2.2=v;generalize dl d.2.1.toNat d.2.2.1.toNat x=u;unfold dl
 by_cases c1:d.2.1.toNat=y<;>by_cases c2:d.2.2.1.toNat=y<;>simp only[c1,c2,if_true,if_false]<;>grind
theorem Ye {M:List (List Mq.Q2)}{w n m c:Nat}{d:RD}(b:MxB M w w n)(pt:dA (m:Int) d.2.1 d.2.2.1)(hm:m<=w)(hc:c < w)(hk:d.1=.ho):MxB (hM M d c) w w (n+20)/\∀x y,Mq.val (jI (hM M d c) x y)=Mq.val (jI M x y)+cM d c x y:=by
 obtain⟨i0,i1,j0,j1⟩:=pt;have pt':dA (w:Int) d.2.1 d.2.2.1:=⟨i0,by omega,j0,by omega⟩
 obtain⟨ln,bn,vn⟩:=kR gZ gP;obtain⟨b1,v1⟩:=Ci b pt' hc gZ gP;have b2:=b1.rz (i:=c) (j:=d.2.1.toNat) hc (by omega) gZ gP;have b3:=b2.rz (i:=c) (j:=d.2.2.1.toNat) hc (by omega) ln bn;refine⟨b3.mono (by omega),fun x y=>?_⟩;unfold hM;rw[Ai b2 hc (by omega) ln,Ai b1 hc (by omega) gZ,v1,vn,Mq.Ow];unfold cM;rw[hk];show _=_+(dl d.2.1.toNat d.2.2.1.toNat x*(if c=y then 1 else 0)+(if c=x then 1 else 0)*dl d.2.1.toNat d.2.2.1.toNat y)
 generalize dl d.2.1.toNat d.2.2.1.toNat x=u;unfold dl
 by_cases c1:d.2.1.toNat=y<;>by_cases c2:d.2.2.1.toNat=y<;>by_cases c3:c=x<;>by_cases c4:c=y<;>simp only[c1,c2,c3,c4,true_and,and_true,false_and,and_false,and_self,if_true,if_false]<;>grind
theorem Us {rs:List Mq.Q2}{w n k m h:Nat}{d:RD}(b:LnB rs w n)(pt:dA (m:Int) d.2.1 d.2.2.1)(hm:m<=w)(hk:d.1=.pu)(l:Mq.Low d.2.2.2)(bk:Mq.Bd k d.2.2.2):LnB (pR rs d) w (n+4*k+20)/\∀x,Mq.val ((pR rs d).getD x (0,1))=Mq.val (rs.getD x (0,1))+cR d h x:=by
 obtain⟨i0,i1,j0,j1⟩:=pt;obtain⟨ln,bn,vn⟩:=kR l bk;have b1:=b.rz (j:=d.2.1.toNat) (by omega) ln bn;have b2:=b1.rz (j:=d.2.2.1.toNat) (by omega) l bk;refine⟨b2.mono (by omega),fun x=>?_⟩;unfold pR;rw[Eu b1 (by omega) l,Eu b (by omega) ln,vn];unfold cR;rw[hk];show _=_ + - dl d.2.1.toNat d.2.2.1.toNat x*Mq.val d.2.2.2;unfold dl
 by_cases c1:d.2.1.toNat=x<;>by_cases c2:d.2.2.1.toNat=x<;>simp only[c1,c2,if_true,if_false]<;>grind
theorem xJ {m:Nat}:∀(ds:List RD) (h x:Nat),(∀d∈ds,dA (m:Int) d.2.1 d.2.2.1)->m<=h->h+bQ ds<=x->eqR h ds x=0
 | [],_,_,_,_,_=>rfl
 |d :: ds,h,x,pt,hm,hx=>by
  rw[fQ] at hx;have ih:=xJ ds (h+bN d.1) x (fun e he=>pt e (List.mem_cons_of_mem _ he)) (by omega) (by omega);obtain⟨i0,i1,j0,j1⟩:=pt d (by simp);show cR d h x+eqR (h+bN d.1) ds x=0;rw[ih];have z:dl d.2.1.toNat d.2.2.1.toNat x=0:=by unfold dl;rw[if_neg (by omega),if_neg (by omega)];grind
  unfold cR
  cases hk:d.1 with
  |pc=>show (0:Rat)+0=0;grind
  |pu=>show - dl d.2.1.toNat d.2.2.1.toNat x*Mq.val d.2.2.2+0=0;rw[z];grind
  |ho=>
   have:bN d.1=1:=by unfold bN;rw[if_pos hk]
   show (if h=x then Mq.val d.2.2.2 else 0)+0=0;rw[if_neg (by omega)];grind
theorem Zx {rs:List Mq.Q2}{w n k m c:Nat}{d:RD}(b:LnB rs w n)(hc:c < w)(hk:d.1=.ho)(l:Mq.Low d.2.2.2)(bk:Mq.Bd k d.2.2.2)(h0:Mq.val (rs.getD c (0,1))=0):LnB (rs.set c d.2.2.2) w (n+k)/\∀x,Mq.val ((rs.set c d.2.2.2).getD x (0,1))=Mq.val (rs.getD x (0,1))+cR d c x:=by
 refine⟨(b.mono (by omega)).set l (bk.mono (by omega)),fun x=>?_⟩;rw[wP (by rw[b.w];exact hc)];unfold cR;rw[hk];show _=_+if c=x then Mq.val d.2.2.2 else 0
 by_cases e:c=x
 ·subst e;rw[if_pos rfl,if_pos rfl,h0];grind
 ·rw[if_neg e,if_neg e];grind
def tQ (K:Frag):Sp:=fun vs H Q _=>∃(l z:Addr) (j:Nat) (xs:List V) (ps:List Mq.Q2) (a:Mq.Q2) (n m:Nat),vs=[.ref l,.int (j:Int),.ref z]/\H l=some (.lst xs)/\Fqs K H xs ps/\j < ps.length/\1<=(ps.getD j (0,1)).2/\Mq.Bd n (ps.getD j (0,1))/\Fq K H z a/\1<=a.2/\Mq.Bd m a/\n+m+1<=9000/\∀v H1,bF H H1->Fq K H1 v (Mq.fL (ps.getD j (0,1)) a)->Q .non (upd H1 l (.lst (xs.set j (.ref v))))
def Aa (K:Frag)(CK:Kd->Addr):Sp:=fun vs H Q _=>∃(D x z:Addr) (zz:V) (as:List Addr) (M:List (List Mq.Q2)) (d:RD) (w n k c:Nat) (a:Mq.Q2),vs=[.ref D,.ref x,.int (c:Int),.ref z]/\Mx K H D as M/\MxB M w w n/\Rw CK H x d.1 (.int d.2.1) (.int d.2.2.1) zz/\dA (w:Int) d.2.1 d.2.2.1/\c < w/\Fq K H z a/\Mq.Low a/\Mq.Bd k a/\n+2*k+4<=9000/\∀H',SX as H H'->Mx K H' D as (en M d c a)->Q .non H'
def Cq (K:Frag)(CK:Kd->Addr):Sp:=fun vs H Q _=>∃(D x zz:Addr) (as:List Addr) (M:List (List Mq.Q2)) (d:RD) (w n k:Nat),vs=[.ref D,.ref x]/\Mx K H D as M/\MxB M w w n/\Rw CK H x d.1 (.int d.2.1) (.int d.2.2.1) (.ref zz)/\Fq K H zz d.2.2.2/\dA (w:Int) d.2.1 d.2.2.1/\Mq.Low d.2.2.2/\0 < d.2.2.2.1/\Mq.Bd k d.2.2.2/\n+4*k+20<=9000/\∀H',SX as H H'->Mx K H' D as (pM M d)->Q .non H'
def tZ (K:Frag)(CK:Kd->Addr):Sp:=fun vs H Q _=>∃(R x zz:Addr) (ys:List V) (rs:List Mq.Q2) (d:RD) (w n k:Nat),vs=[.ref R,.ref x]/\H R=some (.lst ys)/\Fqs K H ys rs/\LnB rs w n/\Rw CK H x d.1 (.int d.2.1) (.int d.2.2.1) (.ref zz)/\Fq K H zz d.2.2.2/\dA (w:Int) d.2.1 d.2.2.1/\Mq.Low d.2.2.2/\Mq.Bd k d.2.2.2/\n+4*k+20<=9000/\∀ys' H',SX [R] H H'->H' R=some (.lst ys')->Fqs K H' ys' (pR rs d)->Q .non H'
def Cf (K:Frag)(CK:Kd->Addr):Sp:=fun vs H Q _=>∃(D R x zz:Addr) (as:List Addr) (M:List (List Mq.Q2)) (ys:List V) (rs:List Mq.Q2) (d:RD) (w n c:Nat),vs=[.ref D,.ref R,.ref x,.int (c:Int)]/\Mx K H D as M/\MxB M w w n/\H R=some (.lst ys)/\Fqs K H ys rs/\rs.length=w/\R≠D/\R∉as/\Rw CK H x d.1 (.int d.2.1) (.int d.2.2.1) (.ref zz)/\Fq K H zz d.2.2.2/\dA (w:Int) d.2.1 d.2.2.1/\c < w/\n+20<=9000/\∀ys' H',SX (R :: as) H H'->Mx K H' D as (hM M d c)->H' R=some (.lst ys')->Fqs K H' ys' (rs.set c d.2.2.2)->Q .non H'
structure Fms (K:Frag) (H0 H:Hp) (us:List V) (X:List (List Mq.Q2)):Prop where
 l:us.length=X.length
 r:∀(i:Nat) (x:V) (ps:List Mq.Q2),us[i]?=some x->X[i]?=some ps->∃(a:Addr) (xs:List V),x=.ref a/\H0 a=none/\H a=some (.lst xs)/\Fqs K H xs ps
structure Am (m:Nat) (ds:List RD) (N:Nat) (X:List (List Mq.Q2)) (Y:List Mq.Q2):Prop where
 x:MxB X (m - 1+bQ ds) (m - 1+bQ ds) N
 y:LnB Y (m - 1+bQ ds) N
 vx:∀i j,Mq.val (jI X i j)=eqM m ds (i+1) (j+1)
 vy:∀i,Mq.val (Y.getD i (0,1))=eqR m ds (i+1)
end L2
namespace K67
open PySem L2
def top (i:Nat):Stmt:=PySem.Challenge.pw_ohmyard_k67_one_piece_more.main.body.getD i (.Pass ⟨0,0,0,0⟩)
section
variable {P:Program} {w:World} {K:Frag} {mg:Str->Option Value} {base:Heap} {f g1 g2 g3 g4 g5 g6 g7 g8:Addr} {fd gd1 gd2 gd3 gd4 gd5 gd6 gd7 gd8:FuncData} {CX:CXT}
abbrev pY:Stmt:=top 15
theorem Sw:aT ["thing"] ["thing"] (aE pY):=sK9 rfl rfl rfl rfl (by decide +kernel)
theorem Nj {dV:Value}(F:bZ K "is_whole" "is_whole" pY dV f fd)(b:Bl mg):aM P w K mg base CX 1 f fd ["thing"] (oG K):=by
 refine F.ok Sw (fun vs H Q E h=>?_) fun cdv A outer s H vs Q E hr h=>?_
 ·obtain⟨_,rfl,_⟩:=h;rfl
 obtain⟨x,rfl,h⟩:=h;refine⟨_,aH (aZ (rK (iG (i:=0) rfl (Or.inl rfl) b.isi b.int rfl rfl PyProof.Rows.boot_int) (uL (Uy (iG (i:=0) rfl (Or.inl rfl) b.isi b.bool rfl rfl PyProof.Rows.boot_bool))))),?_⟩;rcases h with ⟨i,rfl,q⟩ | ⟨t,ty,nw,q⟩
 ·exact⟨_,_,_,rfl,.of (.int i),rfl,_,rfl,fM ⟨_,_,false,rfl,.of (.int i),(by with_unfolding_all rfl),_,rfl,q⟩⟩
 ·rcases nw with rfl | rfl | rfl | rfl | rfl
  ·exact⟨_,_,true,rfl,.of ty,(by with_unfolding_all rfl),_,rfl,fM ⟨_,_,_,rfl,.of ty,rfl,_,rfl,q⟩⟩
  all_goals exact⟨_,_,false,rfl,.of ty,(by with_unfolding_all rfl),_,rfl,dX q⟩
abbrev sGc:Stmt:=top 17
theorem Si:aT ["one","other","rest"] ["one","other"] (aE sGc):=sK9 rfl rfl rfl rfl (by decide +kernel)
theorem Zb {dV:Value}(F:bZ K "greatest_common" "greatest_common" sGc dV f fd)(b:Bl mg):aM P w K mg base CX 1 f fd ["one","other"] Td:=by
 refine F.ok Si (fun vs H Q E h=>?_) fun cdv A outer s H vs Q E hr h=>?_
 ·obtain⟨_,_,rfl,_⟩:=h;rfl
 obtain⟨x,y,rfl,q⟩:=h;refine⟨_,aC (oW PassesOwn.never (bM rW (pv 1) aF (bO _)) (aC (aS (i:=2) Si.nd rfl (Or.inl rfl) (aY kA (pv 0) (pv 1)))
  (aC (aS (i:=0) Si.nd rfl (Or.inl rfl) (pv 1)) (aH (aS (i:=1) Si.nd rfl (Or.inl rfl) (pv 2))))))
  (aH (aZ (cL vJ rfl b.abs PyProof.Rows.boot_abs (aA (pv 0) aB)))),?_⟩
 refine vH (fun σ H'=>H'=H/\∃u v z,σ=[some (.int u),some (.int v),z]/\Mq.gc u v=Mq.gc x y) (fun σ _=>match σ with | [_,some (.int v),_]=>v.natAbs | _=>0) ⟨rfl,x,y,none,rfl,rfl⟩ ?_ ?_
 ·rintro σ H' ⟨rfl,u,v,z,rfl,e⟩;refine⟨_,rfl,rfl,_,rfl,?_⟩;refine sR (fun c=>?_) (fun c=>?_)
  ·have hv:v≠0:=by intro q;subst q;simp at c
   refine⟨_,rfl,_,rfl,_,_,rfl,rfl,hv,_,rfl,_,rfl,⟨rfl,v,Int.fmod u v,_,rfl,(Mq.He u v).trans e⟩,Mq.xK hv⟩
  ·have hv:v=0:=by
    simp at c;exact c
   subst hv;refine⟨_,rfl,_,rfl,?_⟩;rw[<- Mq.Gz,e];exact q
 ·rintro σ H Q Q' m ⟨v,h1,h2,k,h3,h4⟩;exact⟨v,h1,h2,k,h3,m _ _ h4⟩
abbrev pZ:Stmt:=top 23
theorem Ru:aT ["one","other"] ["one","other"] (aE pZ):=sK9 rfl rfl rfl rfl (by decide +kernel)
theorem My {dV:Value}(F:bZ K "under" "under" pZ dV f fd):aM P w K mg base CX 1 f fd ["one","other"] (tG K):=by
 refine F.ok Ru (fun vs H Q E h=>?_) fun cdv A outer s H vs Q E hr h=>?_
 ·obtain⟨_,_,_,_,_,_,rfl,_⟩:=h;rfl
 obtain⟨a,b,p,q,n,m,rfl,ha,hb,bp,bq,hn,z⟩:=h;refine⟨_,aH (aZ (jC yC (aY cQ (aU aX (pv 0) aF (fun _ _=>rfl)) (aU aX (pv 1) aF (fun _ _=>rfl))) (aY cQ (aU aX (pv 1) aF (fun _ _=>rfl)) (aU aX (pv 0) aF (fun _ _=>rfl))) (bO _))),?_⟩;exact dU rfl ha (cT rfl hb (cO bp.a bq.b (by omega) (by omega) (dU rfl hb (cT rfl ha (cO bq.a bp.b (by omega) (by omega) ⟨_,_,rfl,rfl,z⟩)))))
abbrev kL:Stmt:=top 18
theorem Dt:aT ["top","bottom","shared"] ["top","bottom"] (aE kL):=sK9 rfl rfl rfl rfl (by decide +kernel)
theorem Se {dV:Value}(F:bZ K "fraction" "fraction" kL dV f fd)(G1:aM P w K mg base CX0 1 g1 gd1 ["thing"] (oG K))(b1:aQ K gd1 ["thing"] [])(k1:kI9 K g1)(m1:mI9 mg "is_whole" g1)(G2:aM P w K mg base CX0 1 g2 gd2 ["one","other"] Td)(b2:aQ K gd2 ["one","other"] [])(k2:kI9 K g2)(m2:mI9 mg "greatest_common" g2) :
  aM P w K mg base CX 2 f fd ["top","bottom"] iO:=by
 refine F.ok Dt (fun vs H Q E h=>?_) fun cdv A outer s H vs Q E hr h=>?_
 ·obtain⟨_,_,_,rfl,_⟩:=h;rfl
 obtain⟨t,b,n,rfl,hb,hB,hn,q⟩:=h;refine⟨_,aC (cK (PW.pt (jJ (eU (cY (aG G1 hr rfl m1 k1 b1 .nil aL (aA (pv 0) aB)))) (jJ (eU (cY (aG G1 hr rfl m1 k1 b1 .nil aL (aA (pv 1) aB)))) (jG (bM gH (pv 1) aF (bO _)))))) Jt bK)
  (aC (aS (i:=2) Dt.nd rfl (Or.inl rfl) (aG G2 hr rfl m2 k2 b2 .nil aL (aA (pv 0) (aA (pv 1) aB))))
  (aC (cK (bM yC (pv 1) aF (bO _)) (aH (aS (i:=2) Dt.nd rfl (Or.inl rfl) (Lv El (pv 2)))) bK)
  (aH (aZ (dM (aA (aY iL (pv 0) (pv 2)) (aA (aY iL (pv 1) (pv 2)) aB))))))),?_⟩
 have hd:=Mq.qC (t:=t) hb;have hdB:Mq.B n (Mq.dvr t b):=hB.le (Mq.Ef hb);have c0:decide (V.int b=V.int 0)=false:=decide_eq_false (fun z=>hb (by cases z;rfl));refine⟨_,rfl,_,rfl,.inl ⟨t,rfl,_,rfl,dX ⟨_,rfl,_,rfl,.inl ⟨b,rfl,_,rfl,dX ⟨_,rfl,rfl,_,rfl,?_⟩⟩⟩⟩⟩;rw[c0];refine dX ⟨_,rfl,_,rfl,t,b,rfl,?_⟩;refine⟨_,rfl,_,_,rfl,rfl,_,rfl,?_⟩;refine sR (fun c=>?_) (fun c=>?_)
 ·have hlt:b < 0:=of_decide_eq_true c;have e:Mq.dvr t b=-Mq.gc t b:=by unfold Mq.dvr;rw[if_pos hlt]
  rw[e] at hd hdB;have q':sQ H Q (t.fdiv (-Mq.gc t b),b.fdiv (-Mq.gc t b)):=by
   have z:=q;unfold Mq.red at z;rw[e] at z;exact z
  refine⟨_,rfl,_,rfl,?_⟩;refine⟨_,rfl,_,rfl,?_⟩;refine fP hd hdB hn ⟨_,rfl,_,rfl,fP hd hdB hn ⟨zl9 2,fun p hp=>?_⟩⟩;exact q' p _ (aI hp _) aD
 ·have hlt:¬b < 0:=fun z=>c (decide_eq_true z);have e:Mq.dvr t b=Mq.gc t b:=by unfold Mq.dvr;rw[if_neg hlt]
  rw[e] at hd hdB;have q':sQ H Q (t.fdiv (Mq.gc t b),b.fdiv (Mq.gc t b)):=by
   have z:=q;unfold Mq.red at z;rw[e] at z;exact z
  refine⟨_,rfl,_,rfl,?_⟩;refine fP hd hdB hn ⟨_,rfl,_,rfl,fP hd hdB hn ⟨zl9 2,fun p hp=>?_⟩⟩;exact q' p _ (aI hp _) aD
abbrev pW:Stmt:=top 20
theorem Qd:aT ["one","other"] ["one","other"] (aE pW):=sK9 rfl rfl rfl rfl (by decide +kernel)
theorem No {dV:Value}(F:bZ K "minus" "minus" pW dV f fd)(G1:aM P w K mg base CX0 2 g1 gd1 ["top","bottom"] iO)(b1:aQ K gd1 ["top","bottom"] [])(k1:kI9 K g1)(m1:mI9 mg "fraction" g1) :
  aM P w K mg base CX 3 f fd ["one","other"] (iV K Mq.minus):=by
 refine F.ok Qd (fun vs H Q E h=>?_) fun cdv A outer s H vs Q E hr h=>?_
 ·obtain⟨_,_,_,_,_,_,rfl,_⟩:=h;rfl
 obtain⟨a,b,p,q,n,m,rfl,ha,hb,lp,lq,bp,bq,hn,z⟩:=h;refine⟨_,aH (aZ (aG G1 hr rfl m1 k1 b1 .nil aL (aA
  (aY kU (aY cQ (aU aX (pv 0) aF (fun _ _=>rfl)) (aU aX (pv 1) aF (fun _ _=>rfl))) (aY cQ (aU aX (pv 1) aF (fun _ _=>rfl)) (aU aX (pv 0) aF (fun _ _=>rfl))))
  (aA (aY cQ (aU aX (pv 0) aF (fun _ _=>rfl)) (aU aX (pv 1) aF (fun _ _=>rfl))) aB)))),?_⟩
 refine dU rfl ha (cT rfl hb (cO bp.a bq.b (by omega) (by omega) (dU rfl hb (cT rfl ha (cO bq.a bp.b (by omega) (by omega) ⟨_,_,rfl,rfl,?_⟩)))));refine cT rfl ha (cT rfl hb (cO bp.b bq.b (by omega) (by omega) ⟨_,_,n+m,rfl,Mq.gE lp lq,bp.b.mul bq.b,by omega,z⟩))
abbrev xS:Stmt:=top 19
theorem Vc:aT ["one","other"] ["one","other"] (aE xS):=sK9 rfl rfl rfl rfl (by decide +kernel)
theorem Rj {dV:Value}(F:bZ K "plus" "plus" xS dV f fd)(G1:aM P w K mg base CX0 2 g1 gd1 ["top","bottom"] iO)(b1:aQ K gd1 ["top","bottom"] [])(k1:kI9 K g1)(m1:mI9 mg "fraction" g1) :
  aM P w K mg base CX 3 f fd ["one","other"] (iV K Mq.fL):=by
 refine F.ok Vc (fun vs H Q E h=>?_) fun cdv A outer s H vs Q E hr h=>?_
 ·obtain⟨_,_,_,_,_,_,rfl,_⟩:=h;rfl
 obtain⟨a,b,p,q,n,m,rfl,ha,hb,lp,lq,bp,bq,hn,z⟩:=h;refine⟨_,aH (aZ (aG G1 hr rfl m1 k1 b1 .nil aL (aA
  (aY dP (aY cQ (aU aX (pv 0) aF (fun _ _=>rfl)) (aU aX (pv 1) aF (fun _ _=>rfl))) (aY cQ (aU aX (pv 1) aF (fun _ _=>rfl)) (aU aX (pv 0) aF (fun _ _=>rfl))))
  (aA (aY cQ (aU aX (pv 0) aF (fun _ _=>rfl)) (aU aX (pv 1) aF (fun _ _=>rfl))) aB)))),?_⟩
 refine dU rfl ha (cT rfl hb (cO bp.a bq.b (by omega) (by omega) (dU rfl hb (cT rfl ha (cO bq.a bp.b (by omega) (by omega) ⟨_,_,rfl,rfl,?_⟩)))));refine cT rfl ha (cT rfl hb (cO bp.b bq.b (by omega) (by omega) ⟨_,_,n+m,rfl,Mq.gE lp lq,bp.b.mul bq.b,by omega,z⟩))
variable {CR:Addr} {CK:Kd->Addr} {fW fJ fT fS:Kd->Addr} {fdW fdJ fdT fdS:Kd->FuncData}
abbrev qT:Stmt:=eV (top 35) 0
theorem Rh:aT ["self","start","goal","size"] ["self","start","goal","size"] (aE qT):=sK9 rfl rfl rfl rfl (by decide +kernel)
theorem Pi {dV:Value}(F:bZ K "__init__" "Row.__init__" qT dV f fd)(T:RT K mg CR CK):aM P w K mg base CX 1 f fd ["self","start","goal","size"] (yR CK):=by
 refine F.ok Rh (fun vs H Q E h=>?_) fun cdv A outer s H vs Q E hr h=>?_
 ·obtain⟨_,_,_,_,_,_,rfl,_⟩:=h;rfl
 obtain⟨x,dx,k,s,g,z,rfl,hx,q⟩:=h;refine⟨_,(aC (vL (pv 0) (pv 1) rfl) (aC (vL (pv 0) (pv 2) rfl) (aH (vL (pv 0) (pv 3) rfl)))),?_⟩;have l1:=hZ ("start":Str) s [];have l2:=hZ ("goal":Str) g (iW "start" s []);simp only[List.length_nil] at l1;refine⟨_,rfl,_,rfl,x,CK k,dx,[],rfl,hx,T.cl k,T.nS k,(by show 0 < 1000;decide),?_⟩;refine⟨_,rfl,_,rfl,x,CK k,dx,_,rfl,aD,T.cl k,T.nG k,by omega,?_⟩;refine⟨_,rfl,_,rfl,x,CK k,dx,_,rfl,aD,T.cl k,T.nZ k,by omega,?_⟩;rw[oP,oP];exact q
abbrev jS:Stmt:=eV (top 36) 0
theorem Il:aT ["self"] ["self"] (aE jS):=sK9 rfl rfl rfl rfl (by decide +kernel)
theorem Cz {dV:Value}(F:bZ K "word" "Piece.word" jS dV f fd):aM P w K mg base CX 1 f fd ["self"] (kP .pc):=by
 refine F.ok Il (fun vs H Q E h=>?_) fun cdv A outer s H vs Q E hr h=>?_
 ·obtain⟨_,rfl,_⟩:=h;rfl
 obtain⟨x,rfl,q⟩:=h;exact⟨_,(aH (aZ cW)),q⟩
abbrev jY:Stmt:=eV (top 37) 0
theorem Ia:aT ["self"] ["self"] (aE jY):=sK9 rfl rfl rfl rfl (by decide +kernel)
theorem Dy {dV:Value}(F:bZ K "word" "Push.word" jY dV f fd):aM P w K mg base CX 1 f fd ["self"] (kP .pu):=by
 refine F.ok Ia (fun vs H Q E h=>?_) fun cdv A outer s H vs Q E hr h=>?_
 ·obtain⟨_,rfl,_⟩:=h;rfl
 obtain⟨x,rfl,q⟩:=h;exact⟨_,(aH (aZ cW)),q⟩
abbrev jO:Stmt:=eV (top 38) 0
theorem Jy:aT ["self"] ["self"] (aE jO):=sK9 rfl rfl rfl rfl (by decide +kernel)
theorem Db {dV:Value}(F:bZ K "word" "Hold.word" jO dV f fd):aM P w K mg base CX 1 f fd ["self"] (kP .ho):=by
 refine F.ok Jy (fun vs H Q E h=>?_) fun cdv A outer s H vs Q E hr h=>?_
 ·obtain⟨_,rfl,_⟩:=h;rfl
 obtain⟨x,rfl,q⟩:=h;exact⟨_,(aH (aZ cW)),q⟩
abbrev qQ:Stmt:=eV (top 35) 1
theorem Sn:aT ["self"] ["self"] (aE qQ):=sK9 rfl rfl rfl rfl (by decide +kernel)
theorem Mj {dV:Value}(F:bZ K "told" "Row.told" qQ dV f fd)(T:RT K mg CR CK)(GW:∀k,aM P w K mg base CX0 1 (fW k) (fdW k) ["self"] (kP k))(bW:∀k,aQ K (fdW k) ["self"] [])(mW:∀k,iB K (CK k) "word" (fW k)):aM P w K mg base CX 2 f fd ["self"] (zY CK):=by
 refine F.ok Sn (fun vs H Q E h=>?_) fun cdv A outer s H vs Q E hr h=>?_
 ·obtain⟨_,_,_,_,_,rfl,_⟩:=h;rfl
 obtain⟨x,k,s,g,z,rfl,⟨dx,hx⟩,q⟩:=h;refine⟨_,(aH (aZ (dM (aA (fZ (pv 0) T.cl mW GW hr bW .nil aL) (aA (cN (pv 0) rfl) (aA (cN (pv 0) rfl) (aA (cN (pv 0) rfl) aB))))))),?_⟩;refine⟨_,rfl,k,x,dx,_,rfl,hx,(fC _ _ _ (by decide +kernel) (by decide +kernel) (by decide +kernel)),_,rfl,?_⟩;refine⟨_,rfl,x,CK k,dx,_,_,rfl,hx,T.cl k,T.nS k,dZ _ _ _,?_⟩;refine⟨_,rfl,x,CK k,dx,_,_,rfl,hx,T.cl k,T.nG k,eX _ _ _,?_⟩;refine⟨_,rfl,x,CK k,dx,_,_,rfl,hx,T.cl k,T.nZ k,gR _ _ _,?_⟩;exact⟨zl9 4,q⟩
abbrev pX:Stmt:=top 39
theorem Fh:aT ["told","word"] ["told"] (aE pX):=sK9 rfl rfl rfl rfl (by decide +kernel)
theorem Nd {dV:Value}{gI:Addr}{gdI:FuncData}(F:bZ K "row_of" "row_of" pX dV f fd)(T:RT K mg CR CK)(b:Bl mg)(ms:mg "str"=none)(GI:aM P w K mg base CX0 1 gI gdI ["self","start","goal","size"] (yR CK))(bI:aQ K gdI ["self","start","goal","size"] [])(MK:∀k,Mk K (CK k) gI):aM P w K mg base CX 3 f fd ["told"] (uK K CK):=by
 refine F.ok Fh (fun vs H Q E h=>?_) fun cdv A outer s H vs Q E hr h=>?_
 ·obtain⟨_,_,_,_,_,rfl,_⟩:=h;rfl
 obtain⟨t,v,s,g,z,rfl,hT,k,rfl,q⟩:=h;refine⟨_,(aC (aS (i:=1) Fh.nd rfl (Or.inl rfl) (aU aX (pv 0) aF (fun _ _=>rfl)))
  (aC (cK (PW.pt (uO (cY (iG (i:=1) rfl (Or.inl rfl) b.isi ms rfl rfl PyProof.Rows.boot_str)) (oV (bM gH (pv 1) cW (bO _))))) (aH (aZ (oH (MK .pc) GI hr rfl (T.mK .pc) bI .nil aL (aA (aU aX (pv 0) aF (fun _ _=>rfl)) (aA (aU aX (pv 0) aF (fun _ _=>rfl)) (aA (aU aX (pv 0) aF (fun _ _=>rfl)) aB)))))) bK)
  (aC (cK (PW.pt (uO (cY (iG (i:=1) rfl (Or.inl rfl) b.isi ms rfl rfl PyProof.Rows.boot_str)) (oV (bM gH (pv 1) cW (bO _))))) (aH (aZ (oH (MK .pu) GI hr rfl (T.mK .pu) bI .nil aL (aA (aU aX (pv 0) aF (fun _ _=>rfl)) (aA (aU aX (pv 0) aF (fun _ _=>rfl)) (aA (aU aX (pv 0) aF (fun _ _=>rfl)) aB)))))) bK)
  (aC (cK (PW.pt (uO (cY (iG (i:=1) rfl (Or.inl rfl) b.isi ms rfl rfl PyProof.Rows.boot_str)) (oV (bM gH (pv 1) cW (bO _))))) (aH (aZ (oH (MK .ho) GI hr rfl (T.mK .ho) bI .nil aL (aA (aU aX (pv 0) aF (fun _ _=>rfl)) (aA (aU aX (pv 0) aF (fun _ _=>rfl)) (aA (aU aX (pv 0) aF (fun _ _=>rfl)) aB)))))) bK)
  (aH fR))))),?_⟩
 cases k
 ·refine Zo (fun _ _=>False) (fun X _=>?_) (fun _ _ h=>h.elim);refine⟨_,rfl,t,_,0,_,rfl,rfl,hT,rfl,?_⟩;exact⟨_,_,true,rfl,.of (.str _),rfl,_,rfl,fM ⟨_,rfl,rfl,_,rfl,ifT (eY .pc .pc) ⟨_,rfl,t,_,1,s,rfl,rfl,hT,rfl,_,rfl,t,_,2,g,rfl,rfl,hT,rfl,_,rfl,t,_,3,z,rfl,rfl,hT,rfl,fun x dx h1 h2 ne=>⟨x,dx,.pc,s,g,z,rfl,aD,rfl,by rw[oP];exact q x _ (Rw.new h1 h2 ne) h1 ⟨dx,aD⟩⟩⟩⟩⟩
 ·refine qb5 (fun _ _=>False) (fun X _=>?_) (fun _ _ h=>h.elim);refine⟨_,rfl,t,_,0,_,rfl,rfl,hT,rfl,?_⟩;exact⟨_,_,true,rfl,.of (.str _),rfl,_,rfl,fM ⟨_,rfl,rfl,_,rfl,ifF (eY .pu .pc) (⟨_,_,true,rfl,.of (.str _),rfl,_,rfl,fM ⟨_,rfl,rfl,_,rfl,ifT (eY .pu .pu) ⟨_,rfl,t,_,1,s,rfl,rfl,hT,rfl,_,rfl,t,_,2,g,rfl,rfl,hT,rfl,_,rfl,t,_,3,z,rfl,rfl,hT,rfl,fun x dx h1 h2 ne=>⟨x,dx,.pu,s,g,z,rfl,aD,rfl,by rw[oP];exact q x _ (Rw.new h1 h2 ne) h1 ⟨dx,aD⟩⟩⟩⟩⟩)⟩⟩
 ·refine qa8 (fun _ _=>False) (fun X _=>?_) (fun _ _ h=>h.elim);refine⟨_,rfl,t,_,0,_,rfl,rfl,hT,rfl,?_⟩;exact⟨_,_,true,rfl,.of (.str _),rfl,_,rfl,fM ⟨_,rfl,rfl,_,rfl,ifF (eY .ho .pc) (⟨_,_,true,rfl,.of (.str _),rfl,_,rfl,fM ⟨_,rfl,rfl,_,rfl,ifF (eY .ho .pu) (⟨_,_,true,rfl,.of (.str _),rfl,_,rfl,fM ⟨_,rfl,rfl,_,rfl,ifT (eY .ho .ho) ⟨_,rfl,t,_,1,s,rfl,rfl,hT,rfl,_,rfl,t,_,2,g,rfl,rfl,hT,rfl,_,rfl,t,_,3,z,rfl,rfl,hT,rfl,fun x dx h1 h2 ne=>⟨x,dx,.ho,s,g,z,rfl,aD,rfl,by rw[oP];exact q x _ (Rw.new h1 h2 ne) h1 ⟨dx,aD⟩⟩⟩⟩⟩)⟩⟩)⟩⟩
abbrev Jh:Stmt:=top 16
theorem Yv:aT ["thing"] ["thing"] (aE Jh):=sK9 rfl rfl rfl rfl (by decide +kernel)
theorem Wg {dV:Value}(F:bZ K "is_fraction" "is_fraction" Jh dV f fd)(b:Bl mg)(ml:mg "len"=none)(mt:mg "tuple"=none)(G1:aM P w K mg base CX0 1 g1 gd1 ["thing"] (oG K))(b1:aQ K gd1 ["thing"] [])(k1:kI9 K g1)(m1:mI9 mg "is_whole" g1)(G2:aM P w K mg base CX0 1 g2 gd2 ["one","other"] Td)(b2:aQ K gd2 ["one","other"] [])(k2:kI9 K g2)(m2:mI9 mg "greatest_common" g2) :
  aM P w K mg base CX 2 f fd ["thing"] (Np K):=by
 refine F.ok Yv (fun vs H Q E h=>?_) fun cdv A outer s H vs Q E hr h=>?_
 ·obtain⟨_,_,rfl,_⟩:=h;rfl
 obtain⟨v,o,rfl,hz,q⟩:=h;refine⟨_,(aC (cK (PW.pt (jJ (eU (cY (iG (i:=0) rfl (Or.inl rfl) b.isi mt rfl rfl PyProof.Rows.boot_tuple))) (jG (bM rW (cL bS rfl ml PySem.boot_len (aA (pv 0) aB)) aF (bO _))))) (aH (aZ jV)) bK)
  (aC (cK (PW.pt (jJ (eU (cY (aG G1 hr rfl m1 k1 b1 .nil aL (aA (aU aX (pv 0) aF (fun _ _=>rfl)) aB)))) (jG (eU (cY (aG G1 hr rfl m1 k1 b1 .nil aL (aA (aU aX (pv 0) aF (fun _ _=>rfl)) aB))))))) (aH (aZ jV)) bK)
  (aH (aZ (rK (jC Og (aU aX (pv 0) aF (fun _ _=>rfl)) aF (bO _)) (uL (jC gH (aG G2 hr rfl m2 k2 b2 .nil aL (aA (aU aX (pv 0) aF (fun _ _=>rfl)) (aA (aU aX (pv 0) aF (fun _ _=>rfl)) aB))) aF (bO _)))))))),?_⟩
 cases hz with
 |fr fa hp=>
  refine⟨_,_,true,rfl,.tup fa,rfl,_,rfl,dX ⟨_,rfl,_,_,rfl,.inr fa,rfl,_,rfl,dX ?_⟩⟩;refine dU rfl fa ⟨_,rfl,.inl ⟨_,rfl,_,rfl,dX (cT rfl fa ⟨_,rfl,.inl ⟨_,rfl,_,rfl,dX ?_⟩⟩)⟩⟩;have h1:=hp.pos;refine cT rfl fa ⟨_,_,rfl,rfl,_,rfl,ifT (decide_eq_true (by omega)) (dU rfl fa (cT rfl fa ⟨_,_,rfl,rfl,?_⟩))⟩;rw[hp.one];exact q
 |ty h n=>exact⟨_,_,false,rfl,h,n,_,rfl,fM q⟩
 |len h=>exact⟨_,_,true,rfl,.tup h,rfl,_,rfl,dX ⟨_,rfl,_,_,rfl,.inr h,rfl,_,rfl,fM q⟩⟩
 |n0 h ty n=>
  refine⟨_,_,true,rfl,.tup h,rfl,_,rfl,dX ⟨_,rfl,_,_,rfl,.inr h,rfl,_,rfl,dX ?_⟩⟩;exact⟨_,rfl,_,_,0,_,rfl,rfl,h,rfl,_,rfl,.inr ⟨_,ty,n,_,rfl,fM q⟩⟩
 |n1 h ty n=>
  refine⟨_,_,true,rfl,.tup h,rfl,_,rfl,dX ⟨_,rfl,_,_,rfl,.inr h,rfl,_,rfl,dX ?_⟩⟩;exact⟨_,rfl,_,_,0,_,rfl,rfl,h,rfl,_,rfl,.inl ⟨_,rfl,_,rfl,dX ⟨_,rfl,_,_,1,_,rfl,rfl,h,rfl,_,rfl,.inr ⟨_,ty,n,_,rfl,fM q⟩⟩⟩⟩
 |fb fa c=>
  refine⟨_,_,true,rfl,.tup fa,rfl,_,rfl,dX ⟨_,rfl,_,_,rfl,.inr fa,rfl,_,rfl,dX ?_⟩⟩;refine dU rfl fa ⟨_,rfl,.inl ⟨_,rfl,_,rfl,dX (cT rfl fa ⟨_,rfl,.inl ⟨_,rfl,_,rfl,dX ?_⟩⟩)⟩⟩;rcases c with c | ⟨c,d⟩
  ·exact cT rfl fa ⟨_,_,rfl,rfl,_,rfl,ifF (decide_eq_false (by omega)) q⟩
  ·refine cT rfl fa ⟨_,_,rfl,rfl,_,rfl,ifT (decide_eq_true c) (dU rfl fa (cT rfl fa ⟨_,_,rfl,rfl,?_⟩))⟩;rw[decide_eq_false (fun e=>d (by injection e))];exact q
abbrev sPS:Stmt:=top 40
theorem qd6:aT ["thing"] ["thing"] (aE sPS):=sK9 rfl rfl rfl rfl (by decide +kernel)
theorem Yz {dV:Value}(F:bZ K "is_piece_size" "is_piece_size" sPS dV f fd){aN:Addr}(fN:∀H,Fq K H aN (0,1))(mNO:mI9 mg "NOUGHT" aN)(G1:aM P w K mg base CX0 2 g1 gd1 ["thing"] (Nz K))(b1:aQ K gd1 ["thing"] [])(k1:kI9 K g1)(m1:mI9 mg "is_fraction" g1)(G2:aM P w K mg base CX0 1 g2 gd2 ["one","other"] (tG K))(b2:aQ K gd2 ["one","other"] [])(k2:kI9 K g2)(m2:mI9 mg "under" g2) :
  aM P w K mg base CX 3 f fd ["thing"] (qa3 K):=by
 refine F.ok qd6 (fun vs H Q E h=>?_) fun cdv A outer s H vs Q E hr h=>?_
 ·obtain⟨_,_,_,rfl,_⟩:=h;rfl
 obtain⟨a,p,n,rfl,fa,hp,h0,hb,hn,q⟩:=h;have r1:=hr.mono (show 1<=2 by omega);refine⟨_,(aH (aZ (rK (aG G1 hr rfl m1 k1 b1 .nil aL (aA (pv 0) aB)) (uL (aG G2 r1 rfl m2 k2 b2 .nil aL (aA (dG (v:=.ref aN) rfl mNO rfl) (aA (pv 0) aB))))))),?_⟩;refine⟨_,rfl,a,p,rfl,fa,hp,_,rfl,fM ⟨_,rfl,aN,a,_,p,1,n,rfl,fN _,fa,⟨show (0:Nat) < 2 ^ 1 by decide,show (1:Nat) < 2 ^ 1 by decide⟩,hb,by omega,?_⟩⟩;rw[decide_eq_true (show (0:Int)*p.2 < p.1*1 by omega)];exact q
abbrev sNB:Stmt:=top 45
theorem qb7:aT ["thing","bound"] ["thing","bound"] (aE sNB):=sK9 rfl rfl rfl rfl (by decide +kernel)
theorem Yx {dV:Value}(F:bZ K "is_number_below" "is_number_below" sNB dV f fd)(G1:aM P w K mg base CX0 1 g1 gd1 ["thing"] (oG K))(b1:aQ K gd1 ["thing"] [])(k1:kI9 K g1)(m1:mI9 mg "is_whole" g1) :
  aM P w K mg base CX 2 f fd ["thing","bound"] Wk:=by
 refine F.ok qb7 (fun vs H Q E h=>?_) fun cdv A outer s H vs Q E hr h=>?_
 ·obtain⟨_,_,rfl,_⟩:=h;rfl
 obtain⟨i,b',rfl,h0,h1,q⟩:=h;refine⟨_,(aH (aZ (rK (aG G1 hr rfl m1 k1 b1 .nil aL (aA (pv 0) aB)) (rK (jC Og (pv 0) aF (bO _)) (uL (jC yC (pv 0) (pv 1) (bO _))))))),?_⟩;refine⟨_,rfl,_,rfl,.inl ⟨i,rfl,_,rfl,fM ⟨_,rfl,_,_,rfl,rfl,_,rfl,ifT (decide_eq_true h0) ⟨_,rfl,_,rfl,_,_,rfl,rfl,?_⟩⟩⟩⟩;show Q (.bl (decide (i < b'))) H;rw[decide_eq_true h1];exact q
abbrev sRS:Stmt:=top 48
theorem qe5:aT ["word","size"] ["word","size"] (aE sRS):=sK9 rfl rfl rfl rfl (by decide +kernel)
theorem Yt {dV:Value}(F:bZ K "refuse_size" "refuse_size" sRS dV f fd)(G1:aM P w K mg base CX0 2 g1 gd1 ["thing"] (Nz K))(b1:aQ K gd1 ["thing"] [])(k1:kI9 K g1)(m1:mI9 mg "is_fraction" g1)(G2:aM P w K mg base CX0 3 g2 gd2 ["thing"] (qa3 K))(b2:aQ K gd2 ["thing"] [])(k2:kI9 K g2)(m2:mI9 mg "is_piece_size" g2) :
  aM P w K mg base CX 4 f fd ["word","size"] (Xe K):=by
 refine F.ok qe5 (fun vs H Q E h=>?_) fun cdv A outer s H vs Q E hr h=>?_
 ·obtain⟨_,_,_,rfl,_⟩:=h;rfl
 obtain⟨k,z,p,rfl,fz,hp,h0,hb,q⟩:=h;have r2:=hr.mono (show 2<=3 by omega);refine⟨_,(aC (cK (eU (cY (aG G1 r2 rfl m1 k1 b1 .nil aL (aA (pv 1) aB)))) (aH fR) bK)
  (aH (cK (PW.pt (uO (bM gH (pv 0) cW (bO _)) (oV (eU (cY (aG G2 hr rfl m2 k2 b2 .nil aL (aA (pv 1) aB))))))) (aH fR) bK))),?_⟩
 refine⟨_,rfl,z,p,rfl,fz,hp,_,rfl,dX ?_⟩
 cases k
 ·exact⟨_,rfl,rfl,_,rfl,ifT (eY .pc .pc) ⟨_,rfl,z,p,_,rfl,fz,hp,h0 rfl,hb,by omega,_,rfl,dX q⟩⟩
 ·exact⟨_,rfl,rfl,_,rfl,ifF (eY .pu .pc) (dX q)⟩
 ·exact⟨_,rfl,rfl,_,rfl,ifF (eY .ho .pc) (dX q)⟩
theorem wG:(["point","many"]:List Str).Nodup:=by decide +kernel
def Wi (K:Frag):Sp:=fun vs H Q _=>∃(l:Addr) (i j m:Int),vs=[.ref l,.int m]/\SqL K H l [.int i,.int j]/\0<=i/\i < m/\0<=j/\j < m/\∀H',bF H H'->Q .non H'
def Yw:Sp:=fun vs H Q _=>∃k c:Int,vs=[.int k,.int c]/\0<=k/\k < c/\Q .non H
abbrev sRP:Stmt:=top 46
theorem qe6:aT ["some","many"] ["some","many"] (aE sRP):=sK9 rfl rfl rfl rfl (by decide +kernel)
abbrev sRN:Stmt:=top 47
theorem qb6:aT ["k","count"] ["k","count"] (aE sRN):=sK9 rfl rfl rfl rfl (by decide +kernel)
theorem Zz {dV:Value}(F:bZ K "refuse_number" "refuse_number" sRN dV f fd)(G1:aM P w K mg base CX0 2 g1 gd1 ["thing","bound"] Wk)(b1:aQ K gd1 ["thing","bound"] [])(k1:kI9 K g1)(m1:mI9 mg "is_number_below" g1) :
  aM P w K mg base CX 3 f fd ["k","count"] Yw:=by
 refine F.ok qb6 (fun vs H Q E h=>?_) fun cdv A outer s H vs Q E hr h=>?_
 ·obtain⟨_,_,rfl,_⟩:=h;rfl
 obtain⟨k,c,rfl,u0,u1,q⟩:=h;refine⟨_,(aH (cK (eU (cY (aG G1 hr rfl m1 k1 b1 .nil aL (aA (pv 0) (aA (pv 1) aB))))) (aH fR) bK)),?_⟩;exact⟨_,rfl,_,rfl,k,c,rfl,u0,u1,_,rfl,dX q⟩
abbrev qI:Stmt:=eV (top 44) 0
theorem Tp:aT ["self","many"] ["self","many"] (aE qI):=sK9 rfl rfl rfl rfl (by decide +kernel)
theorem Ld {dV:Value}{CN:Addr}(F:bZ K "__init__" "Net.__init__" qI dV f fd)(NTx:NT K mg CN){tM:Tok}(mMP:mg "MOST_POINTS"=some (.int 20 tM))(G1:aM P w K mg base CX0 1 g1 gd1 ["thing"] (oG K))(b1:aQ K gd1 ["thing"] [])(k1:kI9 K g1)(m1:mI9 mg "is_whole" g1):aM P w K mg base CX 2 f fd ["self","many"] (Gy CN):=by
 refine F.ok Tp (fun vs H Q E h=>?_) fun cdv A outer s H vs Q E hr h=>?_
 ·obtain⟨_,_,_,rfl,_⟩:=h;rfl
 obtain⟨n,dx,m,rfl,hn,h1,h20,q⟩:=h;refine⟨_,(aC (cK (PW.pt (jJ (eU (cY (aG G1 hr rfl m1 k1 b1 .nil aL (aA (pv 1) aB)))) (jJ (bM yC (pv 1) aF (bO _)) (jG (bM Be (pv 1) (dG (v:=.int 20) rfl mMP ⟨_,rfl⟩) (bO _)))))) (aH fR) bK)
  (aC (vL (pv 0) (pv 1) rfl)
  (aH (vL (pv 0) (cX aB) rfl)))),?_⟩
 refine⟨_,rfl,_,rfl,.inl ⟨m,rfl,_,rfl,dX ⟨_,rfl,_,_,rfl,rfl,_,rfl,ifF (decide_eq_false (by omega)) ⟨_,rfl,_,_,rfl,rfl,_,rfl,ifF (decide_eq_false (by omega)) ?_⟩⟩⟩⟩;refine⟨_,rfl,_,rfl,n,CN,dx,[],rfl,hn,NTx.cl,NTx.nP,(by show 0 < 1000;decide),?_⟩;refine⟨zl9 0,fun l hl=>?_⟩;have nl:n≠l:=fun z=>by subst z;rw[aD] at hl;cases hl
 have hl0:H l=none:=by rw[aV (Ne.symm nl)] at hl;exact hl
 have l1:=hZ ("point_count":Str) (.int m) [];simp only[List.length_nil] at l1;refine⟨_,rfl,n,CN,dx,iW "point_count" (.int m) [],rfl,by rw[aV nl];exact aD,NTx.cl,NTx.nK,by omega,?_⟩;refine q l _ hl0 (fun b o e hb=>?_) aD (by rw[aV (Ne.symm nl)];exact aD);rw[aV hb,aV (bC e hl0),aV hb];exact e
abbrev xU:Stmt:=eV (top 44) 1
theorem Vs:aT ["self"] ["self"] (aE xU):=sK9 rfl rfl rfl rfl (by decide +kernel)
theorem Rk {dV:Value}{CN:Addr}(F:bZ K "many" "Net.many" xU dV f fd)(NTx:NT K mg CN):aM P w K mg base CX 1 f fd ["self"] (rC CN K):=by
 refine F.ok Vs (fun vs H Q E h=>?_) fun cdv A outer s H vs Q E hr h=>?_
 ·obtain⟨_,_,_,_,rfl,_⟩:=h;rfl
 obtain⟨n,l,m,ds,rfl,⟨⟨dx,hn⟩,ts,hl,hr'⟩,q⟩:=h;exact⟨_,(aH (aZ (cN (pv 0) rfl))),_,rfl,n,CN,dx,_,_,rfl,hn,NTx.cl,NTx.nP,Ay _ _,q⟩
abbrev qb4:Stmt:=eV (top 44) 2
abbrev qb3:Stmt:=eV (top 44) 6
abbrev Ik:Stmt:=eV (top 44) 3
theorem Ub:aT ["self","row","told"] ["self","row"] (aE Ik):=sK9 rfl rfl rfl rfl (by decide +kernel)
theorem Xz {dV:Value}{CN:Addr}(F:bZ K "add" "Net.add" Ik dV f fd)(NTx:NT K mg CN){tR:Tok}(mMR:mg "MOST_ROWS"=some (.int 40 tR))(ml:mg "len"=none){gT:Addr}{gdT:FuncData}(T:RT K mg CR CK)(GT:aM P w K mg base CX0 2 gT gdT ["self"] (zY CK))(bT:aQ K gdT ["self"] [])(mT:∀k,iB K (CK k) "told" gT)(G1:aM P w K mg base CX0 3 g1 gd1 ["some","many"] (Wi K))(b1:aQ K gd1 ["some","many"] [])(k1:kI9 K g1)(m1:mI9 mg "refuse_points" g1)(G2:aM P w K mg base CX0 4 g2 gd2 ["word","size"] (Xe K))(b2:aQ K gd2 ["word","size"] [])(k2:kI9 K g2)(m2:mI9 mg "refuse_size" g2):aM P w K mg base CX 5 f fd ["self","row"] (Uk CN K CK):=by
 refine F.ok Ub (fun vs H Q E h=>?_) fun cdv A outer s H vs Q E hr h=>?_
 ·obtain⟨_,_,_,_,_,_,_,_,_,_,rfl,_⟩:=h;rfl
 obtain⟨n,l,x,z,m,ds,k,i,j,p,rfl,⟨⟨dx,hn⟩,ts,hl,hR⟩,rw,fz,⟨i0,i1,j0,j1,lp,h0,bp⟩,h40,q⟩:=h;have r2:=hr.mono (show 2<=4 by omega);have r3:=hr.mono (show 3<=4 by omega);refine⟨_,(aC (aS (i:=2) Ub.nd rfl (Or.inl rfl) (fZ (f:=fun _=>gT) (fd:=fun _=>gdT) (sp:=fun _=>zY CK) (pv 1) T.cl mT (fun _=>GT) r2 (fun _=>bT) .nil aL))
  (aC (bU (aG G1 r3 rfl m1 k1 b1 .nil aL (aA (cX (aA (aU aX (pv 2) aF (fun _ _=>rfl)) (aA (aU aX (pv 2) aF (fun _ _=>rfl)) aB))) (aA (cN (pv 0) rfl) aB))))
  (aC (bU (aG G2 hr rfl m2 k2 b2 .nil aL (aA (aU aX (pv 2) aF (fun _ _=>rfl)) (aA (aU aX (pv 2) aF (fun _ _=>rfl)) aB))))
  (aC (cK (bM Og (cL bS rfl ml PySem.boot_len (aA (cN (pv 0) rfl) aB)) (dG (v:=.int 40) rfl mMR ⟨_,rfl⟩) (bO _)) (aH fR) bK)
  (aC (bU (vT PySem.F.plainAttrs_list PySem.F.slot_list_append PySem.F.type_list_append gO (cN (pv 0) rfl) (aA (pv 2) aB)))
  (aH (aZ (aY kU (cL bS rfl ml PySem.boot_len (aA (cN (pv 0) rfl) aB)) aF)))))))),?_⟩
 obtain⟨dr,hx⟩:=id rw;have len:=hR.length;refine⟨_,rfl,k,x,dr,_,rfl,hx,(fC _ _ _ (by decide +kernel) (by decide +kernel) (by decide +kernel)),x,k,_,_,_,rfl,rw,fun t ht=>?_⟩;have st:=aI ht (.tup [.str k.wd,.int i,.int j,.ref z]);have et:SqT K (upd H t (.tup [.str k.wd,.int i,.int j,.ref z])) t [.str k.wd,.int i,.int j,.ref z]:=SqT.of aD;generalize upd H t (.tup [.str k.wd,.int i,.int j,.ref z])=H1a at st et ⊢;have hn1:=st _ _ hn;have hl1:=st _ _ hl;refine⟨_,rfl,t,_,1,_,rfl,rfl,et,rfl,_,rfl,t,_,2,_,rfl,rfl,et,rfl,zl9 2,fun lq hlq=>?_⟩;have sq:=aI hlq (.lst [.int i,.int j]);have eq:upd H1a lq (.lst [.int i,.int j]) lq=some (.lst [.int i,.int j]):=aD;generalize upd H1a lq (.lst [.int i,.int j])=H1b at sq eq ⊢;have hnb:=sq _ _ hn1;refine⟨_,rfl,n,CN,dx,_,_,rfl,hnb,NTx.cl,NTx.nP,Ay _ _,lq,i,j,m,rfl,SqL.of eq,i0,i1,j0,j1,fun H1 sc=>?_⟩;have sqc:=sq.trans sc;have st:=st.trans sqc;have et:=sqc.seqT et;have hn1:=sqc _ _ hn1;have hl1:=sqc _ _ hl1;refine⟨_,rfl,t,_,0,_,rfl,rfl,et,rfl,_,rfl,t,_,3,_,rfl,rfl,et,rfl,k,z,p,rfl,st.fq fz,lp,h0,bp,?_⟩;refine⟨_,rfl,n,CN,dx,_,_,rfl,hn1,NTx.cl,NTx.nK,gF _ _,l,ts,rfl,.inl (SqL.of hl1),_,_,rfl,rfl,_,rfl,ifF (decide_eq_false (by omega)) ?_⟩;refine⟨_,rfl,n,CN,dx,_,_,rfl,hn1,NTx.cl,NTx.nK,gF _ _,.inl ⟨rfl,_,SqL.of hl1⟩,_,rfl,l,ts,.ref t,rfl,rfl,hl1,bH (by omega),?_⟩;have nn:n≠l:=jD hn1 hl1 (fun z=>by cases z);have hn2:upd H1 l (.lst (ts++[.ref t])) n=some (.ins CN dx (oT m l)):=by rw[aV nn];exact hn1
 have hl2:upd H1 l (.lst (ts++[.ref t])) l=some (.lst (ts++[.ref t])):=aD;refine⟨_,rfl,n,CN,dx,_,_,rfl,hn2,NTx.cl,NTx.nK,gF _ _,l,_,rfl,.inl (SqL.of hl2),_,_,rfl,rfl,?_⟩;show Q (.int (((ts++[V.ref t]).length:Int) - 1)) _;rw[List.length_append,List.length_singleton,len,show (((ds.length+1:Nat):Int) - 1)=(ds.length:Int) by omega];refine q _ (st.x.write) ⟨⟨dx,hn2⟩,_,hl2,Rts.upd hl1 ((hR.same st).app (.cons et (st.fq fz) .nil))⟩
abbrev mP:Stmt:=eV (top 44) 4
theorem Bg:aT ["self","k","size","old"] ["self","k","size"] (aE mP):=sK9 rfl rfl rfl rfl (by decide +kernel)
theorem Jo {dV:Value}{CN:Addr}(F:bZ K "change" "Net.change" mP dV f fd)(NTx:NT K mg CN)(ml:mg "len"=none)(G1:aM P w K mg base CX0 3 g1 gd1 ["k","count"] Yw)(b1:aQ K gd1 ["k","count"] [])(k1:kI9 K g1)(m1:mI9 mg "refuse_number" g1)(G2:aM P w K mg base CX0 4 g2 gd2 ["word","size"] (Xe K))(b2:aQ K gd2 ["word","size"] [])(k2:kI9 K g2)(m2:mI9 mg "refuse_size" g2):aM P w K mg base CX 5 f fd ["self","k","size"] (Av CN K):=by
 refine F.ok Bg (fun vs H Q E h=>?_) fun cdv A outer s H vs Q E hr h=>?_
 ·obtain⟨_,_,_,_,_,_,_,_,_,_,_,rfl,_⟩:=h;rfl
 obtain⟨n,l,z,m,q',ds,k,i,j,p0,p,rfl,⟨⟨dx,hn⟩,ts,hl,hR⟩,q0,hq,fz,lp,h0,bp,q⟩:=h;have r2:=hr.mono (show 3<=4 by omega);refine⟨_,(aC (bU (aG G1 r2 rfl m1 k1 b1 .nil aL (aA (pv 1) (aA (cL bS rfl ml PySem.boot_len (aA (cN (pv 0) rfl) aB)) aB))))
  (aC (aS (i:=3) Bg.nd rfl (Or.inl rfl) (aU bY (cN (pv 0) rfl) (pv 1) (fun _ _=>rfl)))
  (aC (bU (aG G2 hr rfl m2 k2 b2 .nil aL (aA (aU aX (pv 3) aF (fun _ _=>rfl)) (aA (pv 2) aB))))
  (aH (qF (dM (aA (aU aX (pv 3) aF (fun _ _=>rfl)) (aA (aU aX (pv 3) aF (fun _ _=>rfl)) (aA (aU aX (pv 3) aF (fun _ _=>rfl)) (aA (pv 2) aB))))) (uS (cN (pv 0) rfl) (pv 1) lM)))))),?_⟩
 have len:=hR.length;have lt:q'.toNat < ds.length:=(List.getElem?_eq_some_iff.mp hq).1;obtain⟨t,z0,et,ht,_⟩:=hR.at hq;have at_:atI ts q'=some (.ref t):=by
  have:=cI et
  rwa [show ((q'.toNat:Nat):Int)=q' by omega] at this
 have ix_:ixN ts.length q'=some q'.toNat:=by
  have:=oF (n:=ts.length) (k:=q'.toNat) (by omega)
  rwa [show ((q'.toNat:Nat):Int)=q' by omega] at this
 refine⟨_,rfl,_,rfl,n,CN,dx,_,_,rfl,hn,NTx.cl,NTx.nK,gF _ _,l,ts,rfl,.inl (SqL.of hl),q',_,rfl,q0,by omega,?_⟩;refine⟨_,rfl,n,CN,dx,_,_,rfl,hn,NTx.cl,NTx.nK,gF _ _,_,rfl,l,ts,q',_,rfl,rfl,SqL.of hl,at_,?_⟩;refine⟨_,rfl,t,_,0,_,rfl,rfl,ht,rfl,_,rfl,k,z,p,rfl,fz,lp,h0,bp,?_⟩;refine⟨_,rfl,t,_,0,_,rfl,rfl,ht,rfl,_,rfl,t,_,1,_,rfl,rfl,ht,rfl,_,rfl,t,_,2,_,rfl,rfl,ht,rfl,_,rfl,zl9 4,fun u hu=>?_⟩;have su:=aI hu (.tup [.str k.wd,.int i,.int j,.ref z]);have eu:SqT K (upd H u (.tup [.str k.wd,.int i,.int j,.ref z])) u [.str k.wd,.int i,.int j,.ref z]:=SqT.of aD;generalize upd H u (.tup [.str k.wd,.int i,.int j,.ref z])=H1 at su eu ⊢;have hn1:=su _ _ hn;have hl1:=su _ _ hl;refine⟨_,rfl,n,CN,dx,_,_,rfl,hn1,NTx.cl,NTx.nK,gF _ _,_,rfl,l,ts,q',q'.toNat,rfl,rfl,hl1,ix_,?_⟩;have nn:n≠l:=jD hn1 hl1 (fun z=>by cases z);refine q _ (su.x.write) ⟨⟨dx,by rw[aV nn];exact hn1⟩,_,aD,Rts.upd hl1 (Rts.set eu (su.fq fz) _ (hR.same su))⟩
theorem Qr:(["told"]:List Str).Nodup:=by decide +kernel
abbrev wN:Stmt:=eV (top 44) 5
theorem Ws:aT ["self"] ["self"] (aE wN):=sK9 rfl rfl rfl rfl (by decide +kernel)
theorem Tk {dV:Value}{CN:Addr}(F:bZ K "rows" "Net.rows" wN dV f fd)(NTx:NT K mg CN)(G1:aM P w K mg base CX0 3 g1 gd1 ["told"] (uK K CK))(b1:aQ K gd1 ["told"] [])(k1:kI9 K g1)(m1:mI9 mg "row_of" g1):aM P w K mg base CX 4 f fd ["self"] (vO CN K CK):=by
 refine F.ok Ws (fun vs H Q E h=>?_) fun cdv A outer s H vs Q E hr h=>?_
 ·obtain⟨_,_,_,_,rfl,_⟩:=h;rfl
 obtain⟨n,l,m,ds,rfl,⟨⟨dx,hn⟩,ts,hl,hR⟩,h100,q⟩:=h;refine⟨_,(aH (aZ (gL (nl:=1) (fr:=[]) (Nc:=["told"]) (cl:=[]) rfl ⟨rfl,rfl,by decide +kernel,by decide +kernel,fun x c h=>(by cases h),gD rfl,rfl,fun i n h=>(by simp at h)⟩
    (fB (cN (pv 0) rfl)) (fun C s3 H3 fp pins=>(bL (i:=0) Qr rfl (Or.inl rfl))) (fun C s3 H3 fp pins=>gK)
    (fun C s3 H3 fp pins=>(aG G1 hr rfl m1 k1 b1 .nil aL (aA (pv 0) aB)))))),?_⟩
 have len:=hR.length;refine⟨_,rfl,n,CN,dx,_,_,rfl,hn,NTx.cl,NTx.nK,gF _ _,l,rfl,⟨_,SqL.of hl⟩,fun D hD=>?_⟩;have sD:=aI hD (.lst []);refine gV (xs:=ts) (fun i zs H'=>bF H H'/\H' D=some (.lst zs)/\gU CK K H' zs (ds.take i)) ⟨sD,aD,.nil⟩ (fun i zs H' h=>h.2.1) (fun i zs H' _ h=>h.1.seq (SqL.of hl)) ?_ ?_
 ·rintro i zs x H1 hx ⟨s1,e1,R1⟩ C hC;have hi:i < ds.length:=by
   have:=(List.getElem?_eq_some_iff.mp hx).1;omega
  obtain⟨⟨k,u,v,p⟩,hd⟩:∃d,ds[i]?=some d:=⟨_,List.getElem?_eq_getElem hi⟩
  obtain⟨t,z,et,ht,fz⟩:=hR.at hd;have ex:x=.ref t:=by rw[et] at hx;exact(Option.some.inj hx).symm
  subst ex;have lz:=R1.length;rw[List.length_take] at lz;refine⟨gG.1,gG.2,fM ?_⟩;refine⟨_,rfl,t,_,_,_,_,rfl,s1.seqT ht,k,rfl,fun y H2 s2 ny rw=>?_⟩;have e2:=s2 _ _ e1;refine⟨e2,bH (by omega),hC _ _ ⟨(s1.trans s2).change hD,aD,?_⟩⟩;rw[List.take_add_one,hd];exact gU.upd e2 ((R1.same s2).app (.cons rw ((s1.trans s2).fq fz) .nil))
 ·rintro zs H1 ⟨s1,e1,R1⟩;rw[len,List.take_length] at R1;exact q D zs H1 s1 hD e1 R1
theorem Bm {g:Addr}{gd:FuncData}(F:aM P w K mg base CX0 2 g gd ["thing"] (Np K)):aM P w K mg base CX0 2 g gd ["thing"] (Nz K):=
 F.weak fun vs H Q E h=>by
  obtain⟨a,p,rfl,f,l,q⟩:=h;exact⟨_,some p,rfl,.fr f l,q⟩
abbrev qe0:Stmt:=top 21
abbrev wR:Stmt:=top 22
theorem Wz:aT ["one","other"] ["one","other"] (aE wR):=sK9 rfl rfl rfl rfl (by decide +kernel)
theorem Ty {dV:Value}(F:bZ K "over" "over" wR dV f fd)(G1:aM P w K mg base CX0 2 g1 gd1 ["top","bottom"] iO)(b1:aQ K gd1 ["top","bottom"] [])(k1:kI9 K g1)(m1:mI9 mg "fraction" g1) :
  aM P w K mg base CX 3 f fd ["one","other"] (zB K):=by
 refine F.ok Wz (fun vs H Q E h=>?_) fun cdv A outer s H vs Q E hr h=>?_
 ·obtain⟨_,_,_,_,_,_,rfl,_⟩:=h;rfl
 obtain⟨a,b,p,q,n,m,rfl,ha,hb,lp,lq,h0,bp,bq,hn,z⟩:=h;refine⟨_,(aC (cK (bM gH (aU aX (pv 1) aF (fun _ _=>rfl)) aF (bO _)) (aH fR) bK)
  (aH (aZ (aG G1 hr rfl m1 k1 b1 .nil aL (aA (aY cQ (aU aX (pv 0) aF (fun _ _=>rfl)) (aU aX (pv 1) aF (fun _ _=>rfl))) (aA (aY cQ (aU aX (pv 0) aF (fun _ _=>rfl)) (aU aX (pv 1) aF (fun _ _=>rfl))) aB)))))),?_⟩
 refine dU rfl hb ⟨rfl,_,rfl,?_⟩;rw[decide_eq_false (fun e=>absurd (show q.1=0 by injection e) (by omega))];refine dX ?_;refine dU rfl ha (cT rfl hb (cO bp.a bq.b (by omega) (by omega) ?_));exact cT rfl ha (dU rfl hb (cO bp.b bq.a (by omega) (by omega) ⟨_,_,n+m,rfl,Mq.pL lp (by omega),bp.b.mul bq.a,by omega,z⟩))
variable {CR:Addr} {CK:Kd->Addr} {fW fJ fT fS:Kd->Addr} {fdW fdJ fdT fdS:Kd->FuncData}
abbrev rH:Stmt:=top 65
theorem So:aT ["line","column","amount"] ["line","column","amount"] (aE rH):=sK9 rfl rfl rfl rfl (by decide +kernel)
theorem Ll {dV:Value}(F:bZ K "raise_at" "raise_at" rH dV f fd)(G1:aM P w K mg base CX0 3 g1 gd1 ["one","other"] (iV K Mq.fL))(b1:aQ K gd1 ["one","other"] [])(k1:kI9 K g1)(m1:mI9 mg "plus" g1) :
  aM P w K mg base CX 4 f fd ["line","column","amount"] (tQ K):=by
 refine F.ok So (fun vs H Q E h=>?_) fun cdv A outer s H vs Q E hr h=>?_
 ·obtain⟨_,_,_,_,_,_,_,_,rfl,_⟩:=h;rfl
 obtain⟨l,z,j,xs,ps,a,n,m,rfl,hl,hF,hj,p1,bp,fz,a1,ba,hn,q⟩:=h;refine⟨_,(aH (qF (aG G1 hr rfl m1 k1 b1 .nil aL (aA (aU bY (pv 0) (pv 1) (fun _ _=>rfl)) (aA (pv 2) aB))) (uS (pv 0) (pv 1) lM))),?_⟩;have lx:=hF.length;obtain⟨u,eu,fu⟩:=hF.at (xO hj);refine⟨_,rfl,_,rfl,l,xs,_,_,rfl,rfl,SqL.of hl,cI eu,_,rfl,u,z,_,a,n,m,rfl,fu,fz,p1,a1,bp,ba,hn,fun v H1 s1 e1=>?_⟩;exact⟨_,rfl,_,rfl,l,xs,_,j,rfl,rfl,s1 _ _ hl,oF (by omega),q v H1 s1 (Fq.of e1)⟩
abbrev qD:Stmt:=top 64
theorem Qm:aT ["matrix","row","column","amount"] ["matrix","row","column","amount"] (aE qD):=sK9 rfl rfl rfl rfl (by decide +kernel)
theorem Li {dV:Value}(F:bZ K "enter_stream" "enter_stream" qD dV f fd)(T:RT K mg CR CK){aN:Addr}(fN:∀H,Fq K H aN (0,1))(mNO:mI9 mg "NOUGHT" aN)(G1:aM P w K mg base CX0 4 g1 gd1 ["line","column","amount"] (tQ K))(b1:aQ K gd1 ["line","column","amount"] [])(k1:kI9 K g1)(m1:mI9 mg "raise_at" g1)(G2:aM P w K mg base CX0 3 g2 gd2 ["one","other"] (iV K Mq.minus))(b2:aQ K gd2 ["one","other"] [])(k2:kI9 K g2)(m2:mI9 mg "minus" g2) :
  aM P w K mg base CX 5 f fd ["matrix","row","column","amount"] (Aa K CK):=by
 refine F.ok Qm (fun vs H Q E h=>?_) fun cdv A outer s H vs Q E hr h=>?_
 ·obtain⟨_,_,_,_,_,_,_,_,_,_,_,_,rfl,_⟩:=h;rfl
 obtain⟨D,x,z,zz,as,M,⟨k0,u,v,p⟩,w,n,k,c,a,rfl,mx,mb,rw,pt,hc,fz,la,ba,hn,q⟩:=h;have r3:=hr.mono (show 3<=4 by omega);refine⟨_,(aC (bU (aG G1 hr rfl m1 k1 b1 .nil aL (aA (aU bY (pv 0) (cN (pv 1) rfl) (fun _ _=>rfl)) (aA (pv 2) (aA (pv 3) aB)))))
  (aH (bU (aG G1 hr rfl m1 k1 b1 .nil aL (aA (aU bY (pv 0) (cN (pv 1) rfl) (fun _ _=>rfl)) (aA (pv 2) (aA (aG G2 r3 rfl m2 k2 b2 .nil aL (aA (dG (v:=.ref aN) rfl mNO rfl) (aA (pv 3) aB))) aB))))))),?_⟩
 obtain⟨i0,i1,j0,j1⟩:dA (w:Int) u v:=pt;obtain⟨uN,rfl⟩:∃uN:Nat,u=(uN:Int):=⟨u.toNat,by omega⟩
 obtain⟨vN,rfl⟩:∃vN:Nat,v=(vN:Int):=⟨v.toNat,by omega⟩
 have hu':uN < w:=by omega
 have hv':vN < w:=by omega
 obtain⟨ln,bn,_⟩:=kR la ba;obtain⟨dx,hx⟩:=id rw;obtain⟨e1,m1,w1⟩:=mb.row hu';obtain⟨e2,l2,b2⟩:=mb.at hu' hc;have lam:=mx.la;obtain⟨a1,ha1⟩:∃a1,as[uN]?=some a1:=⟨_,List.getElem?_eq_getElem (by rw[lam,mb.h];exact hu')⟩
 obtain⟨xs,hxs,hF⟩:=mx.r uN a1 _ ha1 e1;have at1:atI (as.map V.ref) (uN:Int)=some (.ref a1):=cI (by rw[List.getElem?_map,ha1];rfl);refine⟨_,rfl,_,rfl,x,CK _,_,_,_,rfl,hx,T.cl _,T.nS _,dZ _ _ _,D,_,_,_,rfl,rfl,SqL.of mx.d,at1,_,rfl,_,rfl,a1,z,c,xs,_,a,n,k,rfl,hxs,hF,by rw[w1];exact hc,l2.pos,b2,fz,la.pos,ba,by omega,fun v1 H1 s1 f1=>?_⟩;obtain⟨mx2,sx2⟩:=mx.set (j:=c) ha1 e1 hxs hF s1 f1;have mb2:=mb.rz hu' hc la ba;generalize upd H1 a1 (.lst (xs.set c (.ref v1)))=H2 at mx2 sx2 ⊢;have mx2:Mx K H2 D as (rz M uN c a):=mx2;have ls:=mx.lsts;have fz2:Fq K H2 z a:=sx2.seqT ls fz;obtain⟨dx2,hx2⟩:=id (sx2.rw ls rw);obtain⟨e3,m3,w3⟩:=mb2.row hv';obtain⟨e4,l4,b4⟩:=mb2.at hv' hc;obtain⟨a2,ha2⟩:∃a2,as[vN]?=some a2:=⟨_,List.getElem?_eq_getElem (by rw[lam,mb.h];exact hv')⟩
 obtain⟨xs2,hxs2,hF2⟩:=mx2.r vN a2 _ ha2 e3;have at2:atI (as.map V.ref) (vN:Int)=some (.ref a2):=cI (by rw[List.getElem?_map,ha2];rfl);have b01:Mq.Bd 1 (0,1):=⟨show (0:Nat) < 2 ^ 1 by decide,show (1:Nat) < 2 ^ 1 by decide⟩
 refine⟨_,rfl,_,rfl,x,CK _,_,_,_,rfl,hx2,T.cl _,T.nG _,eX _ _ _,D,_,_,_,rfl,rfl,SqL.of mx2.d,at2,_,rfl,_,rfl,aN,z,(0,1),a,1,k,rfl,fN _,fz2,by decide,la.pos,b01,ba,by omega,fun v3 H3 s3 e5=>?_⟩;refine⟨a2,v3,c,xs2,_,_,n+k+1,k+2,rfl,s3 _ _ hxs2,hF2.same s3,by rw[w3];exact hc,l4.pos,b4,Fq.of e5,ln.pos,bn,by omega,fun v4 H4 s4 f4=>?_⟩;obtain⟨mx3,sx3⟩:=(mx2.same s3).set (j:=c) ha2 e3 (s3 _ _ hxs2) (hF2.same s3) s4 f4;exact q _ (sx2.trans (s3.sx.trans sx3)) mx3
abbrev mF:Stmt:=top 61
theorem Ch:aT ["matrix","row","share"] ["matrix","row"] (aE mF):=sK9 rfl rfl rfl rfl (by decide +kernel)
theorem Jz {dV:Value}(F:bZ K "enter_piece" "enter_piece" mF dV f fd)(T:RT K mg CR CK){aN aO:Addr}(fN:∀H,Fq K H aN (0,1))(mNO:mI9 mg "NOUGHT" aN)(fO:∀H,Fq K H aO (1,1))(mON:mI9 mg "ONE" aO)(G1:aM P w K mg base CX0 3 g1 gd1 ["one","other"] (zB K))(b1:aQ K gd1 ["one","other"] [])(k1:kI9 K g1)(m1:mI9 mg "over" g1)(G2:aM P w K mg base CX0 5 g2 gd2 ["matrix","row","column","amount"] (Aa K CK))(b2:aQ K gd2 ["matrix","row","column","amount"] [])(k2:kI9 K g2)(m2:mI9 mg "enter_stream" g2)(G3:aM P w K mg base CX0 3 g3 gd3 ["one","other"] (iV K Mq.minus))(b3:aQ K gd3 ["one","other"] [])(k3:kI9 K g3)(m3:mI9 mg "minus" g3) :
  aM P w K mg base CX 6 f fd ["matrix","row"] (Cq K CK):=by
 refine F.ok Ch (fun vs H Q E h=>?_) fun cdv A outer s H vs Q E hr h=>?_
 ·obtain⟨_,_,_,_,_,_,_,_,_,rfl,_⟩:=h;rfl
 obtain⟨D,x,zz,as,M,⟨k0,u,v,p⟩,w,n,k,rfl,mx,mb,rw,fp,pt,lp,p0,bp,hn,q⟩:=h;have r3:=hr.mono (show 3<=5 by omega);refine⟨_,(aC (aS (i:=2) Ch.nd rfl (Or.inl rfl) (aG G1 r3 rfl m1 k1 b1 .nil aL (aA (dG (v:=.ref aO) rfl mON rfl) (aA (cN (pv 1) rfl) aB))))
  (aC (bU (aG G2 hr rfl m2 k2 b2 .nil aL (aA (pv 0) (aA (pv 1) (aA (cN (pv 1) rfl) (aA (pv 2) aB))))))
  (aH (bU (aG G2 hr rfl m2 k2 b2 .nil aL (aA (pv 0) (aA (pv 1) (aA (cN (pv 1) rfl) (aA (aG G3 r3 rfl m3 k3 b3 .nil aL (aA (dG (v:=.ref aN) rfl mNO rfl) (aA (pv 2) aB))) aB))))))))),?_⟩
 have lp:Mq.Low p:=lp;have p0:0 < p.1:=p0;have bp:Mq.Bd k p:=bp;have fp:Fq K H zz p:=fp;obtain⟨i0,i1,j0,j1⟩:dA (w:Int) u v:=pt;obtain⟨uN,rfl⟩:∃uN:Nat,u=(uN:Int):=⟨u.toNat,by omega⟩
 obtain⟨vN,rfl⟩:∃vN:Nat,v=(vN:Int):=⟨v.toNat,by omega⟩
 obtain⟨ls,bs,_⟩:=Cr lp p0 bp;obtain⟨ln,bn,_⟩:=kR ls bs;have pt':dA (w:Int) (uN:Int) (vN:Int):=⟨i0,i1,j0,j1⟩
 obtain⟨dx,hx⟩:=id rw;refine⟨_,rfl,x,CK _,_,_,_,rfl,hx,T.cl _,T.nZ _,gR _ _ _,aO,zz,(1,1),p,1,k,rfl,fO _,fp,h11,lp.pos,p0,gP,bp,by omega,fun s' H1 s1 e1=>?_⟩;have fs:Fq K H1 s' (Mq.oE (1,1) p):=Fq.of e1;have rw1:=rw.same s1;obtain⟨dx1,hx1⟩:=id rw1;have mx1:=mx.same s1;refine⟨_,rfl,_,rfl,_,rfl,x,CK _,_,_,_,rfl,hx1,T.cl _,T.nS _,dZ _ _ _,_,rfl,D,x,s',_,as,M,(k0,(uN:Int),(vN:Int),p),w,n,k+1,uN,_,rfl,mx1,mb,rw1,pt',by omega,fs,ls,bs,by omega,fun H2 sx2 mx2=>?_⟩;have lst:=mx1.lsts;have fs2:Fq K H2 s' (Mq.oE (1,1) p):=sx2.seqT lst fs;have rw2:=sx2.rw lst rw1;obtain⟨dx2,hx2⟩:=id rw2;obtain⟨mb2,_⟩:=Ci (d:=(k0,(uN:Int),(vN:Int),p)) mb pt' (c:=uN) (by omega) ls bs;have b01:Mq.Bd 1 (0,1):=⟨show (0:Nat) < 2 ^ 1 by decide,show (1:Nat) < 2 ^ 1 by decide⟩
 refine⟨_,rfl,_,rfl,_,rfl,x,CK _,_,_,_,rfl,hx2,T.cl _,T.nG _,eX _ _ _,_,rfl,aN,s',(0,1),_,1,k+1,rfl,fN _,fs2,by decide,ls.pos,b01,bs,by omega,fun v3 H3 s3 e3=>?_⟩;refine⟨D,x,v3,_,as,_,(k0,(uN:Int),(vN:Int),p),w,n+2*(k+1)+4,k+3,vN,_,rfl,mx2.same s3,mb2,rw2.same s3,pt',by omega,Fq.of e3,ln,bn,by omega,fun H4 sx4 mx4=>?_⟩;exact q H4 (s1.sx.trans (sx2.trans (s3.sx.trans sx4))) mx4
abbrev mG:Stmt:=top 62
theorem Nm:aT ["right","row"] ["right","row"] (aE mG):=sK9 rfl rfl rfl rfl (by decide +kernel)
theorem Id {dV:Value}(F:bZ K "enter_push" "enter_push" mG dV f fd)(T:RT K mg CR CK){aN:Addr}(fN:∀H,Fq K H aN (0,1))(mNO:mI9 mg "NOUGHT" aN)(G1:aM P w K mg base CX0 4 g1 gd1 ["line","column","amount"] (tQ K))(b1:aQ K gd1 ["line","column","amount"] [])(k1:kI9 K g1)(m1:mI9 mg "raise_at" g1)(G2:aM P w K mg base CX0 3 g2 gd2 ["one","other"] (iV K Mq.minus))(b2:aQ K gd2 ["one","other"] [])(k2:kI9 K g2)(m2:mI9 mg "minus" g2) :
  aM P w K mg base CX 5 f fd ["right","row"] (tZ K CK):=by
 refine F.ok Nm (fun vs H Q E h=>?_) fun cdv A outer s H vs Q E hr h=>?_
 ·obtain⟨_,_,_,_,_,_,_,_,_,rfl,_⟩:=h;rfl
 obtain⟨R,x,zz,ys,rs,⟨k0,u,v,p⟩,w,n,k,rfl,eR,hF,lb,rw,fp,pt,lp,bp,hn,q⟩:=h;have r3:=hr.mono (show 3<=4 by omega);refine⟨_,(aC (bU (aG G1 hr rfl m1 k1 b1 .nil aL (aA (pv 0) (aA (cN (pv 1) rfl) (aA (aG G2 r3 rfl m2 k2 b2 .nil aL (aA (dG (v:=.ref aN) rfl mNO rfl) (aA (cN (pv 1) rfl) aB))) aB)))))
  (aH (bU (aG G1 hr rfl m1 k1 b1 .nil aL (aA (pv 0) (aA (cN (pv 1) rfl) (aA (cN (pv 1) rfl) aB))))))),?_⟩
 have lp:Mq.Low p:=lp;have bp:Mq.Bd k p:=bp;have fp:Fq K H zz p:=fp;obtain⟨i0,i1,j0,j1⟩:dA (w:Int) u v:=pt;obtain⟨uN,rfl⟩:∃uN:Nat,u=(uN:Int):=⟨u.toNat,by omega⟩
 obtain⟨vN,rfl⟩:∃vN:Nat,v=(vN:Int):=⟨v.toNat,by omega⟩
 obtain⟨ln,bn,_⟩:=kR lp bp;obtain⟨dx,hx⟩:=id rw;obtain⟨_,l1,b1⟩:=lb.at (j:=uN) (by omega);have b01:Mq.Bd 1 (0,1):=⟨show (0:Nat) < 2 ^ 1 by decide,show (1:Nat) < 2 ^ 1 by decide⟩
 refine⟨_,rfl,_,rfl,x,CK _,_,_,_,rfl,hx,T.cl _,T.nS _,dZ _ _ _,_,rfl,x,CK _,_,_,_,rfl,hx,T.cl _,T.nZ _,gR _ _ _,aN,zz,(0,1),p,1,k,rfl,fN _,fp,by decide,lp.pos,b01,bp,by omega,fun v1 H1 s1 e1=>?_⟩;refine⟨R,v1,uN,ys,rs,_,n,k+2,rfl,s1 _ _ eR,hF.same s1,by rw[lb.w];omega,l1.pos,b1,Fq.of e1,ln.pos,bn,by omega,fun v2 H2 s2 f2=>?_⟩;have s12:=s1.trans s2;have eR2:=s12 _ _ eR;have F3:=(Fqs.set f2 uN (hF.same s12)).upd (o:=.lst (ys.set uN (.ref v2))) eR2;have e3:upd H2 R (.lst (ys.set uN (.ref v2))) R=some (.lst (ys.set uN (.ref v2))):=aD;have sx3:SX [R] H (upd H2 R (.lst (ys.set uN (.ref v2)))):=s12.sx.write (by simp);have fp3:Fq K (upd H2 R (.lst (ys.set uN (.ref v2)))) zz p:=SqT.upd (s12.fq fp) eR2;have rw3:=(rw.same s12).upd (o:=.lst (ys.set uN (.ref v2))) eR2;generalize upd H2 R (.lst (ys.set uN (.ref v2)))=H3 at F3 e3 sx3 fp3 rw3 ⊢;have lb3:=lb.rz (j:=uN) (by omega) ln bn;have F3:Fqs K H3 (ys.set uN (.ref v2)) (rzl rs uN (Mq.minus (0,1) p)):=F3;obtain⟨_,l4,b4⟩:=lb3.at (j:=vN) (by omega);obtain⟨dx3,hx3⟩:=id rw3;refine⟨_,rfl,_,rfl,x,CK _,_,_,_,rfl,hx3,T.cl _,T.nG _,eX _ _ _,_,rfl,x,CK _,_,_,_,rfl,hx3,T.cl _,T.nZ _,gR _ _ _,R,zz,vN,_,_,p,n+(k+2)+1,k,rfl,e3,F3,by rw[lb3.w];omega,l4.pos,b4,fp3,lp.pos,bp,by omega,fun v5 H5 s5 f5=>?_⟩;refine q _ _ (sx3.trans (s5.sx.write (by simp))) aD ?_;exact(Fqs.set f5 vN (F3.same s5)).upd (s5 _ _ e3)
abbrev mO:Stmt:=top 63
theorem Ln:aT ["matrix","right","row","column"] ["matrix","right","row","column"] (aE mO):=sK9 rfl rfl rfl rfl (by decide +kernel)
theorem Kb {dV:Value}(F:bZ K "enter_hold" "enter_hold" mO dV f fd)(T:RT K mg CR CK){aN aO:Addr}(fN:∀H,Fq K H aN (0,1))(mNO:mI9 mg "NOUGHT" aN)(fO:∀H,Fq K H aO (1,1))(mON:mI9 mg "ONE" aO)(G1:aM P w K mg base CX0 5 g1 gd1 ["matrix","row","column","amount"] (Aa K CK))(b1:aQ K gd1 ["matrix","row","column","amount"] [])(k1:kI9 K g1)(m1:mI9 mg "enter_stream" g1)(G2:aM P w K mg base CX0 4 g2 gd2 ["line","column","amount"] (tQ K))(b2:aQ K gd2 ["line","column","amount"] [])(k2:kI9 K g2)(m2:mI9 mg "raise_at" g2)(G3:aM P w K mg base CX0 3 g3 gd3 ["one","other"] (iV K Mq.minus))(b3:aQ K gd3 ["one","other"] [])(k3:kI9 K g3)(m3:mI9 mg "minus" g3) :
  aM P w K mg base CX 6 f fd ["matrix","right","row","column"] (Cf K CK):=by
 refine F.ok Ln (fun vs H Q E h=>?_) fun cdv A outer s H vs Q E hr h=>?_
 ·obtain⟨_,_,_,_,_,_,_,_,_,_,_,_,rfl,_⟩:=h;rfl
 obtain⟨D,R,x,zz,as,M,ys,rs,⟨k0,u,v,p⟩,w,n,c,rfl,mx,mb,eR,hFR,lr,nRD,nRa,rw,fp,pt,hc,hn,q⟩:=h;have r3:=hr.mono (show 3<=5 by omega);have r4:=hr.mono (show 4<=5 by omega);refine⟨_,(aC (bU (aG G1 hr rfl m1 k1 b1 .nil aL (aA (pv 0) (aA (pv 2) (aA (pv 3) (aA (dG (v:=.ref aO) rfl mON rfl) aB))))))
  (aC (bU (aG G2 r4 rfl m2 k2 b2 .nil aL (aA (aU bY (pv 0) (pv 3) (fun _ _=>rfl)) (aA (cN (pv 2) rfl) (aA (dG (v:=.ref aO) rfl mON rfl) aB)))))
  (aC (bU (aG G2 r4 rfl m2 k2 b2 .nil aL (aA (aU bY (pv 0) (pv 3) (fun _ _=>rfl)) (aA (cN (pv 2) rfl) (aA (aG G3 r3 rfl m3 k3 b3 .nil aL (aA (dG (v:=.ref aN) rfl mNO rfl) (aA (dG (v:=.ref aO) rfl mON rfl) aB))) aB)))))
  (aH (qF (cN (pv 2) rfl) (uS (pv 1) (pv 3) lM)))))),?_⟩
 have fp:Fq K H zz p:=fp;obtain⟨i0,i1,j0,j1⟩:dA (w:Int) u v:=pt;obtain⟨uN,rfl⟩:∃uN:Nat,u=(uN:Int):=⟨u.toNat,by omega⟩
 obtain⟨vN,rfl⟩:∃vN:Nat,v=(vN:Int):=⟨v.toNat,by omega⟩
 have pt':dA (w:Int) (uN:Int) (vN:Int):=⟨i0,i1,j0,j1⟩
 obtain⟨ln,bn,_⟩:=kR gZ gP;have lam:=mx.la;refine⟨_,rfl,_,rfl,_,rfl,D,x,aO,_,as,M,(k0,(uN:Int),(vN:Int),p),w,n,1,c,(1,1),rfl,mx,mb,rw,pt',hc,fO _,gZ,gP,by omega,fun H1 sx1 mx1=>?_⟩;have lst:=mx.lsts;have rw1:=sx1.rw lst rw;have fp1:Fq K H1 zz p:=sx1.seqT lst fp;have eR1:=sx1 _ _ eR nRa;have FR1:=SX.fqs lst sx1 hFR;obtain⟨mb1,_⟩:=Ci (d:=(k0,(uN:Int),(vN:Int),p)) mb pt' hc gZ gP;generalize hM1:en M (k0,(uN:Int),(vN:Int),p) c (1,1)=M1 at mx1 mb1;obtain⟨ac,hac⟩:∃ac,as[c]?=some ac:=⟨_,List.getElem?_eq_getElem (by rw[lam,mb.h];exact hc)⟩
 have atc:atI (as.map V.ref) (c:Int)=some (.ref ac):=cI (by rw[List.getElem?_map,hac];rfl);obtain⟨e1,m1,w1⟩:=mb1.row hc;obtain⟨_,l2,b2⟩:=mb1.at hc (j:=uN) (by omega);obtain⟨xs,hxs,hF⟩:=mx1.r c ac _ hac e1;obtain⟨dx1,hx1⟩:=id rw1;refine⟨_,rfl,_,rfl,D,_,_,_,rfl,rfl,SqL.of mx1.d,atc,_,rfl,x,CK _,_,_,_,rfl,hx1,T.cl _,T.nS _,dZ _ _ _,ac,aO,uN,xs,_,(1,1),n+2*1+4,1,rfl,hxs,hF,by rw[w1];omega,l2.pos,b2,fO _,h11,gP,by omega,fun v1 H2 s2 f2=>?_⟩;obtain⟨mx3,sx3⟩:=mx1.set (j:=uN) hac e1 hxs hF s2 f2;have lst1:=mx1.lsts;generalize upd H2 ac (.lst (xs.set uN (.ref v1)))=H3 at mx3 sx3 ⊢;have mb3:=mb1.rz hc (j:=uN) (by omega) gZ gP;have mx3:Mx K H3 D as (rz M1 c uN (1,1)):=mx3;have rw3:=sx3.rw lst1 rw1;have fp3:Fq K H3 zz p:=sx3.seqT lst1 fp1;have eR3:=sx3 _ _ eR1 nRa;have FR3:=SX.fqs lst1 sx3 FR1;generalize hM3:rz M1 c uN (1,1)=M3 at mx3 mb3;obtain⟨e3,m3,w3⟩:=mb3.row hc;obtain⟨_,l4,b4⟩:=mb3.at hc (j:=vN) (by omega);obtain⟨xs3,hxs3,hF3⟩:=mx3.r c ac _ hac e3;obtain⟨dx3,hx3⟩:=id rw3;refine⟨_,rfl,_,rfl,D,_,_,_,rfl,rfl,SqL.of mx3.d,atc,_,rfl,x,CK _,_,_,_,rfl,hx3,T.cl _,T.nG _,eX _ _ _,aN,aO,(0,1),(1,1),1,1,rfl,fN _,fO _,by decide,h11,⟨show (0:Nat) < 2 ^ 1 by decide,show (1:Nat) < 2 ^ 1 by decide⟩,gP,by omega,fun v4 H4 s4 e4=>?_⟩;refine⟨ac,v4,vN,xs3,_,_,n+2*1+4+1+1,1+2,rfl,s4 _ _ hxs3,hF3.same s4,by rw[w3];omega,l4.pos,b4,Fq.of e4,ln.pos,bn,by omega,fun v5 H5 s5 f5=>?_⟩;obtain⟨mx6,sx6⟩:=(mx3.same s4).set (j:=vN) hac e3 (s4 _ _ hxs3) (hF3.same s4) s5 f5;have sx36:=(bF.sx (as:=as) s4).trans sx6;have lst3:=mx3.lsts;generalize upd H5 ac (.lst (xs3.set vN (.ref v5)))=H6 at mx6 sx6 sx36 ⊢;have mx6:Mx K H6 D as (rz M3 c vN (Mq.minus (0,1) (1,1))):=mx6;have rw6:=sx36.rw lst3 rw3;have fp6:Fq K H6 zz p:=sx36.seqT lst3 fp3;have eR6:=sx36 _ _ eR3 nRa;have FR6:=SX.fqs lst3 sx36 FR3;obtain⟨dx6,hx6⟩:=id rw6;have ly:=FR6.length;refine⟨_,rfl,x,CK _,_,_,_,rfl,hx6,T.cl _,T.nZ _,gR _ _ _,_,rfl,_,rfl,R,ys,_,c,rfl,rfl,eR6,oF (by omega),?_⟩;have eM:hM M (k0,(uN:Int),(vN:Int),p) c=rz M3 c vN (Mq.minus (0,1) (1,1)):=by rw[<- hM3,<- hM1];rfl
 have mx7:=mx6.other (o:=.lst (ys.set c (.ref zz))) eR6 nRD nRa;rw[<- eM] at mx7;refine q _ _ ?_ mx7 aD ((Fqs.set fp6 c FR6).upd eR6);refine SX.write (SX.mono (sx1.trans (sx3.trans sx36)) fun x hx=>List.mem_cons_of_mem _ hx) (by simp)
end
end K67
namespace L2
open PySem PySem.Spec PyProof.Rows
def kD (kb:Nat->Nat):Nat->Nat
 |0=>0
 |i+1=>kD kb i+(4*kb i+20)
theorem xW (kb:Nat->Nat){i:Nat}:∀{j:Nat},i<=j->kD kb i<=kD kb j
 |0,h=>by rw[Nat.le_zero.mp h];exact Nat.le_refl _
 |j+1,h=>by
  rcases Nat.eq_or_lt_of_le h with z | z
  ·rw[z];exact Nat.le_refl _
  ·have:=xW kb (i:=i) (j:=j) (by omega);show _<=kD kb j+(4*kb j+20)
   omega
def Od (CN:Addr)(K:Frag):Sp:=fun vs H Q _=>∃(n l:Addr) (m:Nat) (kb:Nat->Nat) (ds:List RD),vs=[.ref n]/\fY CN K H n l (m:Int) ds/\(∀i d,ds[i]?=some d->Ht (m:Int) d/\Mq.Bd (kb i) d.2.2.2)/\1<=m/\m<=20/\ds.length<=40/\kD kb ds.length+30<=8900/\
 ∀t p r us ys X Y H',bF H H'->H' t=some (.tup [.ref p,.ref r])->H p=none->H r=none->H' p=some (.lst us)->H' r=some (.lst ys)->Fms K H H' us X->Fqs K H' ys Y->(∀x∈us,x≠.ref p/\x≠.ref r)->Am m ds (kD kb ds.length+1) X Y->Q (.ref t) H'
end L2
namespace K67
open PySem L2
section
variable {P:Program} {w:World} {K:Frag} {mg:Str->Option Value} {base:Heap} {f g1 g2 g3 g4 g5 g6 g7 g8:Addr} {fd gd1 gd2 gd3 gd4 gd5 gd6 gd7 gd8:FuncData} {CX:CXT}
variable {CR:Addr} {CK:Kd->Addr} {fW fJ fT fS:Kd->Addr} {fdW fdJ fdT fdS:Kd->FuncData}
theorem oY {K:Frag}{H:Hp}{t:Addr}{p:Mq.Q2}(f:Fq K H t p):∀n,Fqs K H (List.replicate n (.ref t)) (List.replicate n p)
 |0=>.nil
 |n+1=>.cons f (oY f n)
theorem oC (x:V):∀n,(List.replicate n [x]).flatten=List.replicate n x
 |0=>rfl
 |n+1=>by rw[List.replicate_succ,List.flatten_cons,oC x n];rfl
theorem Kf (xs:List V)(k:Nat):mV xs (some (k:Int)) none=xs.drop k:=by
 unfold mV;have h1:HT.sIx xs.length xs.length none=xs.length:=rfl;have h2:HT.sIx xs.length 0 (some (k:Int))=min k xs.length:=by simp[HT.sIx];omega
 rw[h1,h2]
 by_cases h:k<=xs.length
 ·rw[Nat.min_eq_left h,List.take_of_length_le (by simp)]
 ·rw[Nat.min_eq_right (by omega),List.drop_of_length_le (Nat.le_refl _),List.drop_of_length_le (by omega)];simp
theorem Ev (xs:List V):mV xs (some 1) none=xs.drop 1:=Kf xs 1
theorem Ka {X:Cx}{K:Frag}(h:X.K=K):SlR X (Yk K):=by subst h;exact jZ
theorem uY (R:List Mq.Q2)(j:Nat):(R.drop 1).getD j (0,1)=R.getD (j+1) (0,1):=by
 rw[List.getD_eq_getElem?_getD,List.getElem?_drop,Nat.add_comm 1 j,List.getD_eq_getElem?_getD]
theorem Jc (M:List (List Mq.Q2))(i j:Nat):jI ((M.drop 1).map (List.drop 1)) i j=jI M (i+1) (j+1):=by
 have e:((M.drop 1).map (List.drop 1)).getD i []=(M.getD (i+1) []).drop 1:=by
  rw[List.getD_eq_getElem?_getD,List.getElem?_map,List.getElem?_drop,Nat.add_comm 1 i,List.getD_eq_getElem?_getD]
  cases M[i+1]?<;>rfl
 unfold jI;rw[e,uY]
theorem Mo {M:List (List Mq.Q2)}{w n:Nat}(b:MxB M w w n):MxB ((M.drop 1).map (List.drop 1)) (w - 1) (w - 1) n:=by
 refine⟨by rw[List.length_map,List.length_drop,b.h],fun ps hp=>?_,fun ps hp p hp'=>?_⟩
 ·obtain⟨qs,hq,rfl⟩:=List.mem_map.mp hp;rw[List.length_drop,b.w _ (List.mem_of_mem_drop hq)]
 ·obtain⟨qs,hq,rfl⟩:=List.mem_map.mp hp;exact b.l _ (List.mem_of_mem_drop hq) _ (List.mem_of_mem_drop hp')
theorem Mb {R:List Mq.Q2}{w n:Nat}(b:LnB R w n):LnB (R.drop 1) (w - 1) n:=⟨by rw[List.length_drop,b.w],fun p hp=>b.l p (List.mem_of_mem_drop hp)⟩
theorem Tv (w:Nat):MxB (List.replicate w (List.replicate w (0,1))) w w 1:=by
 refine⟨List.length_replicate,fun ps hp=>?_,fun ps hp p hp'=>?_⟩
 ·rw[List.eq_of_mem_replicate hp,List.length_replicate]
 ·rw[List.eq_of_mem_replicate hp] at hp';rw[List.eq_of_mem_replicate hp'];exact⟨⟨by decide,by decide⟩,⟨show (0:Nat) < 2 ^ 1 by decide,show (1:Nat) < 2 ^ 1 by decide⟩⟩
theorem rL (w j:Nat):(List.replicate w ((0,1):Mq.Q2)).getD j (0,1)=(0,1):=by
 rw[List.getD_eq_getElem?_getD]
 cases e:(List.replicate w ((0,1):Mq.Q2))[j]? with
 |none=>rfl
 |some p=>exact List.eq_of_mem_replicate (List.mem_of_getElem? e)
theorem On (w i j:Nat):jI (List.replicate w (List.replicate w (0,1))) i j=(0,1):=by
 have e:(List.replicate w (List.replicate w ((0,1):Mq.Q2))).getD i []=[]\/(List.replicate w (List.replicate w ((0,1):Mq.Q2))).getD i []=List.replicate w (0,1):=by
  rw[List.getD_eq_getElem?_getD]
  cases e:(List.replicate w (List.replicate w ((0,1):Mq.Q2)))[i]? with
  |none=>exact .inl rfl
  |some ps=>exact .inr (List.eq_of_mem_replicate (List.mem_of_getElem? e))
 unfold jI;rcases e with e | e
 ·rw[e];rfl
 ·rw[e];exact rL w j
theorem yO (w:Nat):LnB (List.replicate w (0,1)) w 1:=⟨List.length_replicate,fun p hp=>by
 rw[List.eq_of_mem_replicate hp];exact⟨⟨by decide,by decide⟩,⟨show (0:Nat) < 2 ^ 1 by decide,show (1:Nat) < 2 ^ 1 by decide⟩⟩⟩
theorem Nq {ds:List RD}(i:Nat):bQ (ds.take i)<=bQ ds:=by
 have h:bQ ds=bQ (ds.take i)+bQ (ds.drop i):=by
  unfold bQ eZ;rw[<- List.length_append,<- List.filter_append,List.take_append_drop]
 omega
theorem Uz:(["row"]:List Str).Nodup:=by decide +kernel
theorem wF:(["line","width"]:List Str).Nodup:=by decide +kernel
theorem Ry:(["line"]:List Str).Nodup:=by decide +kernel
theorem Fqs.drop1 {K:Frag}{H:Hp}:∀{xs:List V} {ps:List Mq.Q2},Fqs K H xs ps->Fqs K H (xs.drop 1) (ps.drop 1)
 |_,_,.nil=>.nil
 |_,_,.cons _ q=>q
abbrev Ki:Stmt:=top 60
theorem oN:aT ["net","rows","many","width","matrix","right","held","row"] ["net"] (aE Ki):=sK9 rfl rfl rfl rfl (by decide +kernel)
theorem Vu {dV:Value}(F:bZ K "equations" "equations" Ki dV f fd){CN:Addr}(NTx:NT K mg CN)(T:RT K mg CR CK)(ml:mg "len"=none)(mr:mg "range"=none){aN:Addr}(fN:∀H,Fq K H aN (0,1))(mNO:mI9 mg "NOUGHT" aN)(GW:∀k,aM P w K mg base CX0 1 (fW k) (fdW k) ["self"] (kP k))(bW:∀k,aQ K (fdW k) ["self"] [])(mW:∀k,iB K (CK k) "word" (fW k)){gRo:Addr}{gdRo:FuncData}(GRo:aM P w K mg base CX0 4 gRo gdRo ["self"] (vO CN K CK))(bRo:aQ K gdRo ["self"] [])(mRo:iB K CN "rows" gRo){gMa:Addr}{gdMa:FuncData}(GMa:aM P w K mg base CX0 1 gMa gdMa ["self"] (rC CN K))(bMa:aQ K gdMa ["self"] [])(mMa:iB K CN "many" gMa)(G1:aM P w K mg base CX0 6 g1 gd1 ["matrix","row"] (Cq K CK))(b1:aQ K gd1 ["matrix","row"] [])(k1:kI9 K g1)(m1:mI9 mg "enter_piece" g1)(G2:aM P w K mg base CX0 5 g2 gd2 ["right","row"] (tZ K CK))(b2:aQ K gd2 ["right","row"] [])(k2:kI9 K g2)(m2:mI9 mg "enter_push" g2)(G3:aM P w K mg base CX0 6 g3 gd3 ["matrix","right","row","column"] (Cf K CK))(b3:aQ K gd3 ["matrix","right","row","column"] [])(k3:kI9 K g3)(m3:mI9 mg "enter_hold" g3) :
  aM P w K mg base CX 7 f fd ["net"] (Od CN K):=by
 refine F.ok oN (fun vs H Q E h=>?_) fun cdv A outer s H vs Q E hr h=>?_
 ·obtain⟨_,_,_,_,_,rfl,_⟩:=h;rfl
 obtain⟨n,l,m,kb,ds,rfl,nt,hK,hm1,hm20,h40,hbig,q⟩:=h;have r1:=hr.mono (show 1<=6 by omega);have r4:=hr.mono (show 4<=6 by omega);have r5:=hr.mono (show 5<=6 by omega);refine⟨_,(aC (aS (i:=1) oN.nd rfl (Or.inl rfl) (gB (pv 0) NTx.cl mRo GRo r4 bRo .nil aL))
  (aC (aS (i:=2) oN.nd rfl (Or.inl rfl) (gB (pv 0) NTx.cl mMa GMa r1 bMa .nil aL))
  (aC (aS (i:=3) oN.nd rfl (Or.inr rfl) (aY dP (pv 2) (cL bS rfl ml PySem.boot_len (aA (gL (nl:=1) (fr:=[]) (Nc:=["row"]) (cl:=[]) rfl ⟨rfl,rfl,by decide +kernel,by decide +kernel,fun x c h=>(by cases h),gD rfl,rfl,fun i n h=>(by simp at h)⟩
    (fB (pv 1)) (fun C s3 H3 fp pins=>(bL (i:=0) Uz rfl (Or.inl rfl))) (fun C s3 H3 fp pins=>(tU (bM gH (fZ (pv 0) T.cl mW GW r1 bW .nil aL) cW (bO _))))
    (fun C s3 H3 fp pins=>(pv 0))) aB))))
  (aC (tT (i:=4) (nl:=1) (fr:=[3]) (Nc:=["line","width"]) (cl:=[("width",s.heap.objs.size+1)]) oN.nd rfl rfl rfl ⟨rfl,rfl,by decide +kernel,by decide +kernel,fun x c h=>h,gD rfl,rfl,fun i n h=>match i,h with | 0,h=>by cases h;exact⟨3,rfl,rfl,rfl,rfl,.inl rfl⟩ | k+1,h=>by rw[show 1+(k+1)=k+2 by omega] at h;cases h⟩
    (iK rfl mr (aA (pv 3) aB)) (fun C s3 H3 fp pins=>(bL (i:=0) wF rfl (Or.inl rfl))) (fun C s3 H3 fp pins=>gK)
    (fun C s3 H3 fp pins=>(aY Dx (cX (aA (dG (v:=.ref aN) rfl mNO rfl) aB)) (pv 1))) rfl)
  (aC (aS (i:=5) oN.nd rfl (Or.inl rfl) (aY Dx (cX (aA (dG (v:=.ref aN) rfl mNO rfl) aB)) (pv 3)))
  (aC (aS (i:=6) oN.nd rfl (Or.inl rfl) (pv 2))
  (aC (gA PassesOwn.never rfl (fB (pv 1)) (bL (i:=7) oN.nd rfl (Or.inl rfl))
   (aH (cK (bM gH (fZ (pv 7) T.cl mW GW r1 bW .nil aL) cW (bO _)) (aH (bU (aG G1 hr rfl m1 k1 b1 .nil aL (aA (pv 4) (aA (pv 7) aB))))) (aH (cK (bM gH (fZ (pv 7) T.cl mW GW r1 bW .nil aL) cW (bO _)) (aH (bU (aG G2 r5 rfl m2 k2 b2 .nil aL (aA (pv 5) (aA (pv 7) aB))))) (aC (bU (aG G3 hr rfl m3 k3 b3 .nil aL (aA (pv 4) (aA (pv 5) (aA (pv 7) (aA (pv 6) aB))))))
  (aH (Nh (i:=6) oN.nd rfl (Or.inl rfl) aF Pj))))))))
  (aH (aZ (dM (aA (gL (nl:=1) (fr:=[]) (Nc:=["line"]) (cl:=[]) rfl ⟨rfl,rfl,by decide +kernel,by decide +kernel,fun x c h=>(by cases h),gD rfl,rfl,fun i n h=>(by simp at h)⟩
    (fB (iS jZ (pv 4) (iE aF) oI)) (fun C s3 H3 fp pins=>(bL (i:=0) Ry rfl (Or.inl rfl))) (fun C s3 H3 fp pins=>gK)
    (fun C s3 H3 fp pins=>(iS (Ka (K:=K) rfl) (pv 0) (iE aF) oI))) (aA (iS jZ (pv 5) (iE aF) oI) aB)))))))))))),?_⟩
 obtain⟨dx,hn⟩:=nt.ob;refine⟨_,rfl,n,dx,_,rfl,hn,eT _ _ (by decide +kernel) (by decide +kernel),n,l,_,ds,rfl,nt,by omega,fun a xs H1 s1 na ea Rb=>?_⟩;have lxs:=Rb.length;obtain⟨dx1,hn1⟩:=(nt.same s1).ob;refine⟨_,rfl,n,dx1,_,rfl,hn1,eT _ _ (by decide +kernel) (by decide +kernel),n,l,_,ds,rfl,nt.same s1,?_⟩;refine⟨_,rfl,_,rfl,a,rfl,⟨_,SqL.of ea⟩,fun C0 hC0=>?_⟩;have sC0:=aI hC0 (.lst []);refine gV (xs:=xs) (fun i zs H'=>bF H1 H'/\H' C0=some (.lst zs)/\zs.length=bQ (ds.take i)) ⟨sC0,aD,rfl⟩ (fun i zs H' h=>h.2.1) (fun i zs H' _ h=>h.1.seq (SqL.of ea)) ?_ ?_
 ·rintro i zs x H2 hx ⟨s2,e2,lz⟩ C hC;have hi:i < ds.length:=by
   have:=(List.getElem?_eq_some_iff.mp hx).1;omega
  obtain⟨⟨k0,u,v,p⟩,hd⟩:∃d,ds[i]?=some d:=⟨_,List.getElem?_eq_getElem hi⟩
  obtain⟨y,z,ey,rw,fz⟩:=Rb.at hd;have ex:x=.ref y:=by rw[ey] at hx;exact(Option.some.inj hx).symm
  subst ex;obtain⟨dr,hy⟩:=id (rw.same s2);have et:ds.take (i+1)=ds.take i++[(k0,u,v,p)]:=by rw[List.take_add_one,hd];rfl
  have lh:=Nq (ds:=ds) i;have lh2:bQ ds<=ds.length:=List.length_filter_le _ _;refine⟨gG.1,gG.2,?_⟩;refine⟨_,rfl,k0,y,dr,_,rfl,hy,(fC _ _ _ (by decide +kernel) (by decide +kernel) (by decide +kernel)),_,rfl,rfl,_,rfl,?_⟩
  by_cases hk:k0=.ho
  ·refine ifT (by show decide (V.str k0.wd=V.str Kd.ho.wd)=true;rw[eY];exact decide_eq_true hk) ⟨_,rfl,e2,bH (by omega),hC _ _ ⟨s2.change hC0,aD,?_⟩⟩;rw[et,iN,List.length_append,lz];show _+1=_+bN k0;unfold bN;rw[if_pos hk]
  ·refine ifF (by show decide (V.str k0.wd=V.str Kd.ho.wd)=false;rw[eY];exact decide_eq_false hk) (hC _ _ ⟨s2,e2,?_⟩);rw[et,iN,lz];show _=_+bN k0;unfold bN;rw[if_neg hk];rfl
 rintro zs0 H2 ⟨s2,e2,lz0⟩;rw[lxs,List.take_length] at lz0;refine⟨C0,zs0,rfl,.inl (SqL.of e2),_,_,rfl,rfl,?_⟩;obtain⟨W,hW⟩:∃W:Nat,W=m+bQ ds:=⟨_,rfl⟩
 have lh2:bQ ds<=ds.length:=List.length_filter_le _ _;have eW:(m:Int)+(zs0.length:Int)=(W:Int):=by rw[lz0,hW];omega
 show fK _ _ _ [some (.ref n),some (.ref a),some (.int (m:Int)),some (.int ((m:Int)+(zs0.length:Int))),none,none,none,none] H2;rw[eW];have hW60:W<=60:=by omega
 have hmW:m<=W:=by omega
 have s12:=s2;clear e2 sC0;refine⟨_,rfl,(W:Int),rfl,by omega,by omega,fun D hD=>?_⟩;rw[Int.toNat_natCast];have sD:=aI hD (.lst []);refine nT (n:=W) (fun i zs H'=>bF H2 H'/\H' D=some (.lst zs)/\∃as:List Addr,zs=as.map V.ref/\as.length=i/\as.Nodup/\D∉as/\(∀b∈as,H2 b=none)/\∀b∈as,H' b=some (.lst (List.replicate W (.ref aN)))) ⟨sD,aD,[],rfl,rfl,List.nodup_nil,(by simp),(fun b hb=>by cases hb),(fun b hb=>by cases hb)⟩ (fun i zs H' h=>h.2.1) ?_ ?_
 ·rintro i zs H3 hi ⟨s3,e3,as,rfl,la,nd,nD,fr,al⟩ C hC;refine⟨gG.1,gG.2,fM ?_⟩;refine⟨zl9 1,fun l1 hl1=>?_⟩;have s4:=aI hl1 (.lst [.ref aN]);have e4:upd H3 l1 (.lst [.ref aN]) l1=some (.lst [.ref aN]):=aD;generalize upd H3 l1 (.lst [.ref aN])=H4 at s4 e4 ⊢;refine⟨_,rfl,l1,(W:Int),[.ref aN],rfl,rfl,e4,by omega,by omega,?_,fun b hb=>?_⟩
  ·rw[Int.toNat_natCast,sizeLine_eq];simp only[List.length_cons,List.length_nil];omega
  rw[Int.toNat_natCast,oC];have s5:=aI hb (.lst (List.replicate W (.ref aN)));have e5:upd H4 b (.lst (List.replicate W (.ref aN))) b=some (.lst (List.replicate W (.ref aN))):=aD;generalize upd H4 b (.lst (List.replicate W (.ref aN)))=H5 at s5 e5 ⊢;have s35:=s4.trans s5;have e35:=s35 _ _ e3;have nbD:b≠D:=Ne.symm (bC (s4 _ _ e3) hb);have nba:b∉as:=fun z=>by rw[s4 _ _ (al b z)] at hb;cases hb
  refine⟨e35,bH (by rw[List.length_map];omega),hC _ _ ⟨(s3.trans s35).change hD,aD,as++[b],by rw[List.map_append];rfl,by rw[List.length_append,la];rfl,?_,?_,fun c hc=>?_,fun c hc=>?_⟩⟩
  ·rw[List.nodup_append];refine⟨nd,by simp,fun x hx y hy z=>?_⟩;have:y=b:=by simpa using hy
   exact nba (by rw[<- this,<- z];exact hx)
  ·intro z;rcases List.mem_append.mp z with z | z
   ·exact nD z
   ·have:D=b:=by simpa using z
    exact nbD this.symm
  ·rcases List.mem_append.mp hc with z | z
   ·exact fr c z
   ·have:c=b:=by simpa using z
    rw[this];exact(s3.trans s4).free hb
  ·rcases List.mem_append.mp hc with z | z
   ·rw[aV (fun y=>nD (by rw[<- y];exact z))];exact s35 _ _ (al c z)
   ·have:c=b:=by simpa using z
    rw[this,aV nbD];exact e5
 rintro zs3 H3 ⟨s3,e3,as,rfl,la,nd,nD,fr,al⟩;have mx3:Mx K H3 D as (List.replicate W (List.replicate W (0,1))):=⟨e3,nd,nD,by rw[la,List.length_replicate],fun i b ps h1 h2=>by
  rw[List.eq_of_mem_replicate (List.mem_of_getElem? h2)];exact⟨_,al b (List.mem_of_getElem? h1),oY (fN _) W⟩⟩
 have nDH:H2 D=none:=hD;refine⟨zl9 1,fun l1 hl1=>?_⟩;have s4:=aI hl1 (.lst [.ref aN]);have e4:upd H3 l1 (.lst [.ref aN]) l1=some (.lst [.ref aN]):=aD;generalize upd H3 l1 (.lst [.ref aN])=H4 at s4 e4 ⊢;refine⟨_,rfl,l1,(W:Int),[.ref aN],rfl,rfl,e4,by omega,by omega,?_,fun R hR=>?_⟩
 ·rw[Int.toNat_natCast,sizeLine_eq];simp only[List.length_cons,List.length_nil];omega
 rw[Int.toNat_natCast,oC];have s5:=aI hR (.lst (List.replicate W (.ref aN)));have e5:upd H4 R (.lst (List.replicate W (.ref aN))) R=some (.lst (List.replicate W (.ref aN))):=aD;generalize upd H4 R (.lst (List.replicate W (.ref aN)))=H5 at s5 e5 ⊢;have s25:=s3.trans (s4.trans s5);have nRH:H2 R=none:=(s3.trans s4).free hR;have nRD:R≠D:=Ne.symm (bC ((s4) _ _ mx3.d) hR);have nRa:R∉as:=fun z=>by rw[s4 _ _ (al R z)] at hR;cases hR
 have mx5:=(mx3.same s4).same s5;have allN:∀b∈R :: as,H2 b=none:=fun b hb=>by
  rcases List.mem_cons.mp hb with z | z
  ·rw[z];exact nRH
  ·exact fr b z
 have F5:Fqs K H5 (List.replicate W (.ref aN)) (List.replicate W (0,1)):=oY (fN _) W;refine⟨_,rfl,?_⟩;have eaH:=s12 _ _ ea;have Rb2:=Rb.same s12;refine⟨_,rfl,a,rfl,⟨_,SqL.of (s25 _ _ eaH)⟩,?_⟩;refine hV (xs:=xs) (fun i σ H'=>bF H2 H'/\∃(M:List (List Mq.Q2)) (ys:List V) (rs:List Mq.Q2) (z7:Option V),σ=[some (.ref n),some (.ref a),some (.int (m:Int)),some (.int (W:Int)),some (.ref D),some (.ref R),some (.int ((m+bQ (ds.take i):Nat):Int)),z7]/\Mx K H' D as M/\MxB M W W (kD kb i+1)/\H' R=some (.lst ys)/\Fqs K H' ys rs/\LnB rs W (kD kb i+1)/\(∀x y,Mq.val (jI M x y)=eqM m (ds.take i) x y)/\∀x,Mq.val (rs.getD x (0,1))=eqR m (ds.take i) x) ⟨s25,_,_,_,none,rfl,mx5,Tv W,e5,F5,yO W,fun x y=>by rw[On,Mq.pF];rfl,fun x=>by rw[rL,Mq.pF];rfl⟩ (fun i σ H' _ h=>h.1.seq (SqL.of eaH)) ?_ ?_
 ·rintro i x σ H6 hx ⟨s6,M,ys,rs,z7,rfl,mx,mb,eR,FR,lb,vM,vR⟩;have hi:i < ds.length:=by
   have:=(List.getElem?_eq_some_iff.mp hx).1;omega
  obtain⟨⟨k0,u,v,p⟩,hd⟩:∃d,ds[i]?=some d:=⟨_,List.getElem?_eq_getElem hi⟩
  obtain⟨y,z,ey,rw0,fz0⟩:=Rb2.at hd;have ex:x=.ref y:=by rw[ey] at hx;exact(Option.some.inj hx).symm
  subst ex;obtain⟨rd,bp⟩:=hK i _ hd;have lp:Mq.Low p:=rd.2.2.2.2.1;have bp:Mq.Bd (kb i) p:=bp;have ptm:dA (m:Int) u v:=⟨rd.1,rd.2.1,rd.2.2.1,rd.2.2.2.1⟩
  have ptW:dA (W:Int) u v:=⟨rd.1,by have:=rd.2.1;show u < (W:Int);have h2:u < (m:Int):=this;omega,rd.2.2.1,by have h2:v < (m:Int):=rd.2.2.2.1;show v < (W:Int);omega⟩
  have rw6:=rw0.same s6;have fz6:Fq K H6 z p:=s6.fq fz0;obtain⟨dr,hy⟩:=id rw6;have et:ds.take (i+1)=ds.take i++[(k0,u,v,p)]:=by rw[List.take_add_one,hd];rfl
  have hh:=Nq (ds:=ds) (i+1);rw[et,iN] at hh;have hh:bQ (ds.take i)+bN k0<=bQ ds:=hh;have eN:kD kb (i+1)+1=(kD kb i+1)+(4*kb i+20):=by show kD kb i+(4*kb i+20)+1=_;omega
  have leN:kD kb i+(4*kb i+20)<=kD kb ds.length:=xW kb (i:=i+1) hi;have eM:∀x y,eqM m (ds.take (i+1)) x y=eqM m (ds.take i) x y+cM (k0,u,v,p) (m+bQ (ds.take i)) x y:=fun x y=>by rw[et,Bv]
  have eRr:∀x,eqR m (ds.take (i+1)) x=eqR m (ds.take i) x+cR (k0,u,v,p) (m+bQ (ds.take i)) x:=fun x=>by rw[et,Bc]
  have eH:bQ (ds.take (i+1))=bQ (ds.take i)+bN k0:=by rw[et,iN]
  rw[eN,eH];have lst:=mx.lsts
  cases k0 with
  |pc=>
   have p0:0 < p.1:=rd.2.2.2.2.2.1 rfl;refine⟨_,rfl,Kd.pc,y,dr,_,rfl,hy,(fC _ _ _ (by decide +kernel) (by decide +kernel) (by decide +kernel)),_,rfl,rfl,_,rfl,ifT (by show decide (V.str Kd.pc.wd=V.str Kd.pc.wd)=true;rw[eY];rfl) ?_⟩;refine⟨_,rfl,_,rfl,D,y,z,as,M,(.pc,u,v,p),W,kD kb i+1,kb i,rfl,mx,mb,rw6,fz6,ptW,lp,p0,bp,by omega,fun H7 sx7 mx7=>?_⟩;obtain⟨mb7,v7⟩:=Zu (d:=(.pc,u,v,p)) (h:=m+bQ (ds.take i)) mb ptm hmW rfl lp p0 bp;have eR7:=sx7 _ _ eR nRa;refine⟨SX.same s6 sx7 fr,_,ys,rs,_,rfl,mx7,mb7.mono (by omega),eR7,SX.fqs lst sx7 FR,lb.mono (by omega),fun x y=>by rw[v7,vM,eM],fun x=>?_⟩;rw[vR,eRr];show _=_+(0:Rat)
   rw[Rat.add_zero]
  |pu=>
   refine⟨_,rfl,Kd.pu,y,dr,_,rfl,hy,(fC _ _ _ (by decide +kernel) (by decide +kernel) (by decide +kernel)),_,rfl,rfl,_,rfl,ifF (by show decide (V.str Kd.pu.wd=V.str Kd.pc.wd)=false;rw[eY];rfl) ?_⟩;refine⟨_,rfl,Kd.pu,y,dr,_,rfl,hy,(fC _ _ _ (by decide +kernel) (by decide +kernel) (by decide +kernel)),_,rfl,rfl,_,rfl,ifT (by show decide (V.str Kd.pu.wd=V.str Kd.pu.wd)=true;rw[eY];rfl) ?_⟩;refine⟨_,rfl,_,rfl,R,y,z,ys,rs,(.pu,u,v,p),W,kD kb i+1,kb i,rfl,eR,FR,lb,rw6,fz6,ptW,lp,bp,by omega,fun ys' H7 sx7 eR7 F7=>?_⟩;obtain⟨lb7,v7⟩:=Us (d:=(.pu,u,v,p)) (h:=m+bQ (ds.take i)) lb ptm hmW rfl lp bp;have mx7:Mx K H7 D as M:=⟨sx7 _ _ mx.d (by simp;exact Ne.symm nRD),mx.n,mx.nd,mx.la,fun i' b ps h1 h2=>by
    obtain⟨ws,h,f⟩:=mx.r i' b ps h1 h2;refine⟨ws,sx7 _ _ h (by simp;exact fun z=>nRa (by rw[<- z];exact List.mem_of_getElem? h1)),SX.fqs (as:=[R]) (fun c hc=>?_) sx7 f⟩;have:c=R:=by simpa using hc
    exact⟨ys,by rw[this];exact eR⟩⟩
   refine⟨SX.same s6 sx7 (fun c hc=>by have:c=R:=(by simpa using hc);rw[this];exact nRH),M,ys',_,_,rfl,mx7,mb.mono (by omega),eR7,F7,lb7.mono (by omega),fun x y=>?_,fun x=>by rw[v7,vR,eRr]⟩;rw[vM,eM];show _=_+(0:Rat)
   rw[Rat.add_zero]
  |ho=>
   have hc1:bN Kd.ho=1:=rfl;rw[hc1] at hh;have hcW:m+bQ (ds.take i) < W:=by omega
   refine⟨_,rfl,Kd.ho,y,dr,_,rfl,hy,(fC _ _ _ (by decide +kernel) (by decide +kernel) (by decide +kernel)),_,rfl,rfl,_,rfl,ifF (by show decide (V.str Kd.ho.wd=V.str Kd.pc.wd)=false;rw[eY];rfl) ?_⟩;refine⟨_,rfl,Kd.ho,y,dr,_,rfl,hy,(fC _ _ _ (by decide +kernel) (by decide +kernel) (by decide +kernel)),_,rfl,rfl,_,rfl,ifF (by show decide (V.str Kd.ho.wd=V.str Kd.pu.wd)=false;rw[eY];rfl) ?_⟩;refine⟨_,rfl,_,rfl,_,rfl,_,rfl,D,R,y,z,as,M,ys,rs,(.ho,u,v,p),W,kD kb i+1,m+bQ (ds.take i),rfl,mx,mb,eR,FR,lb.w,nRD,nRa,rw6,fz6,ptW,hcW,by omega,fun ys' H7 sx7 mx7 eR7 F7=>?_⟩;obtain⟨mb7,v7⟩:=Ye (d:=(.ho,u,v,p)) mb ptm hmW hcW rfl;have z0:Mq.val (rs.getD (m+bQ (ds.take i)) (0,1))=0:=by
    rw[vR];exact xJ (m:=m) _ _ _ (fun d hd'=>by
     obtain⟨i1,hi1⟩:=List.getElem?_of_mem (List.mem_of_mem_take hd');have:=(hK i1 d hi1).1;exact⟨this.1,this.2.1,this.2.2.1,this.2.2.2.1⟩) (Nat.le_refl _) (Nat.le_refl _)
   obtain⟨lb7,w7⟩:=Zx (m:=m) (d:=(.ho,u,v,p)) lb hcW rfl lp bp z0;refine⟨_,rfl,_,_,rfl,rfl,?_⟩;refine⟨SX.same s6 sx7 allN,_,ys',_,some (.ref y),?_,mx7,mb7.mono (by omega),eR7,F7,lb7.mono (by omega),fun x y=>by rw[v7,vM,eM],fun x=>by rw[w7,vR,eRr]⟩;have e1:((m+bQ (ds.take i):Nat):Int)+1=((m+(bQ (ds.take i)+bN Kd.ho):Nat):Int):=by rw[hc1];omega
   rw[<- e1];rfl
 rintro σ H6 ⟨s6,M,ys,rs,z7,rfl,mx,mb,eR,FR,lb,vM,vR⟩;rw[lxs] at mb lb vM vR;rw[List.take_length] at vM vR;refine⟨_,rfl,1,rfl,D,_,rfl,SqL.of mx.d,fun C hC=>?_⟩;rw[Ev];have s7:=aI hC (.lst ((as.map V.ref).drop 1));have e7:upd H6 C (.lst ((as.map V.ref).drop 1)) C=some (.lst ((as.map V.ref).drop 1)):=aD;generalize upd H6 C (.lst ((as.map V.ref).drop 1))=H7 at s7 e7 ⊢;have mx7:=mx.same s7;refine⟨C,rfl,⟨_,SqL.of e7⟩,fun P hP=>?_⟩;have sP:=aI hP (.lst []);refine gV (xs:=(as.map V.ref).drop 1) (fun i zs H'=>bF H7 H'/\H' P=some (.lst zs)/\Fms K H7 H' zs (((M.drop 1).map (List.drop 1)).take i)/\∀x∈zs,x≠.ref P) ⟨sP,aD,⟨rfl,fun i x ps h=>by simp at h⟩,fun x hx=>by cases hx⟩ (fun i zs H' h=>h.2.1) (fun i zs H' _ h=>h.1.seq (SqL.of e7)) ?_ ?_
 ·rintro i zs x H8 hx ⟨s8,e8,fm,nP⟩ C' hC';rw[List.getElem?_drop,List.getElem?_map] at hx;obtain⟨b,hb,rfl⟩:=Option.map_eq_some_iff.mp hx;have bl':=(List.getElem?_eq_some_iff.mp hb).1;have hM1:1+i < M.length:=by rw[<- mx.la];exact bl'
  obtain⟨ws,hws,fws⟩:=(mx7.same s8).r (1+i) b M[1+i] hb (List.getElem?_eq_getElem hM1);have lz:=fm.l;rw[List.length_take,List.length_map,List.length_drop] at lz;have hM60:M.length<=60:=by rw[mb.h];exact hW60
  refine⟨gG.1,gG.2,fM ?_⟩;refine⟨_,rfl,1,rfl,b,_,rfl,SqL.of hws,fun c hc=>?_⟩;rw[Ev];have s9:=aI hc (.lst (ws.drop 1));have e9:upd H8 c (.lst (ws.drop 1)) c=some (.lst (ws.drop 1)):=aD;generalize upd H8 c (.lst (ws.drop 1))=H9 at s9 e9 ⊢;have e89:=s9 _ _ e8;have ncP:c≠P:=Ne.symm (bC e8 hc);refine⟨e89,bH (by omega),hC' _ _ ⟨(s8.trans s9).change hP,aD,⟨?_,fun j y ps h1 h2=>?_⟩,fun y hy=>?_⟩⟩
  ·rw[List.length_append,List.length_take,List.length_map,List.length_drop];simp only[List.length_cons,List.length_nil];omega
  ·have ee:((M.drop 1).map (List.drop 1))[i]?=some (M[1+i].drop 1):=by rw[List.getElem?_map,List.getElem?_drop,List.getElem?_eq_getElem hM1];rfl
   rw[List.take_add_one,ee] at h2
   by_cases hj:j < zs.length
   ·rw[List.getElem?_append_left hj] at h1;rw[List.getElem?_append_left (by rw[<- fm.l];exact hj)] at h2;obtain⟨a',xs',q1,q2,q3,q4⟩:=fm.r j y ps h1 h2;have na:a'≠P:=fun z=>nP y (List.mem_of_getElem? h1) (by rw[q1,z]);exact⟨a',xs',q1,q2,by rw[aV na];exact s9 _ _ q3,(q4.same s9).upd e89⟩
   ·rw[List.getElem?_append_right (by omega)] at h1;rw[List.getElem?_append_right (by rw[<- fm.l];omega),<- fm.l] at h2;have j0:j - zs.length=0:=by
     have:=(List.getElem?_eq_some_iff.mp h1).1;simp at this;omega
    rw[j0] at h1 h2;have h1:V.ref c=y:=by simpa using h1
    have h2:M[1+i].drop 1=ps:=by simpa using h2
    subst h1;rw[<- h2];exact⟨c,_,rfl,s8.free hc,by rw[aV ncP];exact e9,((Fqs.drop1 (fws.same s9))).upd e89⟩
  ·rcases List.mem_append.mp hy with z | z
   ·exact nP y z
   ·have:y=.ref c:=by simpa using z
    rw[this];exact fun z=>ncP (by injection z)
 rintro us H8 ⟨s8,e8,fm,nP⟩;rw[show ((as.map V.ref).drop 1).length=((M.drop 1).map (List.drop 1)).length by rw[List.length_drop,List.length_map,List.length_map,List.length_drop,mx.la],List.take_length] at fm;have s78:=s7.trans s8;have eR8:=s78 _ _ eR;refine⟨_,rfl,1,rfl,R,_,rfl,SqL.of eR8,fun r hr'=>?_⟩;rw[Ev];have s9:=aI hr' (.lst (ys.drop 1));have e9:upd H8 r (.lst (ys.drop 1)) r=some (.lst (ys.drop 1)):=aD;generalize upd H8 r (.lst (ys.drop 1))=H9 at s9 e9 ⊢;refine⟨zl9 2,fun t ht=>?_⟩;have sT:=aI ht (.tup [.ref P,.ref r]);have s9T:=s9.trans sT;have s0:bF H (upd H9 t (.tup [.ref P,.ref r])):=s1.trans (s12.trans (s6.trans (s78.trans s9T)));have s07:bF H H7:=s1.trans (s12.trans (s6.trans s7));have fl:∀c,H7 c=none->H c=none:=fun c h=>s07.free h;refine q t P r us (ys.drop 1) ((M.drop 1).map (List.drop 1)) (rs.drop 1) _ s0 aD (fl P hP) ((s07.trans s8).free hr') (s9T _ _ e8) (sT _ _ e9) ⟨fm.l,fun i x ps h1 h2=>?_⟩ (Fqs.drop1 (FR.same (s78.trans s9T))) (fun x hx=>⟨nP x hx,?_⟩) ⟨?_,?_,?_,?_⟩
 ·obtain⟨a',xs',q1,q2,q3,q4⟩:=fm.r i x ps h1 h2;exact⟨a',xs',q1,fl a' q2,s9T _ _ q3,q4.same s9T⟩
 ·intro z;obtain⟨i,hi⟩:=List.getElem?_of_mem hx;have il:i < ((M.drop 1).map (List.drop 1)).length:=by rw[<- fm.l];exact(List.getElem?_eq_some_iff.mp hi).1
  obtain⟨a',xs',q1,q2,q3,q4⟩:=fm.r i x _ hi (List.getElem?_eq_getElem il);rw[q1] at z;have:a'=r:=by injection z
  rw[<- this,q3] at hr'
  cases hr'
 ·have:=Mo mb
  rwa [show W - 1=m - 1+bQ ds by omega] at this
 ·have:=Mb lb
  rwa [show W - 1=m - 1+bQ ds by omega] at this
 ·intro i j;rw[Jc];exact vM _ _
 ·intro i;rw[uY];exact vR _
end
end K67
namespace L2
open PySem PySem.Spec PyProof.Rows
def Tj (ta:TA):TE:=fun σ H Q=>ta σ H fun vs H1=>∃n:Nat,vs=[.int (n:Int)]/\n<=1000/\∀l,H1 l=none->Q (.ref l) (upd H1 l (.lst ((List.range n).map fun (i:Nat)=>V.int (i:Int))))
theorem uM:∀{n:Nat} {acc:List Value},acc.length=n->(∀(j:Nat) (v:Value),acc[j]?=some v->∃t,v=Value.int (j:Int) t)->bX ((List.range n).map fun (i:Nat)=>V.int (i:Int)) acc
 |0,[],_,_=>.nil
 |n+1,acc,hl,h=>by
  have e:acc=acc.take n++[acc[n]'(by omega)]:=by
   have h1:acc.take (n+1)=acc:=List.take_of_length_le (by omega);have h2:acc.take (n+1)=acc.take n++[acc[n]'(by omega)]:=by rw[List.take_add_one,List.getElem?_eq_getElem (by omega)];rfl
   rw[h1] at h2;exact h2
  rw[List.range_succ,List.map_append,e];refine bX.append (uM (by rw[List.length_take];omega) fun j v hj=>?_) (.cons ?_ .nil)
  ·have hjn:j < n:=by
    have:=(List.getElem?_eq_some_iff.mp hj).1;rw[List.length_take] at this;omega
   rw[List.getElem?_take,if_pos hjn] at hj;exact h j v hj
  ·obtain⟨t,ht⟩:=h n _ (List.getElem?_eq_getElem (by omega));rw[ht];exact⟨t,rfl⟩
section
variable {X:Cx} {a:Expr} {p p2 pos pos2:Pos} {ta:TA}
theorem zF (hc:X.calm=true)(hgl:Gl X "list")(hml:X.mg "list"=none)(hg:Gl X "range")(hm:X.mg "range"=none)(ha:PA X [a] ta)(hs:starEach [a] X.env=[(false,eval a X.env)]:=by rfl)(he:starEach [.Call (.Name "range" p2) [a] [] pos2] X.env=(false,eval (.Call (.Name "range" p2) [a] [] pos2) X.env) :: starEach [] X.env:=by rfl)(hpl:(backTo pos (starEach [] X.env)).any (·.1)=false:=by rfl) :
  PE X (.Call (.Name "list" p) [.Call (.Name "range" p2) [a] [] pos2] [] pos) (Tj ta):=by
 intro pins s σ H Q I h;refine wpAny_Call_Name_kw (kC I hgl hml PyProof.Rows.boot_list ?_);refine PyProof.Rows.callWith_type1 ?_ he hpl;rw[he];show wpAny _ _ (spliced ((false,eval (.Call (.Name "range" p2) [a] [] pos2) X.env) :: backTo pos (starEach [] X.env))) _ _ s;refine Calls.spliced_cons ?_;refine wpAny_Call_Name_kw (kC I hg hm boot_range (PyProof.Rows.callWith_type1 (thn (ha pos2 pins s σ H _ I h) fun us s1 ⟨vs,H1,I1,r1,q1⟩=>?_) hs rfl));obtain⟨n,e,hn,q⟩:=q1;subst e
 cases r1 with
 |cons r rr=>
  cases rr
  obtain⟨t,rfl⟩:=r;refine call_range_1 ?_;refine Calls.spliced_nil ?_;have I2:∀(ob:Obj) (tk:Nat),Inv X pins σ H1 { s1 with heap:=s1.heap.push ob,toks:=tk }:=fun ob tk=>I1.kept (t':=tk) (fun b ob e=>Heap.get?_push_of_some _ e);have hn24:(n:Nat)<=2 ^ 24:=by omega
  refine call_list_range (n:=n) (I1.ok.hd hc) (IsRange.new ..) (small_one (by omega) (by omega) (by omega) (by omega)) (by rw[rangeSize_one];split<;>omega) hn24 (fun h' tk acc' c' kp e items=>?_);have rl:bX ((List.range n).map fun (i:Nat)=>V.int (i:Int)) acc'.toList:=uM (by rw[Array.length_toList];exact items.1) (fun j v hj=>by
   obtain⟨t,ht⟩:=items.2 j v (by rw[<- Array.getElem?_toList];exact hj);exact⟨t,by rw[ht];congr 1;omega⟩)
  have hz:((List.range n).map fun (i:Nat)=>V.int (i:Int)).length<=sizeLine:=by rw[List.length_map,List.length_range,sizeLine_eq];omega
  exact⟨.ref _,_,(I2 _ _).laid (t':=tk) kp (Nat.le_refl _) (show dR X.prog X.w _ h' _ (.lst ((List.range n).map fun (i:Nat)=>V.int (i:Int))) from ⟨hz,acc'.toList,c',rl,e⟩),rfl,q _ ((I2 _ _).hok.fresh (Nat.le_refl _))⟩
end
def jn (ms:List Int)(s g:Nat):List Int:=ms.map fun x=>if x=ms.getD g 0 then ms.getD s 0 else x
def Iz (m:Nat):List Int:=(List.range m).map fun (i:Nat)=>(i:Int)
def iQ (ms:List Int)(d:RD):List Int:=if d.1=.pu then ms else jn ms d.2.1.toNat d.2.2.1.toNat
def mks (m:Nat)(ds:List RD):List Int:=ds.foldl iQ (Iz m)
def mk (m:Nat)(ds:List RD)(p:Nat):Int:=(mks m ds).getD p 0
theorem oK (m:Nat)(ds:List RD)(d:RD):mks m (ds++[d])=iQ (mks m ds) d:=by unfold mks;rw[List.foldl_append];rfl
theorem Jp (ms:List Int)(d:RD):(iQ ms d).length=ms.length:=by
 unfold iQ;split
 ·rfl
 ·unfold jn;rw[List.length_map]
theorem wK:∀(ds:List RD) (ms:List Int),(ds.foldl iQ ms).length=ms.length
 | [],_=>rfl
 |d :: ds,ms=>by show (ds.foldl iQ (iQ ms d)).length=_;rw[wK ds,Jp]
theorem pQ (m:Nat)(ds:List RD):(mks m ds).length=m:=by unfold mks Iz;rw[wK,List.length_map,List.length_range]
theorem Kw {ms:List Int}{f:Int->Int}{p:Nat}(h:p < ms.length):(ms.map f).getD p 0=f (ms.getD p 0):=by
 rw[List.getD_eq_getElem?_getD,List.getElem?_map,List.getD_eq_getElem?_getD,List.getElem?_eq_getElem h];rfl
theorem Ps {m p:Nat}(h:p < m):mk m [] p=(p:Int):=by
 show (Iz m).getD p 0=_;unfold Iz;rw[List.getD_eq_getElem?_getD,List.getElem?_map,List.getElem?_range h];rfl
theorem tK {m:Nat}{ds:List RD}{d:RD}(hk:d.1=.pu)(p:Nat):mk m (ds++[d]) p=mk m ds p:=by
 unfold mk;rw[oK];unfold iQ;rw[if_pos hk]
theorem tE {m:Nat}{ds:List RD}{d:RD}(hk:d.1≠.pu){p:Nat}(hp:p < m):mk m (ds++[d]) p=if mk m ds p=mk m ds d.2.2.1.toNat then mk m ds d.2.1.toNat else mk m ds p:=by
 unfold mk;rw[oK];unfold iQ;rw[if_neg hk];unfold jn;rw[Kw (by rw[pQ];exact hp)]
inductive Cn (ds:List RD):Nat->Nat->Prop where
 |refl (p:Nat):Cn ds p p
 |row {d:RD} (h:d∈ds) (hk:d.1≠.pu):Cn ds d.2.1.toNat d.2.2.1.toNat
 |symm {p q:Nat} (h:Cn ds p q):Cn ds q p
 |trans {p q r:Nat} (h:Cn ds p q) (g:Cn ds q r):Cn ds p r
theorem Cn.mono {ds es:List RD}(h:∀d∈ds,d∈es){p q:Nat}(c:Cn ds p q):Cn es p q:=by
 induction c with
 |refl p=>exact .refl p
 |row hd hk=>exact .row (h _ hd) hk
 |symm _ ih=>exact .symm ih
 |trans _ _ a b=>exact .trans a b
theorem Az {m:Nat}:∀(n:Nat) (ds:List RD),ds.length=n->(∀d∈ds,dA (m:Int) d.2.1 d.2.2.1)->∀p q,p < m->q < m->mk m ds p=mk m ds q->Cn ds p q
 |0,ds,hl,_,p,q,hp,hq,e=>by
  have:ds=[]:=List.length_eq_zero_iff.mp hl;subst this;rw[Ps hp,Ps hq] at e;have:p=q:=by omega
  subst this;exact .refl p
 |n+1,ds,hl,pt,p,q,hp,hq,e=>by
  obtain⟨es,d,rfl⟩:∃es d,ds=es++[d]:=⟨ds.dropLast,ds.getLast (by intro z;rw[z] at hl;cases hl),(List.dropLast_concat_getLast _).symm⟩
  have le:es.length=n:=by rw[List.length_append] at hl;simpa using hl
  have ih:=Az n es le (fun x hx=>pt x (List.mem_append_left _ hx));have up:∀{a b:Nat},Cn es a b->Cn (es++[d]) a b:=fun c=>c.mono fun x hx=>List.mem_append_left _ hx
  by_cases hk:d.1=.pu
  ·rw[tK hk,tK hk] at e;exact up (ih p q hp hq e)
  ·obtain⟨i0,i1,j0,j1⟩:=pt d (by simp);have hs:d.2.1.toNat < m:=by omega
   have hg:d.2.2.1.toNat < m:=by omega
   have rw':Cn (es++[d]) d.2.1.toNat d.2.2.1.toNat:=.row (by simp) hk;rw[tE hk hp,tE hk hq] at e
   by_cases a:mk m es p=mk m es d.2.2.1.toNat
   ·have cp:=up (ih _ _ hp hg a);rw[if_pos a] at e
    by_cases b:mk m es q=mk m es d.2.2.1.toNat
    ·exact cp.trans (up (ih _ _ hq hg b)).symm
    ·rw[if_neg b] at e;exact cp.trans (rw'.symm.trans (up (ih _ _ hs hq e)))
   ·rw[if_neg a] at e
    by_cases b:mk m es q=mk m es d.2.2.1.toNat
    ·rw[if_pos b] at e;exact(up (ih _ _ hp hs e)).trans (rw'.trans (up (ih _ _ hq hg b)).symm)
    ·rw[if_neg b] at e;exact up (ih _ _ hp hq e)
theorem sX {m:Nat}:∀(n:Nat) (ds:List RD),ds.length=n->(∀d∈ds,dA (m:Int) d.2.1 d.2.2.1)->∀d∈ds,d.1≠.pu->mk m ds d.2.1.toNat=mk m ds d.2.2.1.toNat
 |0,ds,hl,_,d,hd,_=>by
  have:ds=[]:=List.length_eq_zero_iff.mp hl;rw[this] at hd;cases hd
 |n+1,ds,hl,pt,x,hx,hkx=>by
  obtain⟨es,d,rfl⟩:∃es d,ds=es++[d]:=⟨ds.dropLast,ds.getLast (by intro z;rw[z] at hl;cases hl),(List.dropLast_concat_getLast _).symm⟩
  have le:es.length=n:=by rw[List.length_append] at hl;simpa using hl
  obtain⟨i0,i1,j0,j1⟩:=pt x hx;have hs:x.2.1.toNat < m:=by omega
  have hg:x.2.2.1.toNat < m:=by omega
  by_cases hk:d.1=.pu
  ·rw[tK hk,tK hk];rcases List.mem_append.mp hx with z | z
   ·exact sX n es le (fun y hy=>pt y (List.mem_append_left _ hy)) x z hkx
   ·have:x=d:=by simpa using z
    rw[this] at hkx;exact absurd hk hkx
  ·rw[tE hk hs,tE hk hg];rcases List.mem_append.mp hx with z | z
   ·have ih:=sX n es le (fun y hy=>pt y (List.mem_append_left _ hy)) x z hkx;rw[ih]
   ·have:x=d:=by simpa using z
    subst this;rw[if_pos rfl]
    by_cases c:mk m es x.2.1.toNat=mk m es x.2.2.1.toNat
    ·rw[if_pos c]
    ·rw[if_neg c]
theorem Cn.ind {ds:List RD}{R:Nat->Nat->Prop}(r:∀p,R p p)(s:∀p q,R p q->R q p)(t:∀p q x,R p q->R q x->R p x)(h:∀d∈ds,d.1≠.pu->R d.2.1.toNat d.2.2.1.toNat){p q:Nat}(c:Cn ds p q):R p q:=by
 induction c with
 |refl p=>exact r p
 |row hd hk=>exact h _ hd hk
 |symm _ ih=>exact s _ _ ih
 |trans _ _ a b=>exact t _ _ _ a b
theorem Lj {m:Nat}{ds:List RD}(pt:∀d∈ds,dA (m:Int) d.2.1 d.2.2.1){p q:Nat}(hp:p < m)(hq:q < m):mk m ds p=mk m ds q↔Cn ds p q:=
 ⟨Az _ ds rfl pt p q hp hq,fun c=>Cn.ind (R:=fun a b=>mk m ds a=mk m ds b) (fun _=>rfl) (fun _ _ e=>e.symm) (fun _ _ _ a b=>a.trans b) (fun d hd hk=>sX _ ds rfl pt d hd hk) c⟩
theorem uB:∀{m:Nat} {S:List Nat},S.Nodup->(∀p∈S,p < m)->S.length<=m
 |0,[],_,_=>Nat.le_refl _
 |0,p :: S,_,h=>absurd (h p (List.mem_cons_self ..)) (Nat.not_lt_zero _)
 |m+1,S,nd,h=>by
  have e:=uB (m:=m) (S:=S.erase m) (nd.erase m) (fun p hp=>by
   have h1:=h p (List.mem_of_mem_erase hp);have h2:p≠m:=fun z=>by rw[z] at hp;exact(List.Nodup.not_mem_erase nd) hp
   omega)
  have:=List.length_erase_le (a:=m) (l:=S);have h3:S.length<=(S.erase m).length+1:=by
   rw[List.length_erase];split<;>omega
  omega
theorem Jd {m:Nat}{ds:List RD}{f:Nat}{S:List Nat}(pt:∀d∈ds,dA (m:Int) d.2.1 d.2.2.1)(hf:f < m)(h1:f∈S)(h2:∀p∈S,p < m/\mk m ds p=mk m ds f)(h3:∀d∈ds,d.1≠.pu->(d.2.1.toNat∈S↔d.2.2.1.toNat∈S)){p:Nat}(hp:p < m):p∈S↔mk m ds p=mk m ds f:=by
 refine⟨fun h=>(h2 p h).2,fun h=>?_⟩;exact(Cn.ind (R:=fun a b=>a∈S↔b∈S) (fun _=>Iff.rfl) (fun _ _ e=>e.symm) (fun _ _ _ a b=>a.trans b) h3 ((Lj pt hf hp).mp h.symm)).mp h1
abbrev Stp:=Nat × Int
abbrev Br:=Nat × Nat × Nat
def stF (es:List Br)(p:Nat):List (Stp × Nat):=es.filterMap fun e=>if e.2.1=p then some ((e.1,1),e.2.2) else if e.2.2=p then some ((e.1,-1),e.2.1) else none
abbrev WS:=List (Nat × List Stp)
def cA (w:WS):List Nat:=w.map (·.1)
def qV:WS->Nat->Option (List Stp)
 | [],_=>none
 |e :: w,p=>if e.1=p then some e.2 else qV w p
theorem gW {p:Nat}{st:List Stp}:∀{w:WS},qV w p=some st->(p,st)∈w
 | [],h=>by cases h
 |e :: w,h=>by
  unfold qV at h
  by_cases c:e.1=p
  ·rw[if_pos c] at h
   cases h
   obtain⟨a,b⟩:=e;have c:a=p:=c;subst c;exact List.mem_cons_self ..
  ·rw[if_neg c] at h;exact List.mem_cons_of_mem _ (gW h)
theorem pJ {p:Nat}:∀{w:WS},p∈cA w->∃st,qV w p=some st
 | [],h=>by cases h
 |e :: w,h=>by
  unfold qV
  by_cases c:e.1=p
  ·rw[if_pos c];exact⟨_,rfl⟩
  ·rw[if_neg c];rcases List.mem_cons.mp h with z | z
   ·exact absurd z.symm c
   ·exact pJ z
theorem qK {p:Nat}:∀{w:WS},p∉cA w->qV w p=none
 | [],_=>rfl
 |e :: w,h=>by
  unfold qV;rw[if_neg (fun z=>h (by rw[<- z];exact List.mem_cons_self ..))];exact qK fun z=>h (List.mem_cons_of_mem _ z)
theorem Mz {w:WS}{p:Nat}:(qV w p).isSome=true↔p∈cA w:=by
 by_cases c:p∈cA w
 ·obtain⟨st,e⟩:=pJ c;rw[e];exact⟨fun _=>c,fun _=>rfl⟩
 ·rw[qK c];exact⟨fun z=>(by cases z),fun z=>absurd z c⟩
def inF (p:Nat)(s:WS × List Nat)(t:Stp × Nat):WS × List Nat:=if t.2∈cA s.1 then s else (s.1++[(t.2,(qV s.1 p).getD []++[t.1])],s.2++[t.2])
def kK (es:List Br)(s:WS × List Nat):WS × List Nat:=if s.2=[] then s else (stF es (s.2.getLastD 0)).foldl (inF (s.2.getLastD 0)) (s.1,s.2.dropLast)
def cE (es:List Br)(b:Nat):Nat->WS × List Nat
 |0=>([(b,[])],[b])
 |n+1=>kK es (cE es b n)
def vW (es:List Br)(b e:Nat):Option (List Stp):=qV (cE es b 60).1 e
def pK (es:List Br)(s:Stp)(p q:Nat):Prop:=∃u v,(s.1,u,v)∈es/\((s.2=1/\p=u/\q=v)\/(s.2=-1/\p=v/\q=u))
inductive Pt (es:List Br) (b:Nat):List Stp->Nat->List Nat->Prop where
 |nil:Pt es b [] b [b]
 |snoc {st:List Stp} {p q:Nat} {pts:List Nat} {s:Stp} (h:Pt es b st p pts) (g:pK es s p q) (n:q∉pts):Pt es b (st++[s]) q (pts++[q])
theorem kX {es:List Br}{p:Nat}{t:Stp × Nat}(h:t∈stF es p):pK es t.1 p t.2:=by
 unfold stF at h;obtain⟨e,he,ht⟩:=List.mem_filterMap.mp h
 by_cases c1:e.2.1=p
 ·rw[if_pos c1] at ht
  cases ht
  exact⟨e.2.1,e.2.2,he,.inl ⟨rfl,c1.symm,rfl⟩⟩
 ·rw[if_neg c1] at ht
  by_cases c2:e.2.2=p
  ·rw[if_pos c2] at ht
   cases ht
   exact⟨e.2.1,e.2.2,he,.inr ⟨rfl,c2.symm,rfl⟩⟩
  ·rw[if_neg c2] at ht;cases ht
theorem Oe {es:List Br}{p q:Nat}{s:Stp}(h:pK es s p q):q=p\/∃t∈stF es p,t.2=q:=by
 obtain⟨u,v,he,h⟩:=h
 by_cases c:q=p
 ·exact .inl c
 refine .inr ?_;rcases h with ⟨_,rfl,rfl⟩ | ⟨_,rfl,rfl⟩
 ·refine⟨((s.1,1),q),List.mem_filterMap.mpr ⟨_,he,?_⟩,rfl⟩;rw[if_pos rfl]
 ·refine⟨((s.1,-1),q),List.mem_filterMap.mpr ⟨_,he,?_⟩,rfl⟩;rw[if_neg c,if_pos rfl]
structure WI (es:List Br) (b:Nat) (s:WS × List Nat):Prop where
 nd:(cA s.1).Nodup
 kb:b∈cA s.1
 pt:∀x st,(x,st)∈s.1->∃pts,Pt es b st x pts/\∀y∈pts,y∈cA s.1
 q:∀x∈s.2,x∈cA s.1
 cl:∀x∈cA s.1,x∉s.2->∀t y,pK es t x y->y∈cA s.1
theorem Kl (es:List Br)(b:Nat):WI es b ([(b,[])],[b]):=by
 refine⟨by simp[cA],by simp[cA],fun x st h=>?_,fun x h=>?_,fun x h n=>?_⟩
 ·have:(x,st)=(b,[]):=by simpa using h
  cases this
  exact⟨[b],.nil,fun y hy=>by simpa[cA] using hy⟩
 ·simpa[cA] using h
 ·have:x=b:=by simpa[cA] using h
  exact absurd (by simp[this]) n
theorem yU (w:WS)(x:Nat)(st:List Stp):cA (w++[(x,st)])=cA w++[x]:=by unfold cA;rw[List.map_append];rfl
structure WJ (es:List Br) (b p:Nat) (T:List (Stp × Nat)) (s:WS × List Nat):Prop where
 nd:(cA s.1).Nodup
 kb:b∈cA s.1
 kp:p∈cA s.1
 pt:∀x st,(x,st)∈s.1->∃pts,Pt es b st x pts/\∀y∈pts,y∈cA s.1
 q:∀x∈s.2,x∈cA s.1
 cl:∀x∈cA s.1,x∉s.2->x≠p->∀t y,pK es t x y->y∈cA s.1
 t:∀t∈T,t.2∈cA s.1
theorem Gh {es:List Br}{b p:Nat}{T:List (Stp × Nat)}{s:WS × List Nat}{t:Stp × Nat}(h:WJ es b p T s)(g:pK es t.1 p t.2):WJ es b p (T++[t]) (inF p s t):=by
 unfold inF
 by_cases c:t.2∈cA s.1
 ·rw[if_pos c];refine { h with t:=fun u hu=>?_ };rcases List.mem_append.mp hu with z | z
  ·exact h.t u z
  ·have:u=t:=by simpa using z
   rw[this];exact c
 ·rw[if_neg c];obtain⟨sp,ep⟩:=pJ h.kp;rw[ep];have up:∀{x:Nat},x∈cA s.1->x∈cA (s.1++[(t.2,sp++[t.1])]):=fun hx=>by rw[yU];exact List.mem_append_left _ hx
  have me:t.2∈cA (s.1++[(t.2,sp++[t.1])]):=by rw[yU];simp
  refine⟨?_,up h.kb,up h.kp,fun x st hx=>?_,fun x hx=>?_,fun x hx nx np=>?_,fun u hu=>?_⟩
  ·show (cA (s.1++[(t.2,sp++[t.1])])).Nodup;rw[yU,List.nodup_append];refine⟨h.nd,by simp,fun x hx y hy z=>?_⟩;have:y=t.2:=by simpa using hy
   exact c (by rw[<- this,<- z];exact hx)
  ·rcases List.mem_append.mp hx with z | z
   ·obtain⟨pts,h1,h2⟩:=h.pt x st z;exact⟨pts,h1,fun y hy=>up (h2 y hy)⟩
   ·have:(x,st)=(t.2,sp++[t.1]):=by simpa using z
    cases this
    obtain⟨pts,h1,h2⟩:=h.pt p sp (gW ep);refine⟨pts++[t.2],.snoc h1 g (fun z=>c (h2 _ z)),fun y hy=>?_⟩;rcases List.mem_append.mp hy with z | z
    ·exact up (h2 y z)
    ·have:y=t.2:=by simpa using z
     rw[this];exact me
  ·rcases List.mem_append.mp hx with z | z
   ·exact up (h.q x z)
   ·have:x=t.2:=by simpa using z
    rw[this];exact me
  ·have hx':x∈cA s.1:=by
    have hx2:x∈cA (s.1++[(t.2,sp++[t.1])]):=hx;rw[yU] at hx2;rcases List.mem_append.mp hx2 with z | z
    ·exact z
    ·exact absurd (List.mem_append_right _ z) nx
   intro t' y hg;exact up (h.cl x hx' (fun z=>nx (List.mem_append_left _ z)) np t' y hg)
  ·rcases List.mem_append.mp hu with z | z
   ·exact up (h.t u z)
   ·have:u=t:=by simpa using z
    rw[this];exact me
theorem yV {es:List Br}{b p:Nat}:∀(U T:List (Stp × Nat)) {s:WS × List Nat},WJ es b p T s->(∀t∈U,pK es t.1 p t.2)->WJ es b p (T++U) (U.foldl (inF p) s)
 | [],T,s,h,_=>by rw[List.append_nil];exact h
 |u :: U,T,s,h,g=>by
  have:=yV U (T++[u]) (Gh h (g u (by simp))) fun t ht=>g t (List.mem_cons_of_mem _ ht);rw[List.append_assoc] at this;exact this
theorem Er {q:List Nat}(h:q≠[]):q.getLastD 0∈q/\q=q.dropLast++[q.getLastD 0]:=by
 have e:q.getLastD 0=q.getLast h:=by rw[List.getLastD_eq_getLast?,List.getLast?_eq_some_getLast h];rfl
 rw[e];exact⟨List.getLast_mem h,(List.dropLast_concat_getLast h).symm⟩
theorem uR {es:List Br}{b:Nat}{s:WS × List Nat}(h:WI es b s)(hq:s.2≠[]):WJ es b (s.2.getLastD 0) [] (s.1,s.2.dropLast):=by
 obtain⟨m,e⟩:=Er hq;refine⟨h.nd,h.kb,h.q _ m,h.pt,fun x hx=>h.q x (List.dropLast_subset _ hx),fun x hx nx np=>h.cl x hx fun z=>?_,fun t ht=>by cases ht⟩;rw[e] at z;rcases List.mem_append.mp z with z | z
 ·exact nx z
 ·exact np (by simpa using z)
theorem Xv {es:List Br}{b p:Nat}{s:WS × List Nat}(h:WJ es b p (stF es p) s):WI es b s:=by
 refine⟨h.nd,h.kb,h.pt,h.q,fun x hx nx t y hg=>?_⟩
 by_cases c:x=p
 ·subst c;rcases Oe hg with z | ⟨u,hu,e⟩
  ·rw[z];exact hx
  ·rw[<- e];exact h.t u hu
 ·exact h.cl x hx nx c t y hg
theorem Tl {es:List Br}{b:Nat}{s:WS × List Nat}(h:WI es b s):WI es b (kK es s):=by
 unfold kK
 by_cases c:s.2=[]
 ·rw[if_pos c];exact h
 ·rw[if_neg c];have:=yV (stF es (s.2.getLastD 0)) [] (uR h c) fun t ht=>kX ht;rw[List.nil_append] at this;exact Xv this
theorem kB (es:List Br)(b:Nat):∀n,WI es b (cE es b n)
 |0=>Kl es b
 |n+1=>Tl (kB es b n)
def muF (s:WS × List Nat):Nat:=2*(20 - s.1.length)+s.2.length
structure Ptm (m:Nat) (es:List Br):Prop where
 p:∀e∈es,e.2.1 < m/\e.2.2 < m
theorem Yo {m:Nat}{es:List Br}{b:Nat}(h:Ptm m es)(hb:b < m){st:List Stp}{x:Nat}{pts:List Nat}(p:Pt es b st x pts):x < m:=by
 cases p with
 |nil=>exact hb
 |snoc _ g _=>
  obtain⟨u,v,he,g⟩:=g;have:=h.p _ he;rcases g with ⟨_,_,rfl⟩ | ⟨_,_,rfl⟩
  ·exact this.2
  ·exact this.1
theorem Ac {m:Nat}{es:List Br}{b:Nat}(h:Ptm m es)(hb:b < m){w:WS}(pt:∀x st,(x,st)∈w->∃pts,Pt es b st x pts/\∀y∈pts,y∈cA w):∀x∈cA w,x < m:=fun x hx=>by
 obtain⟨st,e⟩:=pJ hx;obtain⟨pts,p,_⟩:=pt x st (gW e);exact Yo h hb p
theorem Lb {m:Nat}{es:List Br}{b:Nat}(h:Ptm m es)(hb:b < m){w:WS}(nd:(cA w).Nodup)(pt:∀x st,(x,st)∈w->∃pts,Pt es b st x pts/\∀y∈pts,y∈cA w):w.length<=m:=by
 have:=uB nd (Ac h hb pt);unfold cA at this
 rwa [List.length_map] at this
theorem qa4 {es:List Br}{b p m:Nat}{T:List (Stp × Nat)}{s:WS × List Nat}{t:Stp × Nat}(hm:Ptm m es)(hb:b < m)(h20:m<=20)(h:WJ es b p T s)(g:pK es t.1 p t.2):muF (inF p s t)<=muF s:=by
 have h':=Gh h g;have le:=Lb hm hb h'.nd h'.pt;unfold inF at le ⊢
 by_cases c:t.2∈cA s.1
 ·rw[if_pos c];exact Nat.le_refl _
 ·rw[if_neg c] at le ⊢;unfold muF;simp only[List.length_append,List.length_cons,List.length_nil] at le ⊢;omega
theorem Ab {es:List Br}{b p m:Nat}(hm:Ptm m es)(hb:b < m)(h20:m<=20):∀(U T:List (Stp × Nat)) {s:WS × List Nat},WJ es b p T s->(∀t∈U,pK es t.1 p t.2)->muF (U.foldl (inF p) s)<=muF s
 | [],_,_,_,_=>Nat.le_refl _
 |u :: U,T,s,h,g=>Nat.le_trans (Ab hm hb h20 U (T++[u]) (Gh h (g u (by simp))) fun t ht=>g t (List.mem_cons_of_mem _ ht)) (qa4 hm hb h20 h (g u (by simp)))
theorem Bw {s:WS × List Nat}(h:s.2≠[]):muF (s.1,s.2.dropLast)+1=muF s:=by
 have:0 < s.2.length:=List.length_pos_iff.mpr h;show 2*(20 - s.1.length)+s.2.dropLast.length+1=2*(20 - s.1.length)+s.2.length;rw[List.length_dropLast];omega
theorem Et {es:List Br}{b m:Nat}{s:WS × List Nat}(hm:Ptm m es)(hb:b < m)(h20:m<=20)(h:WI es b s)(hq:s.2≠[]):muF (kK es s)+1<=muF s:=by
 unfold kK;rw[if_neg hq];have:=Ab hm hb h20 (stF es (s.2.getLastD 0)) [] (uR h hq) fun t ht=>kX ht;have e:=Bw hq;omega
theorem wU {es:List Br}{b:Nat}{i:Nat}(h:(cE es b i).2=[]):∀n,cE es b (i+n)=cE es b i
 |0=>rfl
 |n+1=>by
  show kK es (cE es b (i+n))=_;rw[wU h n];unfold kK;rw[if_pos h]
theorem Ti {es:List Br}{b i:Nat}(h:(cE es b i).2=[])(hi:i<=60):(cE es b 60).1=(cE es b i).1:=by
 have:=wU h (60 - i);rw[show i+(60 - i)=60 by omega] at this;rw[this]
theorem qO {es:List Br}{b m:Nat}(hm:Ptm m es)(hb:b < m)(h20:m<=20):∀n,(cE es b n).2=[]\/n+muF (cE es b n)<=39
 |0=>.inr (by show 0+(2*(20 - 1)+1)<=39;omega)
 |n+1=>by
  by_cases c:(cE es b n).2=[]
  ·refine .inl ?_;show (kK es (cE es b n)).2=[]
   unfold kK;rw[if_pos c];exact c
  ·rcases qO hm hb h20 n with z | z
   ·exact absurd z c
   ·have:=Et hm hb h20 (kB es b n) c;refine .inr ?_;show n+1+muF (kK es (cE es b n))<=39;omega
theorem Om {es:List Br}{b m:Nat}(hm:Ptm m es)(hb:b < m)(h20:m<=20):(cE es b 60).2=[]:=by
 rcases qO hm hb h20 60 with z | z
 ·exact z
 ·omega
def rS (es:List Br):List RD:=es.map fun e=>(.pc,(e.2.1:Int),(e.2.2:Int),(0,1))
theorem vZ {m:Nat}{es:List Br}(h:Ptm m es):∀d∈rS es,dA (m:Int) d.2.1 d.2.2.1:=fun d hd=>by
 obtain⟨e,he,rfl⟩:=List.mem_map.mp hd;have:=h.p e he;exact⟨by show (0:Int)<=(e.2.1:Int);omega,by show ((e.2.1:Nat):Int) < m;omega,by show (0:Int)<=(e.2.2:Int);omega,by show ((e.2.2:Nat):Int) < m;omega⟩
theorem Sm {m:Nat}{es:List Br}(h:Ptm m es){s:Stp}{p q:Nat}(g:pK es s p q):mk m (rS es) q=mk m (rS es) p:=by
 obtain⟨u,v,he,g⟩:=g;have e:=sX _ (rS es) rfl (vZ h) (.pc,(u:Int),(v:Int),(0,1)) (List.mem_map.mpr ⟨_,he,rfl⟩) (by intro z;cases z);rw[Int.toNat_natCast,Int.toNat_natCast] at e;rcases g with ⟨_,rfl,rfl⟩ | ⟨_,rfl,rfl⟩
 ·exact e.symm
 ·exact e
theorem Zj {m:Nat}{es:List Br}{b:Nat}(h:Ptm m es){st:List Stp}{x:Nat}{pts:List Nat}(p:Pt es b st x pts):mk m (rS es) x=mk m (rS es) b:=by
 induction p with
 |nil=>rfl
 |snoc _ g _ ih=>rw[Sm h g,ih]
theorem Sr {m:Nat}{es:List Br}{b e:Nat}(h:Ptm m es)(h20:m<=20)(hb:b < m)(he:e < m):(vW es b e).isSome=true↔mk m (rS es) e=mk m (rS es) b:=by
 have wi:=kB es b 60;have q0:=Om h hb h20;unfold vW;rw[Mz];refine Jd (vZ h) hb wi.kb (fun p hp=>⟨Ac h hb wi.pt p hp,?_⟩) (fun d hd _=>?_) he
 ·obtain⟨st,e'⟩:=pJ hp;obtain⟨pts,pp,_⟩:=wi.pt p st (gW e');exact Zj h pp
 ·obtain⟨a,ha,rfl⟩:=List.mem_map.mp hd;show ((a.2.1:Int).toNat∈_↔(a.2.2:Int).toNat∈_);rw[Int.toNat_natCast,Int.toNat_natCast];exact⟨fun z=>wi.cl _ z (by rw[q0];simp) (a.1,1) _ ⟨a.2.1,a.2.2,ha,.inl ⟨rfl,rfl,rfl⟩⟩,fun z=>wi.cl _ z (by rw[q0];simp) (a.1,-1) _ ⟨a.2.1,a.2.2,ha,.inr ⟨rfl,rfl,rfl⟩⟩⟩
structure tX (es:List Br) (b e:Nat) (st:List Stp) (pts:List Nat):Prop where
 l:pts.length=st.length+1
 hb:pts[0]?=some b
 he:pts[st.length]?=some e
 g:∀i s,st[i]?=some s->∃p q,pts[i]?=some p/\pts[i+1]?=some q/\pK es s p q
 n:(st.map (·.1)).Nodup
theorem Qw {es:List Br}{b x:Nat}{st:List Stp}{pts:List Nat}(p:Pt es b st x pts):∀s∈st,∃y z,y∈pts/\z∈pts/\pK es s y z:=by
 induction p with
 |nil=>intro s h;cases h
 | @snoc st p q pts s h g n ih=>
  intro t ht;rcases List.mem_append.mp ht with z | z
  ·obtain⟨y,z',h1,h2,h3⟩:=ih t z;exact⟨y,z',List.mem_append_left _ h1,List.mem_append_left _ h2,h3⟩
  ·have:t=s:=by simpa using z
   subst this;refine⟨p,q,List.mem_append_left _ ?_,by simp,g⟩
   cases h with
   |nil=>simp
   |snoc _ _ _=>simp
theorem Ig {es:List Br}{b x:Nat}{st:List Stp}{pts:List Nat}(ne:(es.map (·.1)).Nodup)(p:Pt es b st x pts):tX es b x st pts:=by
 induction p with
 |nil=>exact⟨rfl,rfl,rfl,fun i s h=>by simp at h,by simp⟩
 | @snoc st p q pts s h g n ih=>
  have l:=ih.l;refine⟨by rw[List.length_append,List.length_append,l];rfl,?_,?_,fun i t ht=>?_,?_⟩
  ·rw[List.getElem?_append_left (by omega)];exact ih.hb
  ·rw[List.length_append,List.getElem?_append_right (by simp;omega)];simp only[List.length_cons,List.length_nil];rw[show st.length+(0+1) - pts.length=0 by omega];rfl
  ·by_cases c:i < st.length
   ·rw[List.getElem?_append_left c] at ht;obtain⟨y,z,h1,h2,h3⟩:=ih.g i t ht;exact⟨y,z,by rw[List.getElem?_append_left (by omega)];exact h1,by rw[List.getElem?_append_left (by omega)];exact h2,h3⟩
   ·have hi:i=st.length:=by
     have:=(List.getElem?_eq_some_iff.mp ht).1;simp only[List.length_append,List.length_cons,List.length_nil] at this;omega
    subst hi;rw[List.getElem?_append_right (Nat.le_refl _),Nat.sub_self] at ht;have:s=t:=by simpa using ht
    subst this;refine⟨p,q,by rw[List.getElem?_append_left (by omega)];exact ih.he,?_,g⟩;rw[List.getElem?_append_right (by omega),show st.length+1 - pts.length=0 by omega];rfl
  ·rw[List.map_append,List.nodup_append];refine⟨ih.n,by simp,fun a ha c hc z=>?_⟩;have hc:c=s.1:=by simpa using hc
   obtain⟨t,ht,et⟩:=List.mem_map.mp ha;obtain⟨y,w,h1,h2,u',v',he',g'⟩:=Qw h t ht;obtain⟨u,v,he,g⟩:=g;have same:(t.1,u',v')=(s.1,u,v):=by
    have key:∀{l:List Br},(l.map (·.1)).Nodup->∀{a c:Br},a∈l->c∈l->a.1=c.1->a=c:=fun {l}=>by
     induction l with
     |nil=>intro _ a c h;cases h
     |cons x l ih=>
      intro nd a c ha hc e;rw[List.map_cons,List.nodup_cons] at nd;rcases List.mem_cons.mp ha with rfl | z1<;>rcases List.mem_cons.mp hc with rfl | z2
      ·rfl
      ·exact absurd (List.mem_map.mpr ⟨c,z2,e.symm⟩) nd.1
      ·exact absurd (List.mem_map.mpr ⟨a,z1,e⟩) nd.1
      ·exact ih nd.2 z1 z2 e
    exact key ne he' he (by show t.1=s.1;rw[et,z,hc])
   have e1:u'=u:=by injection same with _ e;injection e
   have e2:v'=v:=by injection same with _ e;injection e
   subst e1;subst e2;rcases g with ⟨_,rfl,rfl⟩ | ⟨_,rfl,rfl⟩<;>rcases g' with ⟨_,rfl,rfl⟩ | ⟨_,rfl,rfl⟩
   ·exact n h2
   ·exact n h1
   ·exact n h1
   ·exact n h2
theorem Jr {es:List Br}{b e:Nat}{st:List Stp}(ne:(es.map (·.1)).Nodup)(h:vW es b e=some st):∃pts,tX es b e st pts:=by
 obtain⟨pts,p,_⟩:=(kB es b 60).pt e st (gW h);exact⟨pts,Ig ne p⟩
theorem yG {m:Nat}{es:List Br}{b e:Nat}{st:List Stp}(hm:Ptm m es)(hb:b < m)(h:vW es b e=some st):st.length < m:=by
 obtain⟨pts,p,k⟩:=(kB es b 60).pt e st (gW h);have l:pts.length=st.length+1:=by
  clear h
  induction p with
  |nil=>rfl
  |snoc h g n ih=>rw[List.length_append,List.length_append,ih fun y hy=>k y (List.mem_append_left _ hy)];rfl
 have nd:pts.Nodup:=by
  clear h k l
  induction p with
  |nil=>simp
  |snoc h g n ih=>
   rw[List.nodup_append];refine⟨ih,by simp,fun x hx y hy z=>n ?_⟩;rw[List.mem_singleton] at hy;rw[<- hy,<- z];exact hx
 have:=uB nd fun y hy=>Ac hm hb (kB es b 60).pt y (k y hy);omega
abbrev Sk:=Kd × Nat × Nat
def skl (ds:List RD):List Sk:=ds.map fun d=>(d.1,d.2.1.toNat,d.2.2.1.toNat)
abbrev RS:=List Br × List (Nat × List Stp)
def iT (W:Kd->Bool)(s:RS)(k:Nat)(d:Sk):RS:=if W d.1 then (match vW s.1 d.2.2 d.2.1 with
 |none=>(s.1++[(k,d.2.1,d.2.2)],s.2)
 |some st=>(s.1,s.2++[(k,(k,1) :: st)])) else s
def fD (W:Kd->Bool)(sk:List Sk):Nat->RS
 |0=>([],[])
 |n+1=>match sk[n]? with
  |none=>fD W sk n
  |some d=>iT W (fD W sk n) n d
theorem iM {W:Kd->Bool}{sk:List Sk}{n:Nat}{d:Sk}(h:sk[n]?=some d):fD W sk (n+1)=iT W (fD W sk n) n d:=by
 show (match sk[n]? with | none=>fD W sk n | some d=>iT W (fD W sk n) n d)=_;rw[h]
structure RI (W:Kd->Bool) (sk:List Sk) (m n:Nat) (s:RS):Prop where
 pt:Ptm m s.1
 nd:(s.1.map (·.1)).Nodup
 lt:∀e∈s.1,e.1 < n
 at_:∀e∈s.1,∃k,sk[e.1]?=some (k,e.2.1,e.2.2)
 rl:s.2.length<=n
 r:∀c∈s.2,c.1 < n/\∃k u v st pts,sk[c.1]?=some (k,u,v)/\c.2=(c.1,1) :: st/\(∀t∈st,t.1 < c.1/\t.1∈s.1.map (·.1))/\tX s.1 v u st pts/\st.length < m
theorem tX.mono {es es':List Br}{b e:Nat}{st:List Stp}{pts:List Nat}(h:tX es b e st pts)(hs:∀x∈es,x∈es'):tX es' b e st pts:=
 { h with g:=fun i s hi=>let ⟨p,q,h1,h2,u,v,h3,h4⟩:=h.g i s hi;⟨p,q,h1,h2,u,v,hs _ h3,h4⟩ }
theorem Kz {es:List Br}{b e:Nat}{st:List Stp}{pts:List Nat}(h:tX es b e st pts):∀t∈st,t.1∈es.map (·.1):=fun t ht=>by
 obtain⟨i,hi⟩:=List.getElem?_of_mem ht;obtain⟨p,q,_,_,u,v,h3,_⟩:=h.g i t hi;exact List.mem_map.mpr ⟨_,h3,rfl⟩
theorem uX {W:Kd->Bool}{sk:List Sk}{m:Nat}(hm:∀d∈sk,d.2.1 < m/\d.2.2 < m):∀n,n<=sk.length->RI W sk m n (fD W sk n)
 |0,_=>⟨⟨fun e h=>(by cases h)⟩,(by show ([]:List Nat).Nodup;simp),fun e h=>(by cases h),fun e h=>(by cases h),Nat.le_refl _,fun c h=>(by cases h)⟩
 |n+1,hn=>by
  have ih:=uX (W:=W) hm n (by omega);have hd:sk[n]?=some sk[n]:=List.getElem?_eq_getElem (by omega);rw[iM hd];have pm:=hm _ (List.mem_of_getElem? hd);generalize sk[n]=d at hd pm;generalize fD W sk n=s at ih;unfold iT
  by_cases hw:W d.1=true
  ·rw[if_pos hw]
   cases hy:vW s.1 d.2.2 d.2.1 with
   |none=>
    show RI W sk m (n+1) (s.1++[(n,d.2.1,d.2.2)],s.2);refine⟨⟨fun e he=>?_⟩,?_,fun e he=>?_,fun e he=>?_,by have:=ih.rl;show s.2.length<=n+1;omega,fun c hc=>?_⟩
    ·rcases List.mem_append.mp he with z | z
     ·exact ih.pt.p e z
     ·have:e=(n,d.2.1,d.2.2):=by simpa using z
      rw[this];exact pm
    ·show ((s.1++[(n,d.2.1,d.2.2)]).map (·.1)).Nodup;rw[List.map_append,List.nodup_append];refine⟨ih.nd,by simp,fun x hx y hy z=>?_⟩;have:y=n:=by simpa using hy
     obtain⟨e,he,ee⟩:=List.mem_map.mp hx;have:=ih.lt e he;omega
    ·rcases List.mem_append.mp he with z | z
     ·have:=ih.lt e z;omega
     ·have:e=(n,d.2.1,d.2.2):=by simpa using z
      rw[this];exact Nat.lt_succ_self n
    ·rcases List.mem_append.mp he with z | z
     ·exact ih.at_ e z
     ·have:e=(n,d.2.1,d.2.2):=by simpa using z
      rw[this];exact⟨d.1,hd⟩
    ·obtain⟨h1,k,u,v,st,pts,h2,h3,h4,h5,h6⟩:=ih.r c hc;refine⟨by omega,k,u,v,st,pts,h2,h3,fun t ht=>⟨(h4 t ht).1,?_⟩,h5.mono fun x hx=>List.mem_append_left _ hx,h6⟩;show t.1∈(s.1++[(n,d.2.1,d.2.2)]).map (·.1);rw[List.map_append];exact List.mem_append_left _ (h4 t ht).2
   |some st=>
    show RI W sk m (n+1) (s.1,s.2++[(n,(n,1) :: st)]);refine⟨ih.pt,ih.nd,fun e he=>Nat.lt_succ_of_lt (ih.lt e he),ih.at_,by have:=ih.rl;show (s.2++[(n,(n,1) :: st)]).length<=n+1;rw[List.length_append];simp only[List.length_cons,List.length_nil];omega,fun c hc=>?_⟩;rcases List.mem_append.mp hc with z | z
    ·obtain⟨h1,r⟩:=ih.r c z;exact⟨by omega,r⟩
    ·have:c=(n,(n,1) :: st):=by simpa using z
     subst this;obtain⟨pts,ch⟩:=Jr ih.nd hy;refine⟨Nat.lt_succ_self n,d.1,d.2.1,d.2.2,st,pts,hd,rfl,fun t ht=>?_,ch,yG ih.pt pm.2 hy⟩;have ti:=Kz ch t ht;obtain⟨e,he,ee⟩:=List.mem_map.mp ti;have:=ih.lt e he;exact⟨by show t.1 < n;omega,ti⟩
  ·rw[if_neg hw];exact⟨ih.pt,ih.nd,fun e he=>Nat.lt_succ_of_lt (ih.lt e he),ih.at_,by have:=ih.rl;omega,fun c hc=>let ⟨h1,r⟩:=ih.r c hc;⟨by omega,r⟩⟩
theorem SqT.updD {K:Frag}{H:Hp}{a l:Addr}{xs:List V}{kvs:List (Key × V)}{o:HO}(h:SqT K H a xs)(hl:H l=some (.dK kvs)):SqT K (L2.upd H l o) a xs:=by
 rcases h with (h | ⟨u,h⟩) | h
 ·exact .inl (.inl (by rw[aV (jD h hl (fun z=>by cases z))];exact h))
 ·exact .inl (.inr ⟨u,by rw[aV (jD h hl (fun z=>by cases z))];exact h⟩)
 ·exact .inr h
inductive Sts (K:Frag) (H:Hp):List V->List Stp->Prop where
 |nil:Sts K H [] []
 |cons {t:Addr} {n:Nat} {w:Int} {xs:List V} {st:List Stp} (h:SqT K H t [.int (n:Int),.int w]) (q:Sts K H xs st):Sts K H (.ref t :: xs) ((n,w) :: st)
section
variable {K:Frag} {H H':Hp}
theorem Sts.same (e:bF H H'):∀{xs:List V} {st:List Stp},Sts K H xs st->Sts K H' xs st
 |_,_,.nil=>.nil
 |_,_,.cons h q=>.cons (e.seqT h) (Sts.same e q)
theorem Sts.length:∀{xs:List V} {st:List Stp},Sts K H xs st->xs.length=st.length
 |_,_,.nil=>rfl
 |_,_,.cons _ q=>by simp[Sts.length q]
theorem Sts.app:∀{xs ys:List V} {st su:List Stp},Sts K H xs st->Sts K H ys su->Sts K H (xs++ys) (st++su)
 |_,_,_,_,.nil,r=>r
 |_,_,_,_,.cons h q,r=>.cons h (Sts.app q r)
theorem Sts.upd {l:Addr}{ys:List V}{o:HO}(hl:H l=some (.lst ys)):∀{xs:List V} {st:List Stp},Sts K H xs st->Sts K (L2.upd H l o) xs st
 |_,_,.nil=>.nil
 |_,_,.cons h q=>.cons (SqT.upd h hl) (Sts.upd hl q)
theorem Sts.updD {l:Addr}{kvs:List (Key × V)}{o:HO}(hl:H l=some (.dK kvs)):∀{xs:List V} {st:List Stp},Sts K H xs st->Sts K (L2.upd H l o) xs st
 |_,_,.nil=>.nil
 |_,_,.cons h q=>.cons (SqT.updD h hl) (Sts.updD hl q)
end
inductive Sds (K:Frag) (H:Hp):List V->List (Stp × Nat)->Prop where
 |nil:Sds K H [] []
 |cons {t s:Addr} {n x:Nat} {w:Int} {xs:List V} {st:List (Stp × Nat)} (h:SqT K H t [.ref s,.int (x:Int)]) (g:SqT K H s [.int (n:Int),.int w]) (q:Sds K H xs st):Sds K H (.ref t :: xs) (((n,w),x) :: st)
section
variable {K:Frag} {H H':Hp}
theorem Sds.same (e:bF H H'):∀{xs:List V} {st:List (Stp × Nat)},Sds K H xs st->Sds K H' xs st
 |_,_,.nil=>.nil
 |_,_,.cons h g q=>.cons (e.seqT h) (e.seqT g) (Sds.same e q)
theorem Sds.length:∀{xs:List V} {st:List (Stp × Nat)},Sds K H xs st->xs.length=st.length
 |_,_,.nil=>rfl
 |_,_,.cons _ _ q=>by simp[Sds.length q]
theorem Sds.app:∀{xs ys:List V} {st su:List (Stp × Nat)},Sds K H xs st->Sds K H ys su->Sds K H (xs++ys) (st++su)
 |_,_,_,_,.nil,r=>r
 |_,_,_,_,.cons h g q,r=>.cons h g (Sds.app q r)
theorem Sds.get:∀{xs:List V} {st:List (Stp × Nat)} {i:Nat} {x:V},Sds K H xs st->xs[i]?=some x->∃t u s,x=.ref t/\st[i]?=some s/\SqT K H t [.ref u,.int (s.2:Int)]/\SqT K H u [.int (s.1.1:Int),.int s.1.2]
 |_,_,_,_,.nil,h=>by simp at h
 |_,_,0,_,.cons h g _,e=>by simp at e;subst e;exact⟨_,_,_,rfl,rfl,h,g⟩
 |_,_,i+1,_,.cons _ _ q,e=>by simpa using Sds.get q (by simpa using e)
theorem Sds.upd {l:Addr}{ys:List V}{o:HO}(hl:H l=some (.lst ys)):∀{xs:List V} {st:List (Stp × Nat)},Sds K H xs st->Sds K (L2.upd H l o) xs st
 |_,_,.nil=>.nil
 |_,_,.cons h g q=>.cons (SqT.upd h hl) (SqT.upd g hl) (Sds.upd hl q)
theorem Sds.updD {l:Addr}{kvs:List (Key × V)}{o:HO}(hl:H l=some (.dK kvs)):∀{xs:List V} {st:List (Stp × Nat)},Sds K H xs st->Sds K (L2.upd H l o) xs st
 |_,_,.nil=>.nil
 |_,_,.cons h g q=>.cons (SqT.updD h hl) (SqT.updD g hl) (Sds.updD hl q)
end
inductive Wys (K:Frag) (H0:Hp) (W:Addr) (H:Hp):List (Key × V)->WS->Prop where
 |nil:Wys K H0 W H [] []
 |cons {a:Addr} {x:Nat} {xs:List V} {st:List Stp} {kvs:List (Key × V)} {w:WS} (n:H0 a=none) (nw:a≠W) (h:H a=some (.lst xs)) (f:Sts K H xs st) (q:Wys K H0 W H kvs w):Wys K H0 W H ((Sum.inl (x:Int),.ref a) :: kvs) ((x,st) :: w)
section
variable {K:Frag} {H0 H H':Hp} {W:Addr}
theorem Wys.same (e:bF H H'):∀{kvs:List (Key × V)} {w:WS},Wys K H0 W H kvs w->Wys K H0 W H' kvs w
 |_,_,.nil=>.nil
 |_,_,.cons n nw h f q=>.cons n nw (e _ _ h) (f.same e) (Wys.same e q)
theorem Wys.updW {ys:List V}{o:HO}(hl:H W=some (.lst ys)):∀{kvs:List (Key × V)} {w:WS},Wys K H0 W H kvs w->Wys K H0 W (L2.upd H W o) kvs w
 |_,_,.nil=>.nil
 |_,_,.cons n nw h f q=>.cons n nw (by rw[aV nw];exact h) (f.upd hl) (Wys.updW hl q)
theorem Wys.updD {D:Addr}{kv:List (Key × V)}{o:HO}(hl:H D=some (.dK kv)):∀{kvs:List (Key × V)} {w:WS},Wys K H0 W H kvs w->Wys K H0 W (L2.upd H D o) kvs w
 |_,_,.nil=>.nil
 |_,_,.cons n nw h f q=>.cons n nw (by rw[aV (jD h hl (fun z=>by cases z))];exact h) (f.updD hl) (Wys.updD hl q)
theorem Wys.length:∀{kvs:List (Key × V)} {w:WS},Wys K H0 W H kvs w->kvs.length=w.length
 |_,_,.nil=>rfl
 |_,_,.cons _ _ _ _ q=>by simp[Wys.length q]
theorem Wys.snoc {a:Addr}{x:Nat}{xs:List V}{st:List Stp}(n:H0 a=none)(nw:a≠W)(h:H a=some (.lst xs))(f:Sts K H xs st):∀{kvs:List (Key × V)} {w:WS},Wys K H0 W H kvs w->Wys K H0 W H (kvs++[(Sum.inl (x:Int),.ref a)]) (w++[(x,st)])
 |_,_,.nil=>.cons n nw h f .nil
 |_,_,.cons n' nw' h' f' q=>.cons n' nw' h' f' (Wys.snoc n nw h f q)
theorem Wys.none_ {p:Nat}:∀{kvs:List (Key × V)} {w:WS},Wys K H0 W H kvs w->p∉cA w->jF kvs (Sum.inl (p:Int))=none/\(kvs.any fun kv=>decide (kv.1=Sum.inl (p:Int)))=false
 |_,_,.nil,_=>⟨rfl,rfl⟩
 |_,_,.cons (x:=x) (kvs:=kvs) (w:=w) n nw h f q,hp=>by
  have hx:x≠p:=fun z=>hp (by rw[<- z];exact List.mem_cons_self ..);obtain⟨h1,h2⟩:=Wys.none_ q fun z=>hp (List.mem_cons_of_mem _ z);refine⟨by rw[lY (fun z=>hx (Int.ofNat.inj (Sum.inl.inj z)))];exact h1,?_⟩;rw[List.any_cons,h2];have e:decide ((Sum.inl (x:Int):Key)=Sum.inl (p:Int))=false:=decide_eq_false fun z=>hx (Int.ofNat.inj (Sum.inl.inj z));show (decide ((Sum.inl (x:Int):Key)=Sum.inl (p:Int)) || false)=false;rw[e];rfl
theorem Wys.some_ {p:Nat}:∀{kvs:List (Key × V)} {w:WS},Wys K H0 W H kvs w->p∈cA w->∃a xs st,jF kvs (Sum.inl (p:Int))=some (.ref a)/\qV w p=some st/\H0 a=none/\a≠W/\H a=some (.lst xs)/\Sts K H xs st
 |_,_,.nil,h=>by cases h
 |_,_,.cons (a:=a) (x:=x) (xs:=xs) (st:=st) (kvs:=kvs) (w:=w) n nw h f q,hp=>by
  by_cases c:x=p
  ·subst c;exact⟨a,xs,st,by rw[oM rfl],by unfold qV;rw[if_pos rfl],n,nw,h,f⟩
  ·have hp':p∈cA w:=by
    rcases List.mem_cons.mp hp with z | z
    ·exact absurd z.symm c
    ·exact z
   obtain⟨a',xs',st',h1,h2,r⟩:=Wys.some_ q hp';exact⟨a',xs',st',by rw[lY (fun z=>c (Int.ofNat.inj (Sum.inl.inj z)))];exact h1,by unfold qV;rw[if_neg c];exact h2,r⟩
theorem Wys.isSome {p:Nat}{kvs:List (Key × V)}{w:WS}(h:Wys K H0 W H kvs w):(jF kvs (Sum.inl (p:Int))).isSome=decide (p∈cA w):=by
 by_cases c:p∈cA w
 ·obtain⟨a,xs,st,e,_⟩:=h.some_ c;rw[e,decide_eq_true c];rfl
 ·rw[(h.none_ c).1,decide_eq_false c];rfl
end
structure Rgs (K:Frag) (H0 H:Hp) (us:List V) (X:List (List Stp)):Prop where
 l:us.length=X.length
 r:∀(i:Nat) (x:V) (st:List Stp),us[i]?=some x->X[i]?=some st->∃(a:Addr) (xs:List V),x=.ref a/\H0 a=none/\H a=some (.lst xs)/\Sts K H xs st
theorem Rgs.nil {K:Frag}{H0 H:Hp}:Rgs K H0 H [] []:=⟨rfl,fun i x st h=>by simp at h⟩
theorem Rgs.same {K:Frag}{H0 H H':Hp}{us:List V}{X:List (List Stp)}(e:bF H H')(f:Rgs K H0 H us X):Rgs K H0 H' us X:=⟨f.l,fun i x st h1 h2=>let ⟨a,xs,e1,n,h,s⟩:=f.r i x st h1 h2;⟨a,xs,e1,n,e _ _ h,s.same e⟩⟩
theorem Rgs.snoc {K:Frag}{H0 H:Hp}{us:List V}{X:List (List Stp)}{a:Addr}{xs:List V}{st:List Stp}(f:Rgs K H0 H us X)(n:H0 a=none)(h:H a=some (.lst xs))(s:Sts K H xs st):Rgs K H0 H (us++[.ref a]) (X++[st]):=by
 refine⟨by rw[List.length_append,List.length_append,f.l];rfl,fun i x qs h1 h2=>?_⟩;have l:=f.l
 by_cases c:i < us.length
 ·rw[List.getElem?_append_left c] at h1;rw[List.getElem?_append_left (by omega)] at h2;exact f.r i x qs h1 h2
 ·have hi:i=us.length:=by
   have:=(List.getElem?_eq_some_iff.mp h1).1;rw[List.length_append] at this;simp only[List.length_cons,List.length_nil] at this;omega
  subst hi;rw[List.getElem?_append_right (Nat.le_refl _),Nat.sub_self] at h1;rw[List.getElem?_append_right (by omega),show us.length - X.length=0 by omega] at h2
  cases h1
  cases h2
  exact⟨a,xs,rfl,n,h,s⟩
theorem Rgs.updO {K:Frag}{H0 H:Hp}{us:List V}{X:List (List Stp)}{l:Addr}{ys:List V}{o:HO}(f:Rgs K H0 H us X)(hl:H l=some (.lst ys))(n:∀x∈us,x≠.ref l):Rgs K H0 (upd H l o) us X:=⟨f.l,fun i x st h1 h2=>let ⟨a,xs,e1,n1,h,s⟩:=f.r i x st h1 h2;⟨a,xs,e1,n1,by rw[aV (fun z=>n x (List.mem_of_getElem? h1) (by rw[e1,z]))];exact h,s.upd hl⟩⟩
def Tw (ds:List RD)(es:List Br):Prop:=∀e∈es,∃d,ds[e.1]?=some d/\d.2.1=(e.2.1:Int)/\d.2.2.1=(e.2.2:Int)
def yZ (K:Frag)(CK:Kd->Addr):Sp:=fun vs H Q _=>∃(a b:Addr) (xs:List V) (ds:List RD) (es:List Br) (p:Nat),vs=[.ref a,.ref b,.int (p:Int)]/\SqL K H a xs/\gU CK K H xs ds/\SqL K H b (es.map fun e=>V.int (e.1:Int))/\Tw ds es/\es.length<=100/\∀l ys H',bF H H'->H l=none->H' l=some (.lst ys)->Sds K H' ys (stF es p)->Q (.ref l) H'
def Uc (K:Frag)(CK:Kd->Addr):Sp:=fun vs H Q _=>∃(a b:Addr) (xs:List V) (ds:List RD) (es:List Br) (m f t:Nat),vs=[.ref a,.ref b,.int (f:Int),.int (t:Int)]/\SqL K H a xs/\gU CK K H xs ds/\SqL K H b (es.map fun e=>V.int (e.1:Int))/\Tw ds es/\es.length<=100/\Ptm m es/\m<=20/\f < m/\
 (vW es f t=none->∀H',bF H H'->Q .non H')/\∀st,vW es f t=some st->∀l ys H',bF H H'->H l=none->H' l=some (.lst ys)->Sts K H' ys st->Q (.ref l) H'
inductive Wds (K:Frag) (H:Hp):V->(Kd->Bool)->Prop where
 |non:Wds K H .non (fun k=>decide (k≠.pu))
 |seq {a:Addr} {ws:List V} (h:SqL K H a ws) (f:ws.all mX=true):Wds K H (.ref a) (fun k=>inV (.str k.wd) ws)
def Gb (CN:Addr)(K:Frag):Sp:=fun vs H Q _=>∃(n l:Addr) (v:V) (m:Nat) (ds:List RD) (W:Kd->Bool),vs=[.ref n,v]/\fY CN K H n l (m:Int) ds/\(∀d∈ds,dA (m:Int) d.2.1 d.2.2.1)/\m<=20/\ds.length<=40/\Wds K H v W/\∀r us H',bF H H'->H r=none->H' r=some (.lst us)->Rgs K H H' us ((fD W (skl ds) ds.length).2.map (·.2))->(∀x∈us,x≠.ref r)->Q (.ref r) H'
end L2
namespace K67
open PySem L2
section
variable {P:Program} {w:World} {K:Frag} {mg:Str->Option Value} {base:Heap} {f g1 g2 g3 g4 g5 g6 g7 g8:Addr} {fd gd1 gd2 gd3 gd4 gd5 gd6 gd7 gd8:FuncData} {CX:CXT}
variable {CR:Addr} {CK:Kd->Addr} {fW fJ fT fS:Kd->Addr} {fdW fdJ fdT fdS:Kd->FuncData}
theorem tH {ec:List (Str × Addr)}:∀(x:Str) (c:Addr),([]:List (Str × Addr)).lookup x=some c->ec.lookup x=some c:=fun _ _ h=>by cases h
theorem fX {ec cl:List (Str × Addr)}{a:Str}{d:Addr}(h:ec.lookup a=some d)(r:∀x c,cl.lookup x=some c->ec.lookup x=some c):∀x c,((a,d) :: cl).lookup x=some c->ec.lookup x=some c:=fun x c e=>by
 rw[List.lookup_cons] at e
 cases q:x == a with
 |true=>rw[q] at e;rw[eq_of_beq q,h];exact e
 |false=>rw[q] at e;exact r x c e
theorem oQ {X:Cx}{K:Frag}(h:X.K=K):IxR X (Qt K):=by subst h;exact aX
theorem uZ {X:Cx}{K:Frag}(h:X.K=K):IxR X (qa2 K):=by subst h;exact bY
abbrev qX:Stmt:=top 32
theorem tI:aT ["rows","numbers","point","steps","number","row"] ["rows","numbers","point"] (aE qX):=sK9 rfl rfl rfl rfl (by decide +kernel)
theorem Lh {dV:Value}(F:bZ K "steps_from" "steps_from" qX dV f fd)(T:RT K mg CR CK) :
  aM P w K mg base CX 1 f fd ["rows","numbers","point"] (yZ K CK):=by
 refine F.ok tI (fun vs H Q E h=>?_) fun cdv A outer s H vs Q E hr h=>?_
 ·obtain⟨_,_,_,_,_,_,rfl,_⟩:=h;rfl
 obtain⟨a,b,xs,ds,es,p,rfl,hA,Rb,hB,hE,h100,q⟩:=h;refine⟨_,(aC (aS (i:=3) tI.nd rfl (Or.inl rfl) (cX aB))
  (aC (gA PassesOwn.never rfl (fB (pv 1)) (bL (i:=4) tI.nd rfl (Or.inl rfl))
   (aC (aS (i:=5) tI.nd rfl (Or.inl rfl) (aU bY (pv 0) (pv 4) (fun _ _=>rfl)))
  (aH (cK (bM gH (cN (pv 5) rfl) (pv 2) (bO _)) (aH (bU (vT PySem.F.plainAttrs_list PySem.F.slot_list_append PySem.F.type_list_append gO (pv 3) (aA (dM (aA (dM (aA (pv 4) (aA aF aB))) (aA (cN (pv 5) rfl) aB))) aB)))) (aH (cK (bM gH (cN (pv 5) rfl) (pv 2) (bO _)) (aH (bU (vT PySem.F.plainAttrs_list PySem.F.slot_list_append PySem.F.type_list_append gO (pv 3) (aA (dM (aA (dM (aA (pv 4) (aA (Lv El aF) aB))) (aA (cN (pv 5) rfl) aB))) aB)))) bK))))))
  (aH (aZ (pv 3))))),?_⟩
 refine⟨zl9 0,fun l hl=>?_⟩;have s1:=aI hl (.lst []);have e1:upd H l (.lst []) l=some (.lst []):=aD;generalize upd H l (.lst [])=H1 at s1 e1 ⊢;refine⟨_,rfl,b,rfl,⟨_,s1.seq hB⟩,?_⟩;refine hV (xs:=es.map fun (e:Br)=>V.int ((e.1:Nat):Int)) (fun i σ H'=>bF H H'/\∃(ys:List V) (z4 z5:Option V),σ=[some (.ref a),some (.ref b),some (.int (p:Int)),some (.ref l),z4,z5]/\H' l=some (.lst ys)/\Sds K H' ys (stF (es.take i) p)) ⟨s1,[],none,none,rfl,e1,.nil⟩ (fun i σ H' _ h=>h.1.seq hB) ?_ ?_
 ·rintro i x σ H2 hx ⟨s2,ys,z4,z5,rfl,e2,S2⟩;rw[List.getElem?_map] at hx;obtain⟨e,he,rfl⟩:=Option.map_eq_some_iff.mp hx;have hi:i < es.length:=(List.getElem?_eq_some_iff.mp he).1;obtain⟨⟨k,u,v,q'⟩,hd,eu,ev⟩:=hE e (List.mem_of_getElem? he);have eu:u=(e.2.1:Int):=eu;have ev:v=(e.2.2:Int):=ev;subst eu;subst ev;obtain⟨y,z,ey,rw0,fz⟩:=Rb.at hd;have rw2:=rw0.same s2;obtain⟨dx,hx2⟩:=id rw2;have at_:atI xs (e.1:Int)=some (.ref y):=cI ey;have ly:ys.length<=es.length:=by
   have h1:=S2.length;have h2:(stF (es.take i) p).length<=(es.take i).length:=List.length_filterMap_le _ _;rw[List.length_take] at h2;omega
  refine⟨_,rfl,_,rfl,a,xs,_,_,rfl,rfl,s2.seq hA,at_,?_⟩;refine⟨_,rfl,y,CK _,_,_,_,rfl,hx2,T.cl _,T.nS _,dZ _ _ _,_,rfl,rfl,_,rfl,?_⟩
  by_cases c1:e.2.1=p
  ·have tk:stF (es.take (i+1)) p=stF (es.take i) p++[((e.1,1),e.2.2)]:=by
    unfold stF;rw[List.take_add_one,he,List.filterMap_append];show _++[e].filterMap _=_;rw[List.filterMap_cons,if_pos c1];rfl
   refine ifT (decide_eq_true (by rw[c1])) ?_;refine⟨_,rfl,.inl ⟨rfl,_,SqL.of e2⟩,_,rfl,zl9 2,fun u hu'=>?_⟩;have su:=aI hu' (.tup [.int (e.1:Int),.int (1)]);have eu:SqT K (upd H2 u (.tup [.int (e.1:Int),.int (1)])) u [.int (e.1:Int),.int (1)]:=SqT.of aD;generalize upd H2 u (.tup [.int (e.1:Int),.int (1)])=H3 at su eu ⊢;obtain⟨dx3,hx3⟩:=id (rw2.same su);refine⟨_,rfl,y,CK _,_,_,_,rfl,hx3,T.cl _,T.nG _,eX _ _ _,zl9 2,fun t ht=>?_⟩;rw[show (k,(e.2.1:Int),(e.2.2:Int),q').2.2.1=(e.2.2:Int) from rfl];have st:=aI ht (.tup [.ref u,.int (e.2.2:Int)]);have et:SqT K (upd H3 t (.tup [.ref u,.int (e.2.2:Int)])) t [.ref u,.int (e.2.2:Int)]:=SqT.of aD;generalize upd H3 t (.tup [.ref u,.int (e.2.2:Int)])=H4 at st et ⊢;have s24:=su.trans st;have e4:=s24 _ _ e2;refine⟨l,_,_,rfl,rfl,e4,bH (by omega),⟨(s2.trans s24).change hl,_,_,_,rfl,aD,?_⟩⟩;rw[tk];exact Sds.upd e4 ((S2.same s24).app (.cons et (st.seqT eu) .nil))
  ·refine ifF (decide_eq_false (fun z=>c1 (by have:(e.2.1:Int)=(p:Int):=(by injection z);omega))) ?_;refine⟨_,rfl,y,CK _,_,_,_,rfl,hx2,T.cl _,T.nG _,eX _ _ _,_,rfl,rfl,_,rfl,?_⟩
   by_cases c2:e.2.2=p
   ·have tk:stF (es.take (i+1)) p=stF (es.take i) p++[((e.1,-1),e.2.1)]:=by
     unfold stF;rw[List.take_add_one,he,List.filterMap_append];show _++[e].filterMap _=_;rw[List.filterMap_cons,if_neg c1,if_pos c2];rfl
    refine ifT (decide_eq_true (by rw[c2])) ?_;refine⟨_,rfl,.inl ⟨rfl,_,SqL.of e2⟩,_,rfl,_,rfl,zl9 2,fun u hu'=>?_⟩;have su:=aI hu' (.tup [.int (e.1:Int),.int (-1)]);have eu:SqT K (upd H2 u (.tup [.int (e.1:Int),.int (-1)])) u [.int (e.1:Int),.int (-1)]:=SqT.of aD;generalize upd H2 u (.tup [.int (e.1:Int),.int (-1)])=H3 at su eu ⊢;obtain⟨dx3,hx3⟩:=id (rw2.same su);refine⟨_,rfl,y,CK _,_,_,_,rfl,hx3,T.cl _,T.nS _,dZ _ _ _,zl9 2,fun t ht=>?_⟩;rw[show (k,(e.2.1:Int),(e.2.2:Int),q').2.1=(e.2.1:Int) from rfl];have st:=aI ht (.tup [.ref u,.int (e.2.1:Int)]);have et:SqT K (upd H3 t (.tup [.ref u,.int (e.2.1:Int)])) t [.ref u,.int (e.2.1:Int)]:=SqT.of aD;generalize upd H3 t (.tup [.ref u,.int (e.2.1:Int)])=H4 at st et ⊢;have s24:=su.trans st;have e4:=s24 _ _ e2;refine⟨l,_,_,rfl,rfl,e4,bH (by omega),⟨(s2.trans s24).change hl,_,_,_,rfl,aD,?_⟩⟩;rw[tk];exact Sds.upd e4 ((S2.same s24).app (.cons et (st.seqT eu) .nil))
   ·have tk:stF (es.take (i+1)) p=stF (es.take i) p:=by
     unfold stF;rw[List.take_add_one,he,List.filterMap_append];show _++[e].filterMap _=_;rw[List.filterMap_cons,if_neg c1,if_neg c2];simp
    refine ifF (decide_eq_false (fun z=>c2 (by have:(e.2.2:Int)=(p:Int):=(by injection z);omega))) ⟨s2,ys,_,_,rfl,e2,?_⟩;rw[tk];exact S2
 rintro σ H2 ⟨s2,ys,z4,z5,rfl,e2,S2⟩;rw[List.length_map,List.take_length] at S2;exact⟨_,rfl,q l ys H2 s2 hl e2 S2⟩
theorem Xh {m:Nat}{es:List Br}{b:Nat}(hm:Ptm m es)(hb:b < m)(h20:m<=20){w:WS}(nd:(cA w).Nodup)(pt:∀x st,(x,st)∈w->∃pts,Pt es b st x pts/\∀y∈pts,y∈cA w){st:List Stp}{x:Nat}{pts:List Nat}(p:Pt es b st x pts)(k:∀y∈pts,y∈cA w):st.length<=20:=by
 have l:pts.length=st.length+1:=by
  induction p with
  |nil=>rfl
  |snoc h g n ih=>rw[List.length_append,List.length_append,ih fun y hy=>k y (List.mem_append_left _ hy)];rfl
 have nd':pts.Nodup:=by
  clear k l
  induction p with
  |nil=>simp
  |snoc h g n ih=>
   rw[List.nodup_append];refine⟨ih,by simp,fun x hx y hy z=>n ?_⟩;rw[List.mem_singleton] at hy;rw[<- hy,<- z];exact hx
 have:=uB nd' fun y hy=>Ac hm hb pt y (k y hy);omega
theorem We {es:List Br}{b p m j:Nat}{T:List (Stp × Nat)}{s:WS × List Nat}(hm:Ptm m es)(hb:b < m)(h20:m<=20)(h:WJ es b p [] s)(g:∀t∈T,pK es t.1 p t.2):((T.take j).foldl (inF p) s).2.length<=muF s:=by
 have:=Ab hm hb h20 (T.take j) [] h fun t ht=>g t (List.mem_of_mem_take ht);unfold muF at this ⊢;omega
def muW (σ:St)(H:Hp):Nat:=match σ with
 | [_,_,_,_,some (.ref D),some (.ref W),_,_]=>match H D,H W with
  |some (.dK kvs),some (.lst q)=>2*(20 - kvs.length)+q.length
  |_,_=>0
 |_=>0
theorem Ob {H:Hp}{D W:Addr}{kvs:List (Key × V)}{q:List V}{a b c d e f:Option V}(h:H D=some (.dK kvs))(g:H W=some (.lst q)):muW [a,b,c,d,some (.ref D),some (.ref W),e,f] H=2*(20 - kvs.length)+q.length:=by
 show (match H D,H W with | some (.dK kvs),some (.lst q)=>2*(20 - kvs.length)+q.length | _,_=>0)=_;rw[h,g]
theorem Mw {q:List Nat}(h:q≠[]):(q.map fun (p:Nat)=>V.int (p:Int))[((q.map fun (p:Nat)=>V.int (p:Int))).length - 1]?=some (.int ((q.getLastD 0:Nat):Int))/\(q.map fun (p:Nat)=>V.int (p:Int)).dropLast=(q.dropLast.map fun (p:Nat)=>V.int (p:Int)):=by
 obtain⟨_,e⟩:=Er h;generalize q.getLastD 0=x at e;generalize q.dropLast=r at e;subst e;rw[List.map_append];simp
abbrev Hu:Stmt:=top 31
theorem Cy:aT ["rows","numbers","begin","end","ways","waiting","point","step"] ["rows","numbers","begin","end"] (aE Hu):=sK9 rfl rfl rfl rfl (by decide +kernel)
theorem Vx {dV:Value}(F:bZ K "way_along" "way_along" Hu dV f fd)(ml:mg "len"=none)(G1:aM P w K mg base CX0 1 g1 gd1 ["rows","numbers","point"] (yZ K CK))(b1:aQ K gd1 ["rows","numbers","point"] [])(k1:kI9 K g1)(m1:mI9 mg "steps_from" g1) :
  aM P w K mg base CX 2 f fd ["rows","numbers","begin","end"] (Uc K CK):=by
 refine F.ok Cy (fun vs H Q E h=>?_) fun cdv A outer s H vs Q E hr h=>?_
 ·obtain⟨_,_,_,_,_,_,_,_,rfl,_⟩:=h;rfl
 obtain⟨a,b,xs,ds,es,m,f,t,rfl,hA,Rb,hB,hE,h100,hm,h20,hf,qN,qS⟩:=h;refine⟨_,(aC (aS (i:=4) Cy.nd rfl (Or.inl rfl) (zV (jU (pv 2) (cX aB) Ae) rfl rfl (by simp) (by decide)))
  (aC (aS (i:=5) Cy.nd rfl (Or.inl rfl) (cX (aA (pv 2) aB)))
  (aC (oW PassesOwn.never (bM Be (cL bS rfl ml PySem.boot_len (aA (pv 5) aB)) aF (bO _))
   (aC (aS (i:=6) Cy.nd rfl (Or.inl rfl) (Uv PySem.F.plainAttrs_list PySem.F.slot_list_pop PySem.F.type_list_pop Wp (pv 5)))
   (aH (gA PassesOwn.never rfl (fB (aG G1 hr rfl m1 k1 b1 .nil aL (aA (pv 0) (aA (pv 1) (aA (pv 6) aB))))) (bL (i:=7) Cy.nd rfl (Or.inl rfl))
    (aH (cK (lT (qU (jA hr) (aU aX (pv 7) aF (fun _ _=>rfl)) (pv 4)))
     (aC (Ag (jA hr) (pv 4) (aU aX (pv 7) aF (fun _ _=>rfl)) (aY nH (jB (jA hr) (pv 4) (pv 6) (fun _ _=>rfl)) (cX (aA (aU aX (pv 7) aF (fun _ _=>rfl)) aB))) rfl)
     (aH (bU (vT PySem.F.plainAttrs_list PySem.F.slot_list_append PySem.F.type_list_append gO (pv 5) (aA (aU aX (pv 7) aF (fun _ _=>rfl)) aB)))))
     bK))))))
  (aH (aZ (Kq (jA hr) (pv 4) (pv 3) ⟨rfl,rfl,rfl,rfl⟩)))))),?_⟩
 refine fun D hD=>?_;have sD:=aI hD (.dK []);have eD:upd H D (.dK []) D=some (.dK []):=aD;generalize upd H D (.dK [])=H1 at sD eD ⊢;refine⟨_,rfl,zl9 0,fun L hL=>?_⟩;have nLD:L≠D:=Ne.symm (bC eD hL);have nL:H L=none:=sD.free hL;have sL:=aI hL (.lst []);have eL:upd H1 L (.lst []) L=some (.lst []):=aD;generalize upd H1 L (.lst [])=H2 at sL eL ⊢;refine⟨sL _ _ eD,[((Sum.inl (f:Int):Key),V.ref L)],rfl,by show 1<=15;decide,?_⟩;have s3:bF H (upd H2 D (.dK (gC [] [((Sum.inl (f:Int):Key),V.ref L)]))):=(sD.trans sL).change hD;have e3:upd H2 D (.dK (gC [] [((Sum.inl (f:Int):Key),V.ref L)])) D=some (.dK [((Sum.inl (f:Int):Key),V.ref L)]):=aD;have eL3:upd H2 D (.dK (gC [] [((Sum.inl (f:Int):Key),V.ref L)])) L=some (.lst []):=by rw[aV nLD];exact eL
 generalize upd H2 D (.dK (gC [] [((Sum.inl (f:Int):Key),V.ref L)]))=H3 at s3 e3 eL3 ⊢;refine⟨_,rfl,zl9 1,fun W hW=>?_⟩;have nLW:L≠W:=bC eL3 hW;have nDW:D≠W:=bC e3 hW;have nW:H W=none:=s3.free hW;have sW:=aI hW (.lst [.int (f:Int)]);have eW:upd H3 W (.lst [.int (f:Int)]) W=some (.lst [.int (f:Int)]):=aD;generalize upd H3 W (.lst [.int (f:Int)])=H4 at sW eW ⊢;have s4:=s3.trans sW;have w4:Wys K H W H4 [((Sum.inl (f:Int):Key),V.ref L)] (cE es f 0).1:=.cons nL nLW (sW _ _ eL3) .nil .nil;refine vH (fun σ H'=>bF H H'/\∃(i:Nat) (kvs:List (Key × V)) (z6 z7:Option V),σ=[some (.ref a),some (.ref b),some (.int (f:Int)),some (.int (t:Int)),some (.ref D),some (.ref W),z6,z7]/\H' D=some (.dK kvs)/\H' W=some (.lst ((cE es f i).2.map fun (p:Nat)=>V.int (p:Int)))/\Wys K H W H' kvs (cE es f i).1/\i<=40) muW ⟨s4,0,_,none,none,rfl,sW _ _ e3,eW,w4,by omega⟩ ?_ ?_
 ·rintro σ H5 ⟨s5,i,kvs,z6,z7,rfl,e5,q5,w5,hi⟩;have lk:=w5.length;have wi:=kB es f i;have le20:=Lb hm hf wi.nd wi.pt;refine⟨_,rfl,W,_,rfl,.inl (SqL.of q5),_,_,rfl,rfl,_,rfl,?_⟩
  by_cases hq:(cE es f i).2=[]
  ·-- it ends
   rw[hq] at q5;refine ifF (by rw[hq];rfl) ?_;have e60:=Ti hq (by omega);refine⟨_,rfl,D,rfl,.inl ⟨kvs,.inl e5⟩,_,rfl,_,gY.k (k:=Sum.inl (t:Int)) e5,?_⟩
   by_cases c:t∈cA (cE es f i).1
   ·obtain⟨l,ys,st,ev,eg,nl,_,hl,f'⟩:=w5.some_ c;rw[ev];refine qS st ?_ l ys H5 s5 nl hl f';unfold vW;rw[e60];exact eg
   ·rw[(w5.none_ c).1];refine qN ?_ H5 s5;unfold vW;rw[e60];exact qK c
  ·have mu0:=Ob (a:=some (.ref a)) (b:=some (.ref b)) (c:=some (.int (f:Int))) (d:=some (.int (t:Int))) (e:=z6) (f:=z7) e5 q5;have hi39:i+muF (cE es f i)<=39:=by
    rcases qO hm hf h20 i with z | z
    ·exact absurd z hq
    ·exact z
   have stp:cE es f (i+1)=(stF es ((cE es f i).2.getLastD 0)).foldl (inF ((cE es f i).2.getLastD 0)) ((cE es f i).1,(cE es f i).2.dropLast):=by
    show kK es (cE es f i)=_;unfold kK;rw[if_neg hq]
   have iQ:=Et hm hf h20 wi hq;have iQ:muF (cE es f (i+1))+1<=muF (cE es f i):=iQ;have wj0:=uR wi hq;have pk:=wj0.kp;obtain⟨ml1,ml2⟩:=Mw hq;generalize hp:(cE es f i).2.getLastD 0=p at *
   have ll:0 < ((cE es f i).2.map fun (p:Nat)=>V.int (p:Int)).length:=by rw[List.length_map];exact List.length_pos_iff.mpr hq
   refine ifT (by show decide (0 < ((((cE es f i).2.map fun (p:Nat)=>V.int (p:Int)).length:Nat):Int))=true;exact decide_eq_true (by omega)) ?_;refine⟨_,rfl,.inl ⟨rfl,_,SqL.of q5⟩,W,_,_,rfl,rfl,q5,ml1,?_⟩;rw[ml2];have s6:bF H (upd H5 W (.lst ((cE es f i).2.dropLast.map fun (p:Nat)=>V.int (p:Int)))):=s5.change nW;have e6:upd H5 W (.lst ((cE es f i).2.dropLast.map fun (p:Nat)=>V.int (p:Int))) D=some (.dK kvs):=by rw[aV nDW];exact e5
   have q6:upd H5 W (.lst ((cE es f i).2.dropLast.map fun (p:Nat)=>V.int (p:Int))) W=some (.lst ((cE es f i).2.dropLast.map fun (p:Nat)=>V.int (p:Int))):=aD;have w6:=w5.updW (o:=.lst ((cE es f i).2.dropLast.map fun (p:Nat)=>V.int (p:Int))) q5;generalize upd H5 W (.lst ((cE es f i).2.dropLast.map fun (p:Nat)=>V.int (p:Int)))=H6 at s6 e6 q6 w6 ⊢;refine⟨_,rfl,_,rfl,_,rfl,a,b,xs,ds,es,p,rfl,s6.seq hA,Rb.same s6,s6.seq hB,hE,h100,fun l ys H7 s7 nl el S7=>?_⟩;have s07:=s6.trans s7;have nlW:l≠W:=Ne.symm (bC q6 nl);have nlD:l≠D:=Ne.symm (bC e6 nl);have nlH:H l=none:=s6.free nl;have lys:=S7.length;refine⟨l,rfl,⟨_,SqL.of el⟩,?_⟩;refine hV (xs:=ys) (fun j σ H'=>bF H H'/\H' l=some (.lst ys)/\Sds K H' ys (stF es p)/\∃(kvs:List (Key × V)) (z7:Option V),σ=[some (.ref a),some (.ref b),some (.int (f:Int)),some (.int (t:Int)),some (.ref D),some (.ref W),some (.int (p:Int)),z7]/\H' D=some (.dK kvs)/\H' W=some (.lst ((((stF es p).take j).foldl (inF p) ((cE es f i).1,(cE es f i).2.dropLast)).2.map fun (p:Nat)=>V.int (p:Int)))/\Wys K H W H' kvs (((stF es p).take j).foldl (inF p) ((cE es f i).1,(cE es f i).2.dropLast)).1) ⟨s07,el,S7,kvs,z7,rfl,s7 _ _ e6,s7 _ _ q6,w6.same s7⟩ (fun j σ H' _ h=>SqL.of h.2.1) ?_ ?_
   ·rintro j x σ H8 hx ⟨s8,el8,S8,kv8,z7',rfl,e8,q8,w8⟩;obtain⟨tt,u,s,rfl,es',hT,hU⟩:=S8.get hx;have hj:j < (stF es p).length:=(List.getElem?_eq_some_iff.mp es').1;have gs:pK es s.1 p s.2:=kX (List.mem_of_getElem? es');have wj:=yV ((stF es p).take j) [] wj0 fun z hz=>kX (List.mem_of_mem_take hz);have fold1:((stF es p).take (j+1)).foldl (inF p) ((cE es f i).1,(cE es f i).2.dropLast)=inF p (((stF es p).take j).foldl (inF p) ((cE es f i).1,(cE es f i).2.dropLast)) s:=by
     rw[List.take_add_one,es',List.foldl_append];rfl
    rw[fold1];have wj':=Gh wj gs;have le8:=Lb hm hf wj.nd wj.pt;have lS:=We hm hf h20 wj0 (j:=j) (T:=stF es p) (fun z hz=>kX hz);have mb:=Bw hq;generalize ((stF es p).take j).foldl (inF p) ((cE es f i).1,(cE es f i).2.dropLast)=S at q8 w8 wj wj' le8 lS ⊢;have lS2:S.2.length<=100:=by omega
    have lk8:=w8.length;obtain⟨⟨sn,sw⟩,sx⟩:=s;have hT:SqT K H8 tt [.ref u,.int (sx:Int)]:=hT;refine⟨_,rfl,tt,_,1,_,rfl,rfl,hT,rfl,_,rfl,D,_,rfl,gY.k (k:=Sum.inl (sx:Int)) e8,_,rfl,?_⟩
    by_cases c:sx∈cA S.1
    ·refine ifF (by rw[w8.isSome,decide_eq_true c];rfl) ⟨s8,el8,S8,kv8,_,rfl,e8,?_,?_⟩
     ·show H8 W=some (.lst ((inF p S ((sn,sw),sx)).2.map fun (p:Nat)=>V.int (p:Int)));unfold inF;rw[if_pos c];exact q8
     ·show Wys K H W H8 kv8 (inF p S ((sn,sw),sx)).1;unfold inF;rw[if_pos c];exact w8
    ·refine ifT (by rw[w8.isSome,decide_eq_false c];rfl) ?_;obtain⟨ap,xp,sp,ev,eg,nap,nwp,hap,fp⟩:=w8.some_ wj.kp;have lsp:=fp.length;have lsp2:sp.length<=20:=by
      obtain⟨pts,pt1,pt2⟩:=wj.pt p sp (gW eg);exact Xh hm hf h20 wj.nd wj.pt pt1 pt2
     refine⟨_,rfl,_,rfl,D,.ref ap,rfl,(by have:=gY.k (k:=Sum.inl (p:Int)) e8;rw[ev] at this;exact this),?_⟩;refine⟨_,rfl,tt,_,0,_,rfl,rfl,hT,rfl,zl9 1,fun L1 hL1=>?_⟩;have s9:=aI hL1 (.lst [.ref u]);have e9:upd H8 L1 (.lst [.ref u]) L1=some (.lst [.ref u]):=aD;generalize upd H8 L1 (.lst [.ref u])=H9 at s9 e9 ⊢;refine⟨ap,L1,_,_,rfl,rfl,s9 _ _ hap,e9,by rw[sizeLine_eq];simp only[List.length_cons,List.length_nil];omega,fun C hC=>?_⟩;have nC8:H8 C=none:=s9.free hC;have sA:=aI hC (.lst (xp++[.ref u]));have eA:upd H9 C (.lst (xp++[.ref u])) C=some (.lst (xp++[.ref u])):=aD;generalize upd H9 C (.lst (xp++[.ref u]))=HA at sA eA ⊢;have s8A:=s9.trans sA;have nCW:C≠W:=Ne.symm (bC q8 nC8);have nCD:C≠D:=Ne.symm (bC e8 nC8);have eDA:=s8A _ _ e8;refine⟨_,rfl,_,rfl,tt,_,1,_,rfl,rfl,s8A.seqT hT,rfl,D,_,rfl,Cl.k (k:=Sum.inl (sx:Int)) eDA (by rw[sizeLine_eq];omega),?_⟩;have put:gQ kv8 (Sum.inl (sx:Int)) (.ref C)=kv8++[(Sum.inl (sx:Int),.ref C)]:=by unfold gQ;rw[if_neg (by rw[(w8.none_ c).2];simp)]
     rw[put];have eB:upd HA D (.dK (kv8++[(Sum.inl (sx:Int),.ref C)])) D=some (.dK (kv8++[(Sum.inl (sx:Int),.ref C)])):=aD;have qB:upd HA D (.dK (kv8++[(Sum.inl (sx:Int),.ref C)])) W=some (.lst (S.2.map fun (p:Nat)=>V.int (p:Int))):=by rw[aV (Ne.symm nDW)];exact s8A _ _ q8
     have sB:bF H (upd HA D (.dK (kv8++[(Sum.inl (sx:Int),.ref C)]))):=(s8.trans s8A).change hD;have wB:Wys K H W (upd HA D (.dK (kv8++[(Sum.inl (sx:Int),.ref C)]))) (kv8++[(Sum.inl (sx:Int),.ref C)]) (S.1++[(sx,sp++[(sn,sw)])]):=
      Wys.snoc (s8.free nC8) nCW (by rw[aV nCD];exact eA) (((fp.same s8A).app (.cons (s8A.seqT hU) .nil)).updD eDA) ((w8.same s8A).updD eDA)
     have elB:upd HA D (.dK (kv8++[(Sum.inl (sx:Int),.ref C)])) l=some (.lst ys):=by rw[aV nlD];exact s8A _ _ el8
     have SB:=(S8.same s8A).updD (o:=.dK (kv8++[(Sum.inl (sx:Int),.ref C)])) eDA;have hTB:=SqT.updD (o:=.dK (kv8++[(Sum.inl (sx:Int),.ref C)])) (s8A.seqT hT) eDA;generalize upd HA D (.dK (kv8++[(Sum.inl (sx:Int),.ref C)]))=HB at eB qB sB wB elB SB hTB ⊢;refine⟨_,rfl,.inl ⟨rfl,_,SqL.of qB⟩,_,rfl,tt,_,1,_,rfl,rfl,hTB,rfl,W,_,_,rfl,rfl,qB,bH (by rw[List.length_map];omega),?_⟩;have inE:inF p S ((sn,sw),sx)=(S.1++[(sx,sp++[(sn,sw)])],S.2++[sx]):=by
      unfold inF;rw[if_neg c,eg];rfl
     rw[inE];refine⟨sB.change nW,by rw[aV nlW];exact elB,SB.upd qB,_,_,rfl,by rw[aV nDW];exact eB,?_,wB.updW qB⟩;rw[aD,List.map_append];rfl
   ·rintro σ H8 ⟨s8,el8,S8,kv8,z7',rfl,e8,q8,w8⟩;rw[lys,List.take_length,<- stp] at q8 w8;have lk8:=w8.length;refine⟨⟨s8,i+1,kv8,_,_,rfl,e8,q8,w8,by omega⟩,?_⟩;rw[mu0,Ob e8 q8,List.length_map,List.length_map,lk,lk8];unfold muF at iQ;omega
 ·rintro σ H Q Q' mono ⟨v,h1,p',ys,h2,h3,i,j,h4,h5,k,h6,h7⟩;exact⟨v,h1,p',ys,h2,h3,i,j,h4,h5,k,h6,mono _ _ h7⟩
theorem Uu {ds:List RD}{i:Nat}{d:RD}(h:ds[i]?=some d):(skl ds)[i]?=some (d.1,d.2.1.toNat,d.2.2.1.toNat):=by unfold skl;rw[List.getElem?_map,h];rfl
theorem Oc (ds:List RD):(skl ds).length=ds.length:=by unfold skl;rw[List.length_map]
theorem Ym {m:Nat}{ds:List RD}(pt:∀d∈ds,dA (m:Int) d.2.1 d.2.2.1):∀d∈skl ds,d.2.1 < m/\d.2.2 < m:=fun d hd=>by
 obtain⟨e,he,rfl⟩:=List.mem_map.mp hd;obtain⟨i0,i1,j0,j1⟩:=pt e he;exact⟨by show e.2.1.toNat < m;omega,by show e.2.2.1.toNat < m;omega⟩
theorem Tm {W:Kd->Bool}{m n:Nat}{ds:List RD}{s:RS}(pt:∀d∈ds,dA (m:Int) d.2.1 d.2.2.1)(h:RI W (skl ds) m n s):Tw ds s.1:=fun e he=>by
 obtain⟨k,hk⟩:=h.at_ e he;have hl:e.1 < ds.length:=by have:=(List.getElem?_eq_some_iff.mp hk).1;rwa [Oc] at this
 have hd:ds[e.1]?=some ds[e.1]:=List.getElem?_eq_getElem hl;rw[Uu hd] at hk;obtain⟨i0,i1,j0,j1⟩:=pt _ (List.mem_of_getElem? hd);refine⟨_,hd,?_,?_⟩
 ·have:ds[e.1].2.1.toNat=e.2.1:=by injection hk with z;injection z with _ z;injection z
  omega
 ·have:ds[e.1].2.2.1.toNat=e.2.2:=by injection hk with z;injection z with _ z;injection z
  omega
theorem Ky {W:Kd->Bool}{sk:List Sk}:∀n,(fD W sk n).1.length<=n
 |0=>Nat.le_refl _
 |n+1=>by
  have ih:=Ky (W:=W) (sk:=sk) n
  cases h:sk[n]? with
  |none=>show (match sk[n]? with | none=>fD W sk n | some d=>iT W (fD W sk n) n d).1.length<=n+1;rw[h];show (fD W sk n).1.length<=n+1;omega
  |some d=>
   rw[iM h];generalize fD W sk n=s at ih;unfold iT;split
   ·split
    ·show (s.1++[(n,d.2.1,d.2.2)]).length<=n+1;rw[List.length_append];simp only[List.length_cons,List.length_nil];omega
    ·show s.1.length<=n+1;omega
   ·omega
def WdA (K:Frag)(H:Hp)(v:V)(W:Kd->Bool):Prop:=∃(p:Addr) (ws:List V),v=.ref p/\(SqL K H p ws\/SqT K H p ws)/\ws.all mX=true/\∀k:Kd,inV (.str k.wd) ws=W k
theorem WdA.same {K:Frag}{H H':Hp}{v:V}{W:Kd->Bool}(e:bF H H')(h:WdA K H v W):WdA K H' v W:=by
 obtain⟨p,ws,h1,h2,h3⟩:=h;refine⟨p,ws,h1,?_,h3⟩;rcases h2 with z | z
 ·exact .inl (e.seq z)
 ·exact .inr (e.seqT z)
theorem Zh (k:Kd):inV (.str k.wd) [.str "piece",.str "hold"]=decide (k≠.pu):=by cases k<;>decide
abbrev iA:Stmt:=top 30
theorem iZ:aT ["net","words","wanted","rows","branches","found","number","row","back"] ["net","words"] (aE iA):=sK9 rfl rfl rfl rfl (by decide +kernel)
theorem Lu {dV:Value}(F:bZ K "rings" "rings" iA dV f fd){CN aJ:Addr}(NTx:NT K mg CN)(T:RT K mg CR CK)(men:mg "enumerate"=none)(fJ:∀H,SqT K H aJ [.str "piece",.str "hold"])(mJO:mI9 mg "JOINING_WORDS" aJ)(GW:∀k,aM P w K mg base CX0 1 (fW k) (fdW k) ["self"] (kP k))(bW:∀k,aQ K (fdW k) ["self"] [])(mW:∀k,iB K (CK k) "word" (fW k)){gRo:Addr}{gdRo:FuncData}(GRo:aM P w K mg base CX0 4 gRo gdRo ["self"] (vO CN K CK))(bRo:aQ K gdRo ["self"] [])(mRo:iB K CN "rows" gRo)(G1:aM P w K mg base CX0 2 g1 gd1 ["rows","numbers","begin","end"] (Uc K CK))(b1:aQ K gd1 ["rows","numbers","begin","end"] [])(k1:kI9 K g1)(m1:mI9 mg "way_along" g1) :
  aM P w K mg base CX 5 f fd ["net","words"] (Gb CN K):=by
 refine F.ok iZ (fun vs H Q E h=>?_) fun cdv A outer s H vs Q E hr h=>?_
 ·obtain⟨_,_,_,_,_,_,rfl,_⟩:=h;rfl
 obtain⟨n,l,v,m,ds,W,rfl,nt,pt,h20,h40,hW,q⟩:=h;have r1:=hr.mono (show 1<=4 by omega);have r2:=hr.mono (show 2<=4 by omega);refine⟨_,(aC (aS (i:=2) iZ.nd rfl (Or.inl rfl) (kO (lT (zK (pv 1))) (dG (v:=.ref aJ) rfl mJO rfl) (pv 1)))
  (aC (aS (i:=3) iZ.nd rfl (Or.inl rfl) (gB (pv 0) NTx.cl mRo GRo hr bRo .nil aL))
  (aC (aS (i:=4) iZ.nd rfl (Or.inl rfl) (cX aB))
  (aC (aS (i:=5) iZ.nd rfl (Or.inl rfl) (cX aB))
  (aC (gA PassesOwn.never rfl (tN rfl men rfl (aA (pv 3) aB)) (lF rfl (dC (bL (i:=6) iZ.nd rfl (Or.inl rfl)) (dC (bL (i:=7) iZ.nd rfl (Or.inl rfl)) iY)))
   (aH (cK (bM Im (fZ (pv 7) T.cl mW GW r1 bW .nil aL) (pv 2) rfl) (aC (aS (i:=8) iZ.nd rfl (Or.inl rfl) (aG G1 r2 rfl m1 k1 b1 .nil aL (aA (pv 3) (aA (pv 4) (aA (cN (pv 7) rfl) (aA (cN (pv 7) rfl) aB))))))
  (aH (cK (lT (zK (pv 8))) (aH (bU (vT PySem.F.plainAttrs_list PySem.F.slot_list_append PySem.F.type_list_append gO (pv 4) (aA (pv 6) aB)))) (aH (bU (vT PySem.F.plainAttrs_list PySem.F.slot_list_append PySem.F.type_list_append gO (pv 5) (aA (aY nH (cX (aA (dM (aA (pv 6) (aA aF aB))) aB)) (pv 8)) aB))))))) bK)))
  (aH (aZ (pv 5)))))))),?_⟩
 refine Pn (fun σ' H'=>H'=H/\∃wv,σ'=[some (.ref n),some v,some wv,none,none,none,none,none,none]/\WdA K H wv W) (fun X hX=>?_) ?_
 ·cases hW with
  |non=>exact⟨_,rfl,_,rfl,ifT rfl (hX _ _ ⟨rfl,_,rfl,aJ,_,rfl,.inr (fJ H),rfl,Zh⟩)⟩
  | @seq a ws h f=>exact⟨_,rfl,_,rfl,ifF rfl ⟨_,rfl,hX _ _ ⟨rfl,_,rfl,a,_,rfl,.inl h,f,fun _=>rfl⟩⟩⟩
 rintro σ' H' ⟨hH',wv,rfl,hw⟩;subst hH';obtain⟨dx,hn⟩:=nt.ob;refine⟨_,rfl,n,dx,_,rfl,hn,eT _ _ (by decide +kernel) (by decide +kernel),n,l,_,ds,rfl,nt,by omega,fun a xs H1 s1 na ea Rb=>?_⟩;have lxs:=Rb.length;refine⟨zl9 0,fun B hB=>?_⟩;have nB:H' B=none:=s1.free hB;have sB:=aI hB (.lst []);have eB:upd H1 B (.lst []) B=some (.lst []):=aD;generalize upd H1 B (.lst [])=H2 at sB eB ⊢;refine⟨zl9 0,fun F hF=>?_⟩;have nF:H' F=none:=(s1.trans sB).free hF;have nBF:B≠F:=bC eB hF;have sF:=aI hF (.lst []);have eF:upd H2 F (.lst []) F=some (.lst []):=aD;generalize upd H2 F (.lst [])=H3 at sF eF ⊢;have s3:=s1.trans (sB.trans sF);have ea3:=(sB.trans sF) _ _ ea;have naB:a≠B:=bC ea hB;have naF:a≠F:=bC (sB _ _ ea) hF;have sk:=Oc ds;have slt:=Ym pt;have s13:=sB.trans sF;refine⟨_,rfl,a,rfl,⟨_,SqL.of ea3⟩,?_⟩;have nB1:H1 B=none:=hB;have nF1:H1 F=none:=sB.free hF;refine Pk (xs:=xs) (fun i σ HH=>bF H1 HH/\∃(us:List V) (z6 z7 z8:Option V),σ=[some (.ref n),some v,some wv,some (.ref a),some (.ref B),some (.ref F),z6,z7,z8]/\HH B=some (.lst ((fD W (skl ds) i).1.map fun (e:Br)=>V.int ((e.1:Nat):Int)))/\HH F=some (.lst us)/\Rgs K H' HH us ((fD W (skl ds) i).2.map (·.2))/\∀x∈us,x≠.ref F/\x≠.ref B) ⟨s13,[],none,none,none,rfl,sF _ _ eB,eF,.nil,fun x hx=>(by cases hx)⟩ (fun i σ HH _ h=>h.1.seq (SqL.of ea)) ?_ ?_
 ·rintro i x σ H4 T2 hx ⟨s4,us,z6,z7,z8,rfl,eB4,eF4,G4,nx4⟩ hT;have hi:i < ds.length:=by
   have:=(List.getElem?_eq_some_iff.mp hx).1;omega
  obtain⟨⟨k0,u,v0,p0⟩,hd⟩:∃d,ds[i]?=some d:=⟨_,List.getElem?_eq_getElem hi⟩
  obtain⟨y,z,ey,rw0,fz0⟩:=Rb.at hd;have ex:x=.ref y:=by rw[ey] at hx;exact(Option.some.inj hx).symm
  subst ex;obtain⟨u0,u1,v1,v2⟩:dA (m:Int) u v0:=pt _ (List.mem_of_getElem? hd);obtain⟨uN,rfl⟩:∃n:Nat,u=(n:Int):=⟨u.toNat,by omega⟩
  obtain⟨vN,rfl⟩:∃n:Nat,v0=(n:Int):=⟨v0.toNat,by omega⟩
  have skd:(skl ds)[i]?=some (k0,uN,vN):=by
   have:=Uu hd
   rwa [show ((k0,(uN:Int),(vN:Int),p0):RD).2.1.toNat=uN from Int.toNat_natCast uN,show ((k0,(uN:Int),(vN:Int),p0):RD).2.2.1.toNat=vN from Int.toNat_natCast vN] at this
  have ri:=uX (W:=W) slt i (by omega);have bo:=Tm pt ri;have bl':=Ky (W:=W) (sk:=skl ds) i;have gl:=G4.l;rw[List.length_map] at gl;have rl:=ri.rl;have succ:=iM (W:=W) skd;generalize fD W (skl ds) i=S at eB4 G4 ri bo bl' gl rl succ;have sT:=aI hT (.tup [.int (i:Int),.ref y]);refine⟨T2,_,rfl,SqT.of aD,rfl,_,_,rfl,_,_,rfl,rfl,?_⟩;have nT1:H1 T2=none:=s4.free hT;generalize upd H4 T2 (.tup [.int (i:Int),.ref y])=H5 at sT ⊢;have s5:=s4.trans sT;have eB5:=sT _ _ eB4;have eF5:=sT _ _ eF4;have G5:=G4.same sT;obtain⟨dr,hy⟩:=id (rw0.same s5);obtain⟨pw,ws,ew,hws,fl,hinv⟩:=hw.same (s1.trans s5);refine⟨_,rfl,k0,y,dr,_,rfl,hy,(fC _ _ _ (by decide +kernel) (by decide +kernel) (by decide +kernel)),_,rfl,_,rfl,pw,ws,ew,hws,rfl,fl,_,rfl,?_⟩;have hin:inV (.str k0.wd) ws=W k0:=hinv k0
  by_cases hk:W k0=true
  ·refine ifT (by show (if false=true then _ else inV (V.str k0.wd) ws)=true;rw[if_neg (by decide),hin];exact hk) ?_;refine⟨_,rfl,_,rfl,_,rfl,y,CK _,_,_,_,rfl,hy,T.cl _,T.nG _,eX _ _ _,_,rfl,y,CK _,_,_,_,rfl,hy,T.cl _,T.nS _,dZ _ _ _,a,B,xs,ds,S.1,m,vN,uN,rfl,s5.seq (SqL.of ea),Rb.same s5,SqL.of eB5,bo,by omega,ri.pt,h20,by omega,fun hnone H6 s6=>?_,fun st hst l' ys H6 s6 nl el S6=>?_⟩
   ·refine⟨_,rfl,_,rfl,ifT rfl ?_⟩;have eB6:=s6 _ _ eB5;have s06:=s5.trans s6;refine⟨_,rfl,.inl ⟨rfl,_,SqL.of eB6⟩,_,rfl,B,_,_,rfl,rfl,eB6,bH (by rw[List.length_map];omega),?_⟩;have eS:iT W S i (k0,uN,vN)=(S.1++[(i,uN,vN)],S.2):=by
     unfold iT;rw[if_pos hk,hnone]
    rw[succ,eS];refine⟨s06.change nB1,us,_,_,_,rfl,?_,by rw[aV (Ne.symm nBF)];exact s6 _ _ eF5,(G5.same s6).updO eB6 (fun x hx=>(nx4 x hx).2),nx4⟩;rw[aD,List.map_append];rfl
   ·refine⟨_,rfl,_,rfl,ifF rfl ?_⟩;have eF6:=s6 _ _ eF5;have s06:=s5.trans s6;refine⟨_,rfl,.inl ⟨rfl,_,SqL.of eF6⟩,_,rfl,zl9 2,fun t ht=>?_⟩;have st7:=aI ht (.tup [.int (i:Int),.int 1]);have et:SqT K (upd H6 t (.tup [.int (i:Int),.int 1])) t [.int (i:Int),.int 1]:=SqT.of aD;generalize upd H6 t (.tup [.int (i:Int),.int 1])=H7 at st7 et ⊢;refine⟨zl9 1,fun L1 hL1=>?_⟩;have s8:=aI hL1 (.lst [.ref t]);have e8:upd H7 L1 (.lst [.ref t]) L1=some (.lst [.ref t]):=aD;generalize upd H7 L1 (.lst [.ref t])=H8 at s8 e8 ⊢;have lst':=yG ri.pt (show vN < m by omega) hst;have lys:=S6.length;refine⟨_,rfl,L1,l',_,_,rfl,rfl,e8,(st7.trans s8) _ _ el,by rw[sizeLine_eq];simp only[List.length_cons,List.length_nil];omega,fun C hC=>?_⟩;have nC8:H8 C=none:=hC;have s9:=aI hC (.lst ([.ref t]++ys));have e9:upd H8 C (.lst ([.ref t]++ys)) C=some (.lst ([.ref t]++ys)):=aD;generalize upd H8 C (.lst ([.ref t]++ys))=H9 at s9 e9 ⊢;have s69:=st7.trans (s8.trans s9);have eF9:=s69 _ _ eF6;have s09:=s06.trans s69;have nCF:C≠F:=Ne.symm (bC ((st7.trans s8) _ _ eF6) nC8);have nCB:C≠B:=Ne.symm (bC ((st7.trans s8) _ _ (s6 _ _ eB5)) nC8);refine⟨F,_,_,rfl,rfl,eF9,bH (by omega),?_⟩;have eS:iT W S i (k0,uN,vN)=(S.1,S.2++[(i,(i,1) :: st)]):=by
     unfold iT;rw[if_pos hk,hst]
    rw[succ,eS];have SC:Sts K H9 ([.ref t]++ys) ((i,1) :: st):=.cons ((s8.trans s9).seqT et) (S6.same s69);refine⟨s09.change nF1,us++[.ref C],_,_,_,rfl,by rw[aV nBF];exact s69 _ _ (s6 _ _ eB5),aD,?_,fun x hx=>?_⟩
    ·rw[List.map_append];have G9:=((G5.same s6).same s69).snoc (((s1.trans s06).trans (st7.trans s8)).free nC8) e9 SC;refine G9.updO eF9 fun x hx=>?_;rcases List.mem_append.mp hx with z | z
     ·exact(nx4 x z).1
     ·have:x=.ref C:=by simpa using z
      rw[this];exact fun z=>nCF (by injection z)
    ·rcases List.mem_append.mp hx with z | z
     ·exact nx4 x z
     ·have:x=.ref C:=by simpa using z
      rw[this];exact⟨fun z=>nCF (by injection z),fun z=>nCB (by injection z)⟩
  ·refine ifF (by show (if false=true then _ else inV (V.str k0.wd) ws)=false;rw[if_neg (by decide),hin];simpa using hk) ?_;have eS:iT W S i (k0,uN,vN)=S:=by
    unfold iT;rw[if_neg hk]
   rw[succ,eS];exact⟨s5,us,_,_,_,rfl,eB5,eF5,G5,nx4⟩
 rintro σ H4 ⟨s4,us,z6,z7,z8,rfl,eB4,eF4,G4,nx4⟩;rw[lxs] at G4;exact⟨_,rfl,q F us H4 (s1.trans s4) nF eF4 G4 fun x hx=>(nx4 x hx).1⟩
abbrev iJ:Stmt:=eV (top 36) 1
theorem Ec:aT ["self"] ["self"] (aE iJ):=sK9 rfl rfl rfl rfl (by decide +kernel)
theorem Cg {dV:Value}(F:bZ K "joins" "Piece.joins" iJ dV f fd):aM P w K mg base CX 1 f fd ["self"] (mQ .pc):=by
 refine F.ok Ec (fun vs H Q E h=>?_) fun cdv A outer s H vs Q E hr h=>?_
 ·obtain⟨_,rfl,_⟩:=h;rfl
 obtain⟨x,rfl,q⟩:=h;exact⟨_,(aH (aZ jV)),q⟩
abbrev iI:Stmt:=eV (top 37) 1
theorem Dc:aT ["self"] ["self"] (aE iI):=sK9 rfl rfl rfl rfl (by decide +kernel)
theorem Co {dV:Value}(F:bZ K "joins" "Push.joins" iI dV f fd):aM P w K mg base CX 1 f fd ["self"] (mQ .pu):=by
 refine F.ok Dc (fun vs H Q E h=>?_) fun cdv A outer s H vs Q E hr h=>?_
 ·obtain⟨_,rfl,_⟩:=h;rfl
 obtain⟨x,rfl,q⟩:=h;exact⟨_,(aH (aZ jV)),q⟩
abbrev iH:Stmt:=eV (top 38) 1
theorem Df:aT ["self"] ["self"] (aE iH):=sK9 rfl rfl rfl rfl (by decide +kernel)
theorem By {dV:Value}(F:bZ K "joins" "Hold.joins" iH dV f fd):aM P w K mg base CX 1 f fd ["self"] (mQ .ho):=by
 refine F.ok Df (fun vs H Q E h=>?_) fun cdv A outer s H vs Q E hr h=>?_
 ·obtain⟨_,rfl,_⟩:=h;rfl
 obtain⟨x,rfl,q⟩:=h;exact⟨_,(aH (aZ jV)),q⟩
def Ck (K:Frag)(CK:Kd->Addr):Sp:=fun vs H Q _=>∃(a x:Addr) (ms:List Int) (k:Kd) (s g:Nat) (z:V),vs=[.ref a,.ref x]/\SqL K H a (ms.map V.int)/\Rw CK H x k (.int (s:Int)) (.int (g:Int)) z/\s < ms.length/\g < ms.length/\ms.length<=100/\∀l H',bF H H'->H l=none->H' l=some (.lst ((jn ms s g).map V.int))->Q (.ref l) H'
def Gg (CN:Addr)(K:Frag):Sp:=fun vs H Q _=>∃(n l:Addr) (m:Nat) (ds:List RD),vs=[.ref n]/\fY CN K H n l (m:Int) ds/\(∀d∈ds,dA (m:Int) d.2.1 d.2.2.1)/\m<=20/\ds.length<=100/\∀l' H',bF H H'->H l'=none->H' l'=some (.lst ((mks m ds).map V.int))->Q (.ref l') H'
def Mg (m:Nat)(ds:List RD):List Int:=((List.range m).filter fun p=>decide (mk m ds p≠mk m ds 0)).map fun (p:Nat)=>(p:Int)
def Fi (CN:Addr)(K:Frag):Sp:=fun vs H Q _=>∃(n l:Addr) (m:Nat) (ds:List RD),vs=[.ref n]/\fY CN K H n l (m:Int) ds/\(∀d∈ds,dA (m:Int) d.2.1 d.2.2.1)/\1<=m/\m<=20/\ds.length<=100/\∀l' H',bF H H'->H l'=none->H' l'=some (.lst ((Mg m ds).map V.int))->Q (.ref l') H'
theorem oS:(["mark","lost","kept"]:List Str).Nodup:=by decide +kernel
abbrev mM:Stmt:=top 29
theorem uT:aT ["marks","row","kept","lost"] ["marks","row"] (aE mM):=sK9 rfl rfl rfl rfl (by decide +kernel)
theorem Hm {dV:Value}(F:bZ K "joined" "joined" mM dV f fd)(T:RT K mg CR CK) :
  aM P w K mg base CX 1 f fd ["marks","row"] (Ck K CK):=by
 refine F.ok uT (fun vs H Q E h=>?_) fun cdv A outer s H vs Q E hr h=>?_
 ·obtain⟨_,_,_,_,_,_,_,rfl,_⟩:=h;rfl
 obtain⟨a,x,ms,k,s0,g0,z,rfl,hS,rw,hs,hg,h100,q⟩:=h;refine⟨_,(aC (aS (i:=2) uT.nd rfl (Or.inr rfl) (aU bY (pv 0) (cN (pv 1) rfl) (fun _ _=>rfl)))
  (aC (aS (i:=3) uT.nd rfl (Or.inr rfl) (aU bY (pv 0) (cN (pv 1) rfl) (fun _ _=>rfl)))
  (aH (aZ (gL (nl:=1) (fr:=[3,2]) (Nc:=["mark","lost","kept"]) (cl:=[("lost",s.heap.objs.size+2),("kept",s.heap.objs.size+1)]) rfl ⟨rfl,rfl,by decide +kernel,by decide +kernel,(fX rfl (fX rfl (tH))),gD rfl,rfl,fun i n h=>match i,h with | 0,h=>by cases h;exact⟨3,rfl,rfl,rfl,rfl,.inl rfl⟩ | 1,h=>by cases h;exact⟨2,rfl,rfl,rfl,rfl,.inl rfl⟩ | k+2,h=>by rw[show 1+(k+2)=k+3 by omega] at h;cases h⟩
    (fB (pv 0)) (fun C s3 H3 fp pins=>(bL (i:=0) oS rfl (Or.inl rfl))) (fun C s3 H3 fp pins=>gK)
    (fun C s3 H3 fp pins=>(kO (bM gH (pv 0) (pv 1) (bO _)) (pv 2) (pv 0)))))))),?_⟩
 obtain⟨dx,hx⟩:=id rw;have gi:∀{j:Nat},j < ms.length->atI (ms.map V.int) (j:Int)=some (.int (ms.getD j 0)):=fun h=>cI (by rw[List.getElem?_map,List.getElem?_eq_getElem h,List.getD_eq_getElem?_getD,List.getElem?_eq_getElem h];rfl);refine⟨_,rfl,_,rfl,x,CK _,_,_,_,rfl,hx,T.cl _,T.nS _,dZ _ _ _,a,_,_,_,rfl,rfl,hS,gi hs,?_⟩;refine⟨_,rfl,_,rfl,x,CK _,_,_,_,rfl,hx,T.cl _,T.nG _,eX _ _ _,a,_,_,_,rfl,rfl,hS,gi hg,?_⟩;refine⟨_,rfl,a,rfl,⟨_,hS⟩,fun D hD=>?_⟩;have sD:=aI hD (.lst []);refine gV (xs:=ms.map V.int) (fun i zs H'=>bF H H'/\H' D=some (.lst zs)/\zs=((jn ms s0 g0).take i).map V.int) ⟨sD,aD,rfl⟩ (fun i zs H' h=>h.2.1) (fun i zs H' _ h=>h.1.seq hS) ?_ ?_
 ·rintro i zs x H1 hx' ⟨s1,e1,rfl⟩ C hC;rw[List.getElem?_map] at hx';obtain⟨c,hc,rfl⟩:=Option.map_eq_some_iff.mp hx';have hi:i < ms.length:=(List.getElem?_eq_some_iff.mp hc).1;have ej:(jn ms s0 g0)[i]?=some (if c=ms.getD g0 0 then ms.getD s0 0 else c):=by unfold jn;rw[List.getElem?_map,hc];rfl
  have lj:(jn ms s0 g0).length=ms.length:=by unfold jn;rw[List.length_map]
  refine⟨gG.1,gG.2,fM ?_⟩;refine⟨_,rfl,_,rfl,rfl,_,rfl,?_⟩
  by_cases h:c=ms.getD g0 0
  ·rw[if_pos h] at ej;refine ifT (decide_eq_true (by rw[h])) ⟨_,rfl,e1,bH (by rw[List.length_map,List.length_take];omega),hC _ _ ⟨s1.change hD,aD,?_⟩⟩;rw[List.take_add_one,ej,List.map_append];rfl
  ·rw[if_neg h] at ej;refine ifF (decide_eq_false (fun z=>h (by injection z))) ⟨_,rfl,e1,bH (by rw[List.length_map,List.length_take];omega),hC _ _ ⟨s1.change hD,aD,?_⟩⟩;rw[List.take_add_one,ej,List.map_append];rfl
 ·rintro zs H1 ⟨s1,e1,rfl⟩;have lj:(jn ms s0 g0).length=ms.length:=by unfold jn;rw[List.length_map]
  rw[List.length_map,<- lj,List.take_length] at e1;exact q D H1 s1 hD e1
abbrev qY:Stmt:=top 28
theorem tS:aT ["net","marks","row"] ["net"] (aE qY):=sK9 rfl rfl rfl rfl (by decide +kernel)
theorem Lq {dV:Value}(F:bZ K "marks_of" "marks_of" qY dV f fd){CN:Addr}(mli:mg "list"=none)(mra:mg "range"=none)(NTx:NT K mg CN)(T:RT K mg CR CK){fJ:Kd->Addr}{fdJ:Kd->FuncData}(GJ:∀k,aM P w K mg base CX0 1 (fJ k) (fdJ k) ["self"] (mQ k))(bJ:∀k,aQ K (fdJ k) ["self"] [])(mJ:∀k,iB K (CK k) "joins" (fJ k)){gMa:Addr}{gdMa:FuncData}(GMa:aM P w K mg base CX0 1 gMa gdMa ["self"] (rC CN K))(bMa:aQ K gdMa ["self"] [])(mMa:iB K CN "many" gMa){gRo:Addr}{gdRo:FuncData}(GRo:aM P w K mg base CX0 4 gRo gdRo ["self"] (vO CN K CK))(bRo:aQ K gdRo ["self"] [])(mRo:iB K CN "rows" gRo)(G1:aM P w K mg base CX0 1 g1 gd1 ["marks","row"] (Ck K CK))(b1:aQ K gd1 ["marks","row"] [])(k1:kI9 K g1)(m1:mI9 mg "joined" g1) :
  aM P w K mg base CX 5 f fd ["net"] (Gg CN K):=by
 refine F.ok tS (fun vs H Q E h=>?_) fun cdv A outer s H vs Q E hr h=>?_
 ·obtain⟨_,_,_,_,rfl,_⟩:=h;rfl
 obtain⟨n,l,m,ds,rfl,nt,pt,hm,h100,q⟩:=h;have r1:=hr.mono (show 1<=4 by omega);refine⟨_,(aC (aS (i:=1) tS.nd rfl (Or.inl rfl) (zF rfl rfl mli rfl mra (aA (gB (pv 0) NTx.cl mMa GMa r1 bMa .nil aL) aB)))
  (aC (gA PassesOwn.never rfl (fB (gB (pv 0) NTx.cl mRo GRo hr bRo .nil aL)) (bL (i:=2) tS.nd rfl (Or.inl rfl))
   (aH (cK (cY (fZ (pv 2) T.cl mJ GJ r1 bJ .nil aL)) (aH (aS (i:=1) tS.nd rfl (Or.inl rfl) (aG G1 r1 rfl m1 k1 b1 .nil aL (aA (pv 1) (aA (pv 2) aB))))) bK)))
  (aH (aZ (pv 1))))),?_⟩
 obtain⟨dx,hn⟩:=nt.ob;refine⟨_,rfl,n,dx,_,rfl,hn,eT _ _ (by decide +kernel) (by decide +kernel),n,l,_,ds,rfl,nt,m,rfl,by omega,fun D hD=>?_⟩;have sD:=aI hD (.lst ((List.range m).map fun (i:Nat)=>V.int (i:Int)));have eD:upd H D (.lst ((List.range m).map fun (i:Nat)=>V.int (i:Int))) D=some (.lst ((mks m (ds.take 0)).map V.int)):=by
  rw[aD];show some (HO.lst _)=some (HO.lst ((Iz m).map V.int));unfold Iz;rw[List.map_map];rfl
 generalize upd H D (.lst ((List.range m).map fun (i:Nat)=>V.int (i:Int)))=H1 at sD eD ⊢;refine⟨_,rfl,n,dx,_,rfl,sD _ _ hn,eT _ _ (by decide +kernel) (by decide +kernel),n,l,_,ds,rfl,nt.same sD,h100,fun a xs H2 s2 na ea Rb=>?_⟩;have lxs:=Rb.length;refine⟨a,rfl,⟨_,SqL.of ea⟩,?_⟩;refine hV (xs:=xs) (fun i σ H'=>bF H2 H'/\∃(c:Addr) (z:Option V),σ=[some (.ref n),some (.ref c),z]/\H c=none/\H' c=some (.lst ((mks m (ds.take i)).map V.int))) ⟨bF.refl _,D,none,rfl,hD,s2 _ _ eD⟩ (fun i σ H' _ h=>h.1.seq (SqL.of ea)) ?_ ?_
 ·rintro i x σ H3 hx ⟨s3,c,z,rfl,nc,ec⟩;have hi:i < ds.length:=by
   have:=(List.getElem?_eq_some_iff.mp hx).1;omega
  obtain⟨⟨k,u,v,p⟩,hd⟩:∃d,ds[i]?=some d:=⟨_,List.getElem?_eq_getElem hi⟩
  obtain⟨y,z',ey,rw,fz⟩:=Rb.at hd;have ex:x=.ref y:=by rw[ey] at hx;exact(Option.some.inj hx).symm
  subst ex;have rw3:=rw.same s3;obtain⟨dr,hy⟩:=id rw3;have et:ds.take (i+1)=ds.take i++[(k,u,v,p)]:=by rw[List.take_add_one,hd];rfl
  obtain⟨u0,u1,v0,v1⟩:dA (m:Int) u v:=pt _ (List.mem_of_getElem? hd);refine⟨_,rfl,k,y,dr,_,rfl,hy,(fC _ _ _ (by decide +kernel) (by decide +kernel) (by decide +kernel)),_,rfl,_,rfl,?_⟩
  by_cases hk:k=.pu
  ·refine ifF (decide_eq_false (fun z=>z hk)) ⟨s3,c,_,rfl,nc,?_⟩;rw[et,oK];unfold iQ;rw[if_pos hk];exact ec
  ·refine ifT (decide_eq_true hk) ⟨_,rfl,_,rfl,c,y,mks m (ds.take i),k,u.toNat,v.toNat,.ref z',rfl,SqL.of ec,?_,by rw[pQ];omega,by rw[pQ];omega,by rw[pQ];omega,fun c' H4 s4 nc' ec'=>⟨s3.trans s4,c',_,rfl,?_,?_⟩⟩
   ·rw[show ((u.toNat:Nat):Int)=u by omega,show ((v.toNat:Nat):Int)=v by omega];exact rw3
   ·exact((sD.trans s2).trans s3).free nc'
   ·rw[et,oK];unfold iQ;rw[if_neg hk];exact ec'
 ·rintro σ H3 ⟨s3,c,z,rfl,nc,ec⟩;rw[show ds.take xs.length=ds by rw[lxs,List.take_length]] at ec;exact⟨_,rfl,q c H3 ((sD.trans s2).trans s3) nc ec⟩
theorem iD:(["point","mark","marks"]:List Str).Nodup:=by decide +kernel
abbrev pU:Stmt:=top 27
theorem Gp:aT ["net","marks"] ["net"] (aE pU):=sK9 rfl rfl rfl rfl (by decide +kernel)
theorem Nf {dV:Value}(F:bZ K "floating" "floating" pU dV f fd){CN:Addr}(men:mg "enumerate"=none)(G1:aM P w K mg base CX0 5 g1 gd1 ["net"] (Gg CN K))(b1:aQ K gd1 ["net"] [])(k1:kI9 K g1)(m1:mI9 mg "marks_of" g1) :
  aM P w K mg base CX 6 f fd ["net"] (Fi CN K):=by
 refine F.ok Gp (fun vs H Q E h=>?_) fun cdv A outer s H vs Q E hr h=>?_
 ·obtain⟨_,_,_,_,rfl,_⟩:=h;rfl
 obtain⟨n,l,m,ds,rfl,nt,pt,h1,hm,h100,q⟩:=h;refine⟨_,(aC (aS (i:=1) Gp.nd rfl (Or.inr rfl) (aG G1 hr rfl m1 k1 b1 .nil aL (aA (pv 0) aB)))
  (aH (aZ (gL (nl:=2) (fr:=[1]) (Nc:=["point","mark","marks"]) (cl:=[("marks",s.heap.objs.size+1)]) (g:=(Ju K 2 (lL (jL 0) (lL (jL 1) Ir)))) rfl ⟨rfl,rfl,by decide +kernel,by decide +kernel,fun x c h=>h,gD rfl,rfl,fun i n h=>match i,h with | 0,h=>by cases h;exact⟨1,rfl,rfl,rfl,rfl,.inl rfl⟩ | k+1,h=>by rw[show 2+(k+1)=k+3 by omega] at h;cases h⟩
    (tN rfl men rfl (aA (pv 1) aB)) (fun C s3 H3 fp pins=>(lF rfl (dC (bL (i:=0) iD rfl (Or.inl rfl)) (dC (bL (i:=1) iD rfl (Or.inl rfl)) iY)))) (fun C s3 H3 fp pins=>(tU (bM rW (pv 1) (aU (uZ (K:=K) rfl) (pv 2) aF (fun _ _=>rfl)) (bO _))))
    (fun C s3 H3 fp pins=>(pv 0)))))),?_⟩
 refine⟨_,rfl,n,l,m,ds,rfl,nt,pt,hm,h100,fun M H1 s1 nM eM=>?_⟩;have mlen:=pQ m ds;have hS:SqL K H1 M ((mks m ds).map V.int):=SqL.of eM;refine⟨_,rfl,M,rfl,⟨_,hS⟩,fun D hD=>?_⟩;have sD:=aI hD (.lst []);refine qZ (xs:=(mks m ds).map V.int) (fun i zs H'=>bF H1 H'/\H' D=some (.lst zs)/\zs=(((List.range i).filter fun p=>decide (mk m ds p≠mk m ds 0)).map fun (p:Nat)=>V.int (p:Int))) ⟨sD,aD,rfl⟩ (fun i zs H' h=>h.2.1) (fun i zs H' _ h=>h.1.seq hS) ?_ ?_
 ·rintro i zs x H2 T2 hx ⟨s2,e2,rfl⟩ hT C hC;rw[List.getElem?_map] at hx;obtain⟨c,hc,rfl⟩:=Option.map_eq_some_iff.mp hx;have hi:i < m:=by have:=(List.getElem?_eq_some_iff.mp hc).1;omega
  have ec:c=mk m ds i:=by unfold mk;rw[List.getD_eq_getElem?_getD,hc];rfl
  have g0:atI ((mks m ds).map V.int) 0=some (.int (mk m ds 0)):=cI (j:=0) (by unfold mk;rw[List.getElem?_map,List.getElem?_eq_getElem (by omega),List.getD_eq_getElem?_getD,List.getElem?_eq_getElem (by omega)];rfl);have ll:(((List.range i).filter fun p=>decide (mk m ds p≠mk m ds 0)).map fun (p:Nat)=>V.int (p:Int)).length<=20:=by
   rw[List.length_map];have:=List.length_filter_le (fun p=>decide (mk m ds p≠mk m ds 0)) (List.range i);rw[List.length_range] at this;omega
  have sT:=aI hT (.tup [.int (i:Int),.int c]);refine⟨T2,_,rfl,SqT.of aD,rfl,_,_,rfl,_,_,rfl,rfl,mZ.1,mZ.2,?_⟩;generalize upd H2 T2 (.tup [.int (i:Int),.int c])=H3 at sT ⊢;have s3:=s2.trans sT;have e3:=sT _ _ e2;refine⟨_,rfl,_,rfl,M,_,_,_,rfl,rfl,s3.seq hS,g0,rfl,_,rfl,?_⟩;subst ec
  by_cases h:mk m ds i=mk m ds 0
  ·refine ifF (by rw[h];simp) (hC _ _ ⟨s3,e3,?_⟩);rw[List.range_succ,List.filter_append,List.filter_cons_of_neg (by simp[h])];simp
  ·refine ifT (by simp[h]) ⟨_,rfl,e3,bH (by omega),hC _ _ ⟨s3.change hD,aD,?_⟩⟩;rw[List.range_succ,List.filter_append,List.filter_cons_of_pos (by simp[h]),List.map_append];rfl
 ·rintro zs H2 ⟨s2,e2,rfl⟩;refine q D H2 (s1.trans s2) (s1.free hD) ?_;rw[List.length_map,mlen] at e2;rw[e2];unfold Mg;rw[List.map_map];rfl
end
end K67
namespace Mq
def KJ (m:Nat)(A1:Mat)(R:List (List Int)):Prop:=∀Φ,Lin Φ->(∀i,i < m->Φ (A1 i)=0)->∀k,k < m->Φ (at2 R k)=0
theorem KJ.swap {m:Nat}{A1:Mat}{R:List (List Int)}(h:KJ m A1 R)(hl:R.length=m){p r:Nat}(hp:p < m)(hr:r < m):KJ m A1 (fI R p r):=fun Φ lin hz k hk=>by
 have e:at2 (fI R p r) k=at2 R (sw p r k):=by
  funext x
  rw[rO (by omega) (by omega)]
 rw[e];exact h Φ lin hz _ (zO hp hr hk)
theorem KJ.clear {m w:Nat}{A0 A1:Mat}{R:List (List Int)}{r col:Nat}{d sg:Int}(h:KJ m A1 R)(s:SI m w A0 R r col d sg)(hr:r < m)(hc:col < w)(he:ent R r col≠0):KJ m A1 (cH R r col d):=fun Φ lin hz k hk=>by
 have cl:=fun (x:Nat)=>tO s hr hc he hk x;have z:=h Φ lin hz
 by_cases e:k=r
 ·have e2:at2 (cH R r col d) k=at2 R k:=by funext x;rw[cl x,if_pos e]
  rw[e2];exact z k hk
 ·have e2:at2 (cH R r col d) k=fun x=>(fun x=>(at2 R r col / (d:Rat))*at2 R k x) x+(-(at2 R k col / (d:Rat)))*at2 R r x:=by
   funext x
   show _=(at2 R r col / (d:Rat))*at2 R k x+_;rw[cl x,if_neg e];grind
  rw[e2,lin,lin.mul,z k hk,z r hr];grind
theorem KJ.whole {m w:Nat}{A0 A1:Mat}{R:List (List Int)}{d sg:Int}(h:KJ m A1 R)(s:SI m w A0 R m m d sg){v:Nat->Rat}(hv:∀i,i < m->(rs m fun k=>A1 i k*v k)=A1 i m){k:Nat}(hk:k < m):at2 R k m / (d:Rat)=v k:=by
 obtain⟨A,c,B,e⟩:=s.bar;have dn:=B.dne;have:=h (fun f=>(rs m fun k=>f k*v k) - f m) (fun x y l=>by
  have:(rs m fun k=>(x k+l*y k)*v k)=(rs m fun k=>x k*v k+l*(y k*v k)):=aK fun k _=>by grind
  show (rs m fun k=>(x k+l*y k)*v k) - (x m+l*y m)=((rs m fun k=>x k*v k) - x m)+l*((rs m fun k=>y k*v k) - y m)
  rw[this,cV,eI];grind) (fun i hi=>by
  show (rs m fun k=>A1 i k*v k) - A1 i m=0;rw[hv i hi];grind) k hk
 have e1:(rs m fun j=>at2 R k j*v j)=rs m fun j=>if j=k then (d:Rat)*v k else 0:=aK fun j hj=>by
  have i2:=B.i2 k j hk hj;rw[B.full rfl j hj] at i2;rw[i2]
  by_cases z:j=k
  ·rw[if_pos z,if_pos z,z]
  ·rw[if_neg z,if_neg z];grind
 have e2:(rs m fun j=>at2 R k j*v j) - at2 R k m=0:=this;rw[e1,lC m k _ hk] at e2;grind
end Mq
namespace Shp
open PySem L2
theorem Aw {m w:Nat}{A0 A1:Mq.Mat}:Stp m w A0 (fun R=>Mq.KI m A1 R/\Mq.KJ m A1 R):=
 ⟨fun R r col d sg p s h1 h2 h=>⟨h.1.swap s.len h2 (by omega),h.2.swap s.len h2 (by omega)⟩,fun R r col d sg s h1 h2 h3 h=>⟨h.1.clear s h1 h2 h3,h.2.clear s h1 h2 h3⟩⟩
theorem Vq {X:List (List Mq.Q2)}{qs:List Mq.Q2}(hX:Mq.eQ X)(hq:Mq.Pos qs)(hl:qs.length=X.length)(hw:∀row∈X,row.length=X.length){R:List (List Int)}{w:Nat}{d sg:Int}(h:Mq.KJ X.length (Mq.at2 (gN X qs)) R)(s:Mq.SI X.length w (Mq.at2 (gN X qs)) R X.length X.length d sg){v:Nat->Rat}(hv:∀i,i < X.length->(Mq.rs X.length fun j=>oB X i j*v j)=Mq.val (qs.getD i Mq.z0)){k:Nat}(hk:k < X.length):Mq.at2 R k X.length / (d:Rat)=v k:=by
 refine h.whole s (fun i hi=>?_) hk;rw[uI hX hq hl hw hi (by omega),if_neg (by omega),<- hv i hi,<- Mq.eI];refine Mq.aK fun k hk=>?_;rw[uI hX hq hl hw hi (by omega),if_pos hk];grind
abbrev MxR (X:List (List Mq.Q2)):Prop:=Mq.eQ X/\(∀row∈X,(∀p∈row,Mq.Bd 8 p)/\row.length=X.length)/\X.length<=8
abbrev RtR (X:List (List Mq.Q2))(qs:List Mq.Q2):Prop:=qs.length=X.length/\Mq.kG qs/\∀p∈qs,Mq.Bd 240 p
structure Vr (X:List (List Mq.Q2)) (qs ps:List Mq.Q2):Prop extends Slv X qs ps where
 uni:∀v:Nat->Rat,(∀i,i < X.length->(Mq.rs X.length fun j=>oB X i j*v j)=Mq.val (qs.getD i Mq.z0))->∀j,j < X.length->Mq.val (ps.getD j Mq.z0)=v j
end Shp
namespace Mq
theorem Wb.rs5 {n K:Nat}{f:Nat->Rat}(hK:K<=32)(h:∀k,k < K->Wb n (f k)):Wb (n+5) (Mq.rs K f):=by
 obtain⟨z,e,b⟩:=Uf K h;refine⟨z,e,?_⟩;have p:2 ^ (n+5)=32*2 ^ n:=by rw[Nat.pow_add];omega
 have q:K*2 ^ n<=32*2 ^ n:=Nat.mul_le_mul_right _ hK;have r:0 < 2 ^ n:=Nat.two_pow_pos n;show z.natAbs < 2 ^ (n+5)
 by_cases k0:K=0
 ·subst k0;omega
 ·omega
theorem yP {n:Nat}:∀(r:Nat) (M:Mat),r<=32->(∀i j,i < r->Wb n (M i j))->Wb ((n+5)*r+1) (det r M)
 |0,_,_,_=>Wb.one
 |r+1,M,hr,h=>by
  rw[fU];have:=Wb.rs5 (n:=n+((n+5)*r+1)) (K:=r+1) (f:=fun j=>sgn (r+j)*M r j*det r fun i k=>M i (skip j k)) hr fun j _=>((h r j (by omega)).sgn _).mul (yP r _ (by omega) fun i k hi=>h i _ (by omega));exact this.mono (by rw[Nat.mul_succ];omega)
section
variable {m:Nat} {A E:Mat} {r col:Nat} {d:Rat} {c:Nat->Nat} {n:Nat}
theorem Bar.wd5 (h:Bar m A E r col d c)(hA:∀i x,i < m->Wb n (A i x))(hm:m<=31):Wb ((n+5)*r+1) d:=by
 have rm:=h.rm;rw[<- h.i5];exact yP r _ (by omega) fun i j hi=>hA i _ (by omega)
theorem Bar.wtop5 (h:Bar m A E r col d c)(hA:∀i x,i < m->Wb n (A i x))(hm:m<=31){k:Nat}(hk:k < r)(x:Nat):Wb ((n+5)*r+7) (E k x):=by
 have rm:=h.rm;have hd:=h.dne
 by_cases hx:∃j,j < r/\x=c j
 ·obtain⟨j,hj,rfl⟩:=hx;rw[h.i2 k j hk hj];split
  ·exact(h.wd5 hA hm).mono (by omega)
  ·exact Wb.zero _
 ·let c2:Nat->Nat:=fun j=>if j=r then x else c j
  let u:Nat->Rat:=fun j=>if j=c k then 1 else 0
  have hΦ:=Gq r A c2;have z:=h.i6 _ hΦ (fun s hs=>Gu r A c2 hs) k hk;have eu:u=fun y=>(fun y=>u y+(-(1 / d))*E k y) y+(1 / d)*E k y:=by
   funext y
   show u y=u y+(-(1 / d))*E k y+(1 / d)*E k y;grind
  have fb:=zI r A c2 (fun y=>u y+(-(1 / d))*E k y) fun j hj=>by
   have ec:c2 j=c j:=by show (if j=r then x else c j)=_;rw[if_neg (by omega)]
   rw[ec];show u (c j)+(-(1 / d))*E k (c j)=0;rw[h.i2 k j hk hj];show (if c j=c k then (1:Rat) else 0)+_=0
   by_cases e:j=k
   ·rw[if_pos e,if_pos (by rw[e])];grind
   ·rw[if_neg e,if_neg (fun q=>e (h.cinj j k hj hk q))];grind
  have dd:(det r fun i j=>A i (c2 j))=d:=by
   rw[<- h.i5];exact cS fun i j _ hj=>by show A i (if j=r then x else c j)=_;rw[if_neg (by omega)]
  have ux:u x=0:=by show (if x=c k then (1:Rat) else 0)=0;rw[if_neg (fun q=>hx ⟨k,hk,q⟩)]
  have cx:c2 r=x:=by show (if r=r then x else _)=x;rw[if_pos rfl]
  rw[dd,cx] at fb;have val:F r A c2 u=- E k x:=by
   rw[eu,hΦ,z,fb];show (u x+(-(1 / d))*E k x)*d+_=_;rw[ux];grind
  have wh:Wb ((n+5)*r+7) (F r A c2 u):=by
   rw[Hw];have:=Wb.rs5 (n:=1+((n+5)*r+1)) (K:=r+1) (f:=fun j=>Mq.sgn (r+j)*u (c2 j)*det r fun i k=>A i (c2 (Mq.skip j k))) (by omega) fun j _=>by
    refine Wb.mul (Wb.sgn ?_ _) (yP r _ (by omega) fun i k hi=>hA i _ (by omega));show Wb 1 (if c2 j=c k then (1:Rat) else 0);split
    ·exact Wb.one
    ·exact Wb.zero _
   exact this.mono (by omega)
  rw[val] at wh;have:=wh.neg
  rwa [show - - E k x=E k x by grind] at this
theorem Bar.wall5 (h:Bar m A E r col d c)(hA:∀i x,i < m->Wb n (A i x))(hm:m<=31){i:Nat}(hi:i < m)(x:Nat):Wb ((n+5)*(m+1)+8) (E i x):=by
 have rm:=h.rm;have mono:=Nat.mul_le_mul_left (n+5) rm;have e1:(n+5)*(m+1)=(n+5)*m+(n+5):=Nat.mul_succ ..
 by_cases h1:i < r
 ·exact(h.wtop5 hA hm h1 x).mono (by omega)
 ·have q:=h.i4 i x hi;rw[if_neg h1] at q;have e:E i x=d*A i x - rs r fun k=>A i (c k)*E k x:=by grind
  rw[e];have b1:Wb (n+((n+5)*r+7)+5) (d*A i x):=((h.wd5 hA hm).mul (hA i x hi)).mono (by omega);have b2:Wb (n+((n+5)*r+7)+5) (rs r fun k=>A i (c k)*E k x):=Wb.rs5 (by omega) fun k hk=>(hA i _ hi).mul (h.wtop5 hA hm hk x);exact(b1.sub b2).mono (by omega)
end
theorem SB.bd5 {n m w:Nat}{A0:Mat}{R:List (List Int)}{r col:Nat}{d sg:Int}(h:SB n m R r col d)(s:SI m w A0 R r col d sg)(hm:m<=31):BdR ((n+5)*(m+1)+8) R/\B ((n+5)*(m+1)+8) d:=by
 obtain⟨A,c,B,q⟩:=h;refine⟨fun i x=>?_,?_⟩
 ·by_cases hi:i < m
  ·obtain⟨z,e,b⟩:=B.wall5 q hm hi x;have:ent R i x=z:=Rat.intCast_inj.mp e;rw[this];exact b
  ·unfold ent;rw[List.getD_eq_getElem?_getD (l:=R),List.getElem?_eq_none (by rw[s.len];omega)];exact Nat.two_pow_pos _
 ·obtain⟨z,e,b⟩:=B.wd5 q hm;have:d=z:=Rat.intCast_inj.mp e;have mono:=Nat.mul_le_mul_left (n+5) B.rm;rw[this];exact b.mono (by rw[Nat.mul_succ];omega)
theorem Kp {a b L:Int}(ha:1<=a)(hb:1<=b)(h1:a ∣ L)(h2:b ∣ L):oA a b ∣ L:=by
 have g1:gc a b ∣ a:=Int.gcd_dvd_left ..;have g0:gc a b≠0:=by have:=tV (a:=a) (b:=b) (by omega);omega
 obtain⟨x,hx⟩:=g1;have e:oA a b=x*b:=by
  unfold oA;rw[fV g0 hx]
 have k:(Int.lcm a b:Int) ∣ L:=Int.coe_lcm_dvd h1 h2;have m:(Int.gcd a b:Int)*(Int.lcm a b:Int)=a*b:=by
  have:=Int.gcd_mul_lcm a b;have h:((Int.gcd a b*Int.lcm a b:Nat):Int)=((a*b).natAbs:Nat):=by rw[this,Int.natAbs_mul]
  rw[Int.natCast_mul] at h;rw[h,Int.natAbs_of_nonneg (Int.mul_nonneg (by omega) (by omega))]
 have e2:(Int.lcm a b:Int)=x*b:=by
  have hg:(Int.gcd a b:Int)=gc a b:=rfl;rw[hg] at m;have:gc a b*(Int.lcm a b:Int)=gc a b*(x*b):=by
   rw[m,<- Int.mul_assoc,<- hx]
  exact Int.eq_of_mul_eq_mul_left g0 this
 rw[e,<- e2];exact k
theorem wQ {L:Int}:∀{ps:List Q2},Pos ps->(∀p∈ps,p.2 ∣ L)->∀i,i<=ps.length->dY (ps.take i) ∣ L/\1<=dY (ps.take i)
 |ps,hp,h,0,_=>⟨Int.one_dvd _,by rw[List.take_zero];decide⟩
 |ps,hp,h,i+1,hi=>by
  obtain⟨a,b⟩:=wQ hp h i (by omega);have hm:ps[i]?=some ps[i]:=List.getElem?_eq_getElem (by omega);have mem:=List.mem_of_getElem? hm;rw[mL hm];refine⟨Kp b (hp _ mem) a (h _ mem),?_⟩;have:=tL (ps:=ps.take (i+1)) (fun p hp'=>hp p (List.mem_of_mem_take hp'))
  rwa [mL hm] at this
end Mq
namespace Shp
open PySem L2
abbrev bw (n m:Nat):Nat:=(n+5)*(m+1)+8
def Ep (K:Frag):Sp:=fun vs H Q _=>∃(l D:Addr) (zs:List V) (R:List (List Int)) (m w n:Nat) (Pr:List (List Int)->Prop),vs=[.ref l,.int (m:Int)]/\SqL K H l zs/\Imx D H zs R/\R.length=m/\(∀i,i < m->(R.getD i []).length=w)/\m<=w/\w<=100/\Mq.BdR n R/\1<=n/\bw n m<=9000/\m<=31/\Pr R/\Stp m w (Mq.at2 R) Pr/\
 ∀d l' zs' R' rank pivot sign H',bF H H'->H d=none->H l'=none->H' d=some (Pm l' rank pivot sign)->H' l'=some (.lst zs')->Imx l' H' zs' R'->Mq.SI m w (Mq.at2 R) R' rank m pivot sign->Mq.BdR (bw n m) R'->Mq.B (bw n m) pivot->Pr R'->Q (.ref d) H'
end Shp
namespace L2
open PySem PySem.Spec PyProof.Rows
section
variable (u:Nat->Rat)
def fw (d:RD)(h:Nat):Rat:=match d.1 with
 | .pc=>(u d.2.1.toNat - u d.2.2.1.toNat)*(1 / Mq.val d.2.2.2)
 | .pu=>0
 | .ho=>u h
def nt:Nat->List RD->Nat->Rat
 |_,[],_=>0
 |h,d :: ds,p=>fw u d h*dl d.2.1.toNat d.2.2.1.toNat p+nt (h+bN d.1) ds p
def hw:Nat->List RD->Nat->Rat
 |_,[],_=>0
 |h,d :: ds,y=>(if d.1=.ho/\h=y then u d.2.1.toNat - u d.2.2.1.toNat else 0)+hw (h+bN d.1) ds y
def eg:Nat->List RD->Rat
 |_,[]=>0
 |h,d :: ds=>fw u d h*(u d.2.1.toNat - u d.2.2.1.toNat)+eg (h+bN d.1) ds
end
section
variable {u:Nat->Rat} {m N:Nat}
theorem vP (F:Nat->Rat){n s g:Nat}(hs:s < n)(hg:g < n):Mq.rs n (fun p=>F p*dl s g p)=F s - F g:=by
 have e:∀p,F p*dl s g p=(if s=p then F p else 0) + - (if g=p then F p else 0):=fun p=>by
  unfold dl
  by_cases a:s=p<;>by_cases b:g=p<;>simp only[a,b,if_true,if_false]<;>grind
 rw[Mq.aK fun p _=>e p,Mq.cV,Mq.gX,Mq.zG,Mq.zG,if_pos hs,if_pos hg];grind
theorem Vy {n s g:Nat}(u0:u 0=0)(hs:s<=n)(hg:g<=n):Mq.rs n (fun i=>u (i+1)*dl s g (i+1))=u s - u g:=by
 have:=vP u (n:=n+1) (s:=s) (g:=g) (by omega) (by omega);rw[Mq.oR,u0] at this;grind
theorem qa6 (u0:u 0=0){d:RD}{h y:Nat}(pt:dA (m:Int) d.2.1 d.2.2.1)(hm:m<=N+1)(h1:1<=h)(hh:d.1=.ho->h<=N):Mq.rs N (fun i=>u (i+1)*cM d h (i+1) y)=fw u d h*dl d.2.1.toNat d.2.2.1.toNat y+(if d.1=.ho/\h=y then u d.2.1.toNat - u d.2.2.1.toNat else 0):=by
 obtain⟨a,b,c,e⟩:=pt;have base:=Vy (u:=u) (n:=N) (s:=d.2.1.toNat) (g:=d.2.2.1.toNat) u0 (by omega) (by omega);unfold cM fw
 cases hk:d.1 with
 |pc=>
  dsimp only;rw[if_neg (fun z=>by cases z.1)];have:∀i,u (i+1)*(dl d.2.1.toNat d.2.2.1.toNat (i+1)*dl d.2.1.toNat d.2.2.1.toNat y*(1 / Mq.val d.2.2.2))=(dl d.2.1.toNat d.2.2.1.toNat y*(1 / Mq.val d.2.2.2))*(u (i+1)*dl d.2.1.toNat d.2.2.1.toNat (i+1)):=fun i=>by grind
  rw[Mq.aK fun i _=>this i,Mq.eI,base];grind
 |pu=>
  dsimp only;rw[if_neg (fun z=>by cases z.1)];have:∀i,u (i+1)*(0:Rat)=0:=fun i=>by grind
  rw[Mq.aK fun i _=>this i,Mq.dF];grind
 |ho=>
  dsimp only;have hN:=hh hk;have one:Mq.rs N (fun i=>u (i+1)*(if h=i+1 then 1 else 0))=u h:=by
   have:∀i,u (i+1)*(if h=i+1 then (1:Rat) else 0)=if h - 1=i then u (i+1) else 0:=fun i=>by
    by_cases z:h=i+1
    ·rw[if_pos z,if_pos (by omega)];grind
    ·rw[if_neg z,if_neg (by omega)];grind
   rw[Mq.aK fun i _=>this i,Mq.zG,if_pos (by omega),show h - 1+1=h by omega]
  have:∀i,u (i+1)*(dl d.2.1.toNat d.2.2.1.toNat (i+1)*(if h=y then 1 else 0)+(if h=i+1 then 1 else 0)*dl d.2.1.toNat d.2.2.1.toNat y)=(if h=y then 1 else 0)*(u (i+1)*dl d.2.1.toNat d.2.2.1.toNat (i+1))+dl d.2.1.toNat d.2.2.1.toNat y*(u (i+1)*(if h=i+1 then 1 else 0)):=fun i=>by grind
  rw[Mq.aK fun i _=>this i,Mq.cV,Mq.eI,Mq.eI,base,one]
  by_cases z:h=y
  ·rw[if_pos z,if_pos ⟨rfl,z⟩];grind
  ·rw[if_neg z,if_neg (fun q=>z q.2)];grind
theorem yX (u0:u 0=0)(hm:m<=N+1)(y:Nat):∀(ds:List RD) (h:Nat),(∀d∈ds,dA (m:Int) d.2.1 d.2.2.1)->1<=h->h+bQ ds<=N+1->Mq.rs N (fun i=>u (i+1)*eqM h ds (i+1) y)=nt u h ds y+hw u h ds y
 | [],h,_,_,_=>by
  have:∀i,u (i+1)*eqM h [] (i+1) y=0:=fun i=>by show u (i+1)*(0:Rat)=0;grind
  rw[Mq.aK fun i _=>this i,Mq.dF];show (0:Rat)=0+0;grind
 |d :: ds,h,pt,h1,hN=>by
  rw[fQ] at hN;have ih:=yX u0 hm y ds (h+bN d.1) (fun e he=>pt e (List.mem_cons_of_mem _ he)) (by omega) (by omega);have c:=qa6 (u:=u) (N:=N) (h:=h) (y:=y) u0 (pt d (by simp)) hm h1 (fun z=>by rw[z] at hN;have:bN .ho=1:=rfl;omega);have:∀i,u (i+1)*eqM h (d :: ds) (i+1) y=u (i+1)*cM d h (i+1) y+u (i+1)*eqM (h+bN d.1) ds (i+1) y:=fun i=>by
   show u (i+1)*(cM d h (i+1) y+eqM (h+bN d.1) ds (i+1) y)=_;grind
  rw[Mq.aK fun i _=>this i,Mq.cV,ih,c];show _=(fw u d h*dl d.2.1.toNat d.2.2.1.toNat y+nt u (h+bN d.1) ds y)+((if d.1=.ho/\h=y then u d.2.1.toNat - u d.2.2.1.toNat else 0)+hw u (h+bN d.1) ds y)
  grind
theorem Cu {y:Nat}:∀(ds:List RD) (h:Nat),y < h->hw u h ds y=0
 | [],_,_=>rfl
 |d :: ds,h,hy=>by
  show (if d.1=.ho/\h=y then u d.2.1.toNat - u d.2.2.1.toNat else 0)+hw u (h+bN d.1) ds y=0;rw[if_neg (fun z=>by omega),Cu ds (h+bN d.1) (by omega)];grind
theorem uQ {y:Nat}:∀(ds:List RD) (h:Nat),(∀d∈ds,dA (m:Int) d.2.1 d.2.2.1)->m<=y->nt u h ds y=0
 | [],_,_,_=>rfl
 |d :: ds,h,pt,hy=>by
  obtain⟨a,b,c,e⟩:=pt d (by simp);show fw u d h*dl d.2.1.toNat d.2.2.1.toNat y+nt u (h+bN d.1) ds y=0;rw[uQ ds (h+bN d.1) (fun e he=>pt e (List.mem_cons_of_mem _ he)) hy];unfold dl;rw[if_neg (by omega),if_neg (by omega)];grind
theorem zW:∀(ds:List RD) (h:Nat),(∀y,h<=y->y < h+bQ ds->hw u h ds y=0)->∀d∈ds,d.1=.ho->u d.2.1.toNat=u d.2.2.1.toNat
 | [],_,_,_,hd,_=>by cases hd
 |e :: ds,h,all,d,hd,hk=>by
  by_cases he:e.1=.ho
  ·have c1:bN e.1=1:=by rw[he];rfl
   have first:=all h (Nat.le_refl _) (by rw[fQ];omega)
   have f1:(if e.1=.ho/\h=h then u e.2.1.toNat - u e.2.2.1.toNat else 0)+hw u (h+bN e.1) ds h=0:=first
   rw[if_pos ⟨he,rfl⟩,Cu ds (h+bN e.1) (by omega)] at f1;rcases List.mem_cons.mp hd with rfl | hd
   ·grind
   ·refine zW ds (h+bN e.1) (fun y hy hl=>?_) d hd hk;have:=all y (by omega) (by rw[fQ];omega);have f2:(if e.1=.ho/\h=y then u e.2.1.toNat - u e.2.2.1.toNat else 0)+hw u (h+bN e.1) ds y=0:=this;rw[if_neg (fun z=>by omega)] at f2;grind
  ·have c0:bN e.1=0:=if_neg he;rcases List.mem_cons.mp hd with rfl | hd
   ·exact absurd hk he
   ·refine zW ds (h+bN e.1) (fun y hy hl=>?_) d hd hk;have:=all y (by omega) (by rw[fQ];omega);have f2:(if e.1=.ho/\h=y then u e.2.1.toNat - u e.2.2.1.toNat else 0)+hw u (h+bN e.1) ds y=0:=this;rw[if_neg (fun z=>he z.1)] at f2;grind
theorem Gx (F:Nat->Rat):∀(ds:List RD) (h:Nat),(∀d∈ds,dA (m:Int) d.2.1 d.2.2.1)->(∀d∈ds,d.1≠.pu->F d.2.1.toNat=F d.2.2.1.toNat)->Mq.rs m (fun p=>F p*nt u h ds p)=0
 | [],h,_,_=>by
  have:∀p,F p*nt u h [] p=0:=fun p=>by show F p*(0:Rat)=0;grind
  rw[Mq.aK fun p _=>this p,Mq.dF]
 |d :: ds,h,pt,hF=>by
  have ih:=Gx F ds (h+bN d.1) (fun e he=>pt e (List.mem_cons_of_mem _ he)) (fun e he=>hF e (List.mem_cons_of_mem _ he));obtain⟨a,b,c,e⟩:=pt d (by simp);have base:=vP F (n:=m) (s:=d.2.1.toNat) (g:=d.2.2.1.toNat) (by omega) (by omega);have:∀p,F p*nt u h (d :: ds) p=fw u d h*(F p*dl d.2.1.toNat d.2.2.1.toNat p)+F p*nt u (h+bN d.1) ds p:=fun p=>by
   show F p*(fw u d h*dl d.2.1.toNat d.2.2.1.toNat p+nt u (h+bN d.1) ds p)=_;grind
  rw[Mq.aK fun p _=>this p,Mq.cV,Mq.eI,base,ih]
  by_cases hk:d.1=.pu
  ·have:fw u d h=0:=by unfold fw;rw[hk]
   rw[this];grind
  ·rw[hF d (by simp) hk];grind
theorem Pd:∀(ds:List RD) (h:Nat),(∀d∈ds,dA (m:Int) d.2.1 d.2.2.1)->Mq.rs m (fun p=>u p*nt u h ds p)=eg u h ds
 | [],h,_=>by
  have:∀p,u p*nt u h [] p=0:=fun p=>by show u p*(0:Rat)=0;grind
  rw[Mq.aK fun p _=>this p,Mq.dF];rfl
 |d :: ds,h,pt=>by
  have ih:=Pd ds (h+bN d.1) (fun e he=>pt e (List.mem_cons_of_mem _ he));obtain⟨a,b,c,e⟩:=pt d (by simp);have base:=vP u (n:=m) (s:=d.2.1.toNat) (g:=d.2.2.1.toNat) (by omega) (by omega);have:∀p,u p*nt u h (d :: ds) p=fw u d h*(u p*dl d.2.1.toNat d.2.2.1.toNat p)+u p*nt u (h+bN d.1) ds p:=fun p=>by
   show u p*(fw u d h*dl d.2.1.toNat d.2.2.1.toNat p+nt u (h+bN d.1) ds p)=_;grind
  rw[Mq.aK fun p _=>this p,Mq.cV,Mq.eI,base,ih];rfl
theorem Fv (x:Rat):0<=x*x:=by
 rcases Rat.le_total (a:=0) (b:=x) with h | h
 ·exact Rat.mul_nonneg h h
 ·have:0<=(-x)*(-x):=Rat.mul_nonneg (by grind) (by grind);grind
theorem jQ {a:Rat}(h:0 < a):0 < 1 / a:=by
 rw[Rat.div_def,Rat.one_mul];exact Rat.inv_pos.mpr h
theorem Au:∀(ds:List RD) (h:Nat),(∀d∈ds,d.1=.pc->0 < Mq.val d.2.2.2)->(∀d∈ds,d.1=.ho->u d.2.1.toNat=u d.2.2.1.toNat)->0<=eg u h ds/\(eg u h ds=0->∀d∈ds,d.1=.pc->u d.2.1.toNat=u d.2.2.1.toNat)
 | [],_,_,_=>⟨Rat.le_refl,fun _ d hd=>by cases hd⟩
 |e :: ds,h,pos,ho=>by
  obtain⟨i1,i2⟩:=Au ds (h+bN e.1) (fun d hd=>pos d (List.mem_cons_of_mem _ hd)) (fun d hd=>ho d (List.mem_cons_of_mem _ hd));have eq:eg u h (e :: ds)=fw u e h*(u e.2.1.toNat - u e.2.2.1.toNat)+eg u (h+bN e.1) ds:=rfl;rw[eq];generalize eg u (h+bN e.1) ds=r at i1 i2;have t:0<=fw u e h*(u e.2.1.toNat - u e.2.2.1.toNat)/\(e.1=.pc->fw u e h*(u e.2.1.toNat - u e.2.2.1.toNat)=0->u e.2.1.toNat=u e.2.2.1.toNat):=by
   unfold fw
   cases hk:e.1 with
   |pu=>exact⟨by grind,fun z=>by cases z⟩
   |ho=>exact⟨by rw[ho e (by simp) hk];grind,fun z=>by cases z⟩
   |pc=>
    dsimp only;have p:=jQ (pos e (by simp) hk);generalize 1 / Mq.val e.2.2.2=q at p;generalize u e.2.1.toNat=a;generalize u e.2.2.1.toNat=b;have e2:(a - b)*q*(a - b)=q*((a - b)*(a - b)):=by grind
    rw[e2];refine⟨Rat.mul_nonneg (Rat.le_of_lt p) (Fv _),fun _ z=>?_⟩;have q0:q≠0:=fun z=>by rw[z] at p;exact absurd p (by decide)
    have:(a - b)*(a - b)=0:=by grind
    have:a - b=0:=by grind
    grind
  obtain⟨t1,t2⟩:=t;generalize fw u e h*(u e.2.1.toNat - u e.2.2.1.toNat)=x at t1 t2;refine⟨by grind,fun z d hd hk=>?_⟩;have x0:x=0:=by grind
  have r0:r=0:=by grind
  rcases List.mem_cons.mp hd with rfl | hd
  ·exact t2 hk x0
  ·exact i2 r0 d hd hk
theorem pT (d:RD)(p:Nat):∀(ds:List RD) (h:Nat),nt u h (ds++[d]) p=nt u h ds p+fw u d (h+bQ ds)*dl d.2.1.toNat d.2.2.1.toNat p
 | [],h=>by show fw u d h*_+0=0+fw u d (h+0)*_;rw[Nat.add_zero];grind
 |e :: ds,h=>by
  show fw u e h*_+nt u (h+bN e.1) (ds++[d]) p=fw u e h*_+nt u (h+bN e.1) ds p+_;rw[pT d p ds,fQ,Nat.add_assoc];grind
theorem Dg (F:Nat->Rat):∀(ds:List RD) (h:Nat),(∀d∈ds,dA (m:Int) d.2.1 d.2.2.1)->(∀d∈ds,d.1=.pc->u d.2.1.toNat=u d.2.2.1.toNat)->(∀d∈ds,d.1=.ho->F d.2.1.toNat=F d.2.2.1.toNat)->Mq.rs m (fun p=>F p*nt u h ds p)=0
 | [],h,_,_,_=>by
  have:∀p,F p*nt u h [] p=0:=fun p=>by show F p*(0:Rat)=0;grind
  rw[Mq.aK fun p _=>this p,Mq.dF]
 |d :: ds,h,pt,hu,hF=>by
  have ih:=Dg F ds (h+bN d.1) (fun e he=>pt e (List.mem_cons_of_mem _ he)) (fun e he=>hu e (List.mem_cons_of_mem _ he)) (fun e he=>hF e (List.mem_cons_of_mem _ he));obtain⟨a,b,c,e⟩:=pt d (by simp);have base:=vP F (n:=m) (s:=d.2.1.toNat) (g:=d.2.2.1.toNat) (by omega) (by omega);have:∀p,F p*nt u h (d :: ds) p=fw u d h*(F p*dl d.2.1.toNat d.2.2.1.toNat p)+F p*nt u (h+bN d.1) ds p:=fun p=>by
   show F p*(fw u d h*dl d.2.1.toNat d.2.2.1.toNat p+nt u (h+bN d.1) ds p)=_;grind
  rw[Mq.aK fun p _=>this p,Mq.cV,Mq.eI,base,ih]
  cases hk:d.1 with
  |pu=>
   have:fw u d h=0:=by unfold fw;rw[hk]
   rw[this];grind
  |pc=>
   have:fw u d h=0:=by unfold fw;rw[hk];dsimp only;rw[hu d (by simp) hk];grind
   rw[this];grind
  |ho=>rw[hF d (by simp) hk];grind
def Frs (ds:List RD):Prop:=∀(A B:List RD) (d:RD),ds=A++d :: B->d.1=.ho->¬Cn (eZ .ho A) d.2.1.toNat d.2.2.1.toNat
theorem Ey:∀(n:Nat) (ds:List RD) (h:Nat),ds.length=n->(∀d∈ds,dA (m:Int) d.2.1 d.2.2.1)->Frs ds->(∀d∈ds,d.1=.pc->u d.2.1.toNat=u d.2.2.1.toNat)->(∀p,p < m->nt u h ds p=0)->∀y,h<=y->y < h+bQ ds->u y=0
 |0,ds,h,hl,_,_,_,_,y,h1,h2=>by
  have:ds=[]:=List.length_eq_zero_iff.mp hl;subst this;have:bQ ([]:List RD)=0:=rfl;omega
 |n+1,ds,h,hl,pt,fr,hu,ze,y,h1,h2=>by
  obtain⟨es,d,rfl⟩:∃es d,ds=es++[d]:=⟨ds.dropLast,ds.getLast (by intro z;rw[z] at hl;cases hl),(List.dropLast_concat_getLast _).symm⟩
  have le:es.length=n:=by rw[List.length_append] at hl;simpa using hl
  have pe:∀x∈es,dA (m:Int) x.2.1 x.2.2.1:=fun x hx=>pt x (List.mem_append_left _ hx);have ue:∀x∈es,x.1=.pc->u x.2.1.toNat=u x.2.2.1.toNat:=fun x hx=>hu x (List.mem_append_left _ hx);have fe:Frs es:=fun A B x e hx=>fr A (B++[d]) x (by rw[e];simp) hx;obtain⟨i0,i1,j0,j1⟩:=pt d (by simp);have f0:fw u d (h+bQ es)=0:=by
   cases hk:d.1 with
   |pu=>unfold fw;rw[hk]
   |pc=>unfold fw;rw[hk];dsimp only;rw[hu d (by simp) hk];grind
   |ho=>
    open Classical in
    have nc:=fr es [] d rfl hk
    let F:Nat->Rat:=fun p=>if Cn (eZ .ho es) d.2.1.toNat p then 1 else 0
    have s1:=Dg (u:=u) (m:=m) F es h pe ue (fun x hx hk'=>by
     show (if Cn (eZ .ho es) d.2.1.toNat x.2.1.toNat then (1:Rat) else 0)=if Cn (eZ .ho es) d.2.1.toNat x.2.2.1.toNat then 1 else 0
     have r:Cn (eZ .ho es) x.2.1.toNat x.2.2.1.toNat:=.row (List.mem_filter.mpr ⟨hx,decide_eq_true hk'⟩) (by rw[hk'];exact fun z=>by cases z)
     by_cases c:Cn (eZ .ho es) d.2.1.toNat x.2.1.toNat
     ·rw[if_pos c,if_pos (c.trans r)]
     ·rw[if_neg c,if_neg (fun z=>c (z.trans r.symm))])
    have s2:Mq.rs m (fun p=>F p*nt u h (es++[d]) p)=0:=by
     have:∀p,p < m->F p*nt u h (es++[d]) p=0:=fun p hp=>by rw[ze p hp];grind
     rw[Mq.aK this,Mq.dF]
    have e3:∀p,F p*nt u h (es++[d]) p=F p*nt u h es p+fw u d (h+bQ es)*(F p*dl d.2.1.toNat d.2.2.1.toNat p):=fun p=>by rw[pT];grind
    rw[Mq.aK fun p _=>e3 p,Mq.cV,s1,Mq.eI,vP F (by omega) (by omega)] at s2;have Fs:F d.2.1.toNat=1:=if_pos (.refl _);have Fg:F d.2.2.1.toNat=0:=if_neg nc;rw[Fs,Fg] at s2;grind
  have ze':∀p,p < m->nt u h es p=0:=fun p hp=>by
   have:=ze p hp;rw[pT,f0] at this;grind
  rw[iN] at h2
  by_cases c:y < h+bQ es
  ·exact Ey n es h le pe fe ue ze' y h1 c
  ·have hk:d.1=.ho:=Classical.byContradiction fun z=>by
    have:bN d.1=0:=if_neg z;omega
   have c1:bN d.1=1:=by rw[hk];rfl
   have:y=h+bQ es:=by omega
   rw[this];unfold fw at f0;rw[hk] at f0;exact f0
theorem Ah {ds:List RD}(hm1:1<=m)(pt:∀d∈ds,dA (m:Int) d.2.1 d.2.2.1)(pos:∀d∈ds,d.1=.pc->0 < Mq.val d.2.2.2)(cn:∀p,p < m->Cn ds 0 p)(fr:Frs ds)(u0:u 0=0)(ze:∀y,1<=y->y<=m - 1+bQ ds->Mq.rs (m - 1+bQ ds) (fun i=>u (i+1)*eqM m ds (i+1) y)=0):∀y,y<=m - 1+bQ ds->u y=0:=by
 have ze2:∀y,1<=y->y<=m - 1+bQ ds->nt u m ds y+hw u m ds y=0:=fun y a b=>by
  have:=ze y a b;rw[yX (m:=m) u0 (by omega) y ds m pt hm1 (by omega)] at this;exact this
 have hf:=zW (u:=u) ds m (fun y a b=>by
  have:=ze2 y (by omega) (by omega);rw[uQ ds m pt a] at this;grind)
 have np:∀p,1<=p->p < m->nt u m ds p=0:=fun p a b=>by
  have:=ze2 p a (by omega);rw[Cu ds m b] at this;grind
 have e0:eg u m ds=0:=by
  rw[<- Pd (u:=u) (m:=m) ds m pt];have:∀p,p < m->u p*nt u m ds p=0:=fun p hp=>by
   by_cases c:p=0
   ·rw[c,u0];grind
   ·rw[np p (by omega) hp];grind
  rw[Mq.aK this,Mq.dF]
 have pf:=(Au (u:=u) ds m pos hf).2 e0;have cz:∀p,p < m->u p=0:=fun p hp=>by
  have:=Cn.ind (R:=fun a b=>u a=u b) (fun _=>rfl) (fun _ _ e=>e.symm) (fun _ _ _ a b=>a.trans b) (fun d hd hk=>by
   cases h:d.1 with
   |pc=>exact pf d hd h
   |pu=>exact absurd h hk
   |ho=>exact hf d hd h) (cn p hp)
  rw[<- this,u0]
 have all:∀p,p < m->nt u m ds p=0:=fun p hp=>by
  by_cases c:p=0
  ·have s:=Dg (u:=u) (m:=m) (fun _=>1) ds m pt pf (fun _ _ _=>rfl);obtain⟨k,rfl⟩:∃k,m=k+1:=⟨m - 1,by omega⟩
   rw[Mq.oR] at s;have:∀i,i < k->(1:Rat)*nt u (k+1) ds (i+1)=0:=fun i hi=>by rw[np (i+1) (by omega) (by omega)];grind
   rw[Mq.aK this,Mq.dF] at s;rw[c];grind
  ·exact np p (by omega) hp
 have hz:=Ey (u:=u) (m:=m) _ ds m rfl pt fr pf all;intro y hy
 by_cases c:y < m
 ·exact cz y c
 ·exact hz y (by omega) (by omega)
end
end L2
namespace L2
open PySem PySem.Spec PyProof.Rows Shp
section
variable {m N:Nat} {ds:List RD}
theorem Qb (d:RD)(h x y:Nat):cM d h x y=cM d h y x:=by
 unfold cM
 cases d.1<;>dsimp only<;>grind
theorem pD:∀(ds:List RD) (h x y:Nat),eqM h ds x y=eqM h ds y x
 | [],_,_,_=>rfl
 |d :: ds,h,x,y=>by
  show cM d h x y+eqM (h+bN d.1) ds x y=cM d h y x+eqM (h+bN d.1) ds y x;rw[Qb,pD ds]
structure Nof (m:Nat) (ds:List RD):Prop where
 m1:1<=m
 pt:∀d∈ds,dA (m:Int) d.2.1 d.2.2.1
 pos:∀d∈ds,d.1=.pc->0 < Mq.val d.2.2.2
 cn:∀p,p < m->Cn ds 0 p
 fr:Frs ds
theorem Nof.uni (o:Nof m ds){v w:Nat->Rat}{r:Nat->Rat}(hv:∀i,i < m - 1+bQ ds->(Mq.rs (m - 1+bQ ds) fun j=>eqM m ds (i+1) (j+1)*v j)=r i)(hw:∀i,i < m - 1+bQ ds->(Mq.rs (m - 1+bQ ds) fun j=>eqM m ds (i+1) (j+1)*w j)=r i):∀j,j < m - 1+bQ ds->v j=w j:=by
 have:=Ah (u:=fun x=>if x=0 then 0 else v (x - 1) - w (x - 1)) o.m1 o.pt o.pos o.cn o.fr (if_pos rfl) (fun y y1 yn=>by
  have e:∀i,i < m - 1+bQ ds->(if i+1=0 then (0:Rat) else v (i+1 - 1) - w (i+1 - 1))*eqM m ds (i+1) y=eqM m ds (y - 1+1) (i+1)*v i + - (eqM m ds (y - 1+1) (i+1)*w i):=fun i _=>by
   rw[if_neg (by omega),Nat.add_sub_cancel,pD ds m (i+1) y,show y - 1+1=y by omega];grind
  rw[Mq.aK e,Mq.cV,Mq.gX,hv (y - 1) (by omega),hw (y - 1) (by omega)];grind)
 intro j hj;have:=this (j+1) (by omega);rw[if_neg (by omega),Nat.add_sub_cancel] at this;grind
theorem Wj {X:List (List Mq.Q2)}{Y:List Mq.Q2}(e:Am m ds N X Y):X.length=m - 1+bQ ds:=e.x.h
theorem Ol {X:List (List Mq.Q2)}{Y:List Mq.Q2}(e:Am m ds N X Y)(i j:Nat):oB X i j=eqM m ds (i+1) (j+1):=e.vx i j
end
end L2
namespace Shp
open PySem L2
theorem Al {m w:Nat}{R0:List (List Int)}(hl:R0.length=m)(hw:∀i,i < m->(R0.getD i []).length=w)(hmw:m<=w){Pr:List (List Int)->Prop}(h0:Pr R0)(st:Stp m w (Mq.at2 R0) Pr):∀col,col<=m->∃R r d sg,Mq.SI m w (Mq.at2 R0) R r col d sg/\Pr R
 |0,_=>⟨R0,0,1,1,.start hl hw,h0⟩
 |col+1,hc=>by
  obtain⟨R,r,d,sg,S,p⟩:=Al hl hw hmw h0 st col (by omega)
  by_cases hz:∀i,r<=i->i < m->Mq.ent R i col=0
  ·exact⟨R,r,d,sg,S.skip hz,p⟩
  ·obtain⟨i,hi⟩:=Classical.not_forall.mp hz;obtain⟨h1,hi⟩:=Classical.not_imp.mp hi;obtain⟨h2,ne⟩:=Classical.not_imp.mp hi
   by_cases e:i=r
   ·subst e;exact⟨_,_,_,_,S.clear h2 (by omega) ne,st.cl R i col d sg S h2 (by omega) ne p⟩
   ·have hlt:r < i:=by omega
    have S2:=S.swap hlt h2;have p2:=st.sw R r col d sg i S hlt h2 p;have ne2:Mq.ent (Mq.fI R i r) r col≠0:=by
     have:=Mq.yW (R:=R) (p:=i) (r:=r) (by rw[S.len];omega) (by rw[S.len];omega) r;unfold Mq.ent at ne ⊢;rw[this,show Mq.sw i r r=i by unfold Mq.sw;simp];exact ne
    exact⟨_,_,_,_,S2.clear (by omega) (by omega) ne2,st.cl _ r col d (-sg) S2 (by omega) (by omega) ne2 p2⟩
theorem Gw {X:List (List Mq.Q2)}(xP:Mq.eQ X)(hw:∀row∈X,row.length=X.length)(m1:1<=X.length)(hz:wgt X=0):∃v:Nat->Rat,(∃j,j < X.length/\v j≠0)/\∀x,x < X.length->(Mq.rs X.length fun j=>v j*oB X j x)=0:=by
 obtain⟨R,r,d,sg,S,L⟩:=Al (m:=X.length) (w:=X.length+X.length) (R0:=jR X) (Pl X) (fun i hi=>by rw[tY hi,Ap,hw _ (List.mem_of_getElem? (uH hi))]) (by omega) (Qx xP hw) Xy X.length (Nat.le_refl _);have wr:=Md xP (Su fun i j hi hj=>wO xP hw hi hj) S;have hr:r < X.length:=by
  rcases wr with z | z
  ·exact z.1
  ·exact absurd hz z.2
 obtain⟨⟨k0,hk0,nk0⟩,hsum⟩:=L.lame S hr;refine⟨fun k=>Mq.at2 R (X.length - 1) (X.length+k),⟨k0,hk0,fun z=>?_⟩,hsum⟩;exact nk0 (Rat.intCast_inj.mp (by unfold Mq.at2 at z;simpa using z))
end Shp
namespace L2
open Shp
theorem Nof.wgt_ne {m N:Nat}{ds:List RD}(o:Nof m ds){X:List (List Mq.Q2)}{Y:List Mq.Q2}(e:Am m ds N X Y)(xP:Mq.eQ X)(hw:∀row∈X,row.length=X.length)(m1:1<=X.length):wgt X≠0:=fun hz=>by
 obtain⟨v,⟨j,hj,vj⟩,hs⟩:=Gw xP hw m1 hz;have n:=Wj e;have z:=Ah (u:=fun x=>if x=0 then 0 else v (x - 1)) o.m1 o.pt o.pos o.cn o.fr (if_pos rfl) (fun y y1 yn=>by
  have s:=hs (y - 1) (by omega);rw[n] at s;rw[<- s];refine Mq.aK fun i _=>?_;rw[if_neg (by omega),Nat.add_sub_cancel,Ol e,show y - 1+1=y by omega])
 have:=z (j+1) (by omega);rw[if_neg (by omega),Nat.add_sub_cancel] at this;exact vj this
end L2
namespace Mq
theorem Ce {p:Q2}(l:Low p){a L:Int}(hL:1<=L)(h:val p=(a:Rat) / (L:Rat)):p.2 ∣ L/\p.1.natAbs<=a.natAbs:=by
 have h2:((p.2:Int):Rat)≠0:=by have:=l.pos;exact_mod_cast (show p.2≠0 by omega)
 have hl:((L:Int):Rat)≠0:=by exact_mod_cast (show L≠0 by omega)
 have e:p.1*L=a*p.2:=by
  unfold val at h;have:((p.1:Int):Rat)*(L:Rat)=(a:Rat)*((p.2:Int):Rat):=by grind
  exact_mod_cast this
 have d:p.2 ∣ L:=by
  have c:Int.gcd p.2 p.1=1:=by
   have:=l.one;unfold gc at this;rw[Int.gcd_comm];exact_mod_cast this
  have c':Nat.Coprime p.2.natAbs p.1.natAbs:=c;have dv:p.2.natAbs ∣ p.1.natAbs*L.natAbs:=by
   rw[<- Int.natAbs_mul,e,Int.natAbs_mul];exact Nat.dvd_mul_left ..
  exact Int.natAbs_dvd_natAbs.mp (c'.dvd_of_dvd_mul_left dv)
 obtain⟨t,ht⟩:=d;have t1:t≠0:=fun z=>by rw[z,Int.mul_zero] at ht;omega
 have e2:p.1*t=a:=by
  have:p.2*(p.1*t)=p.2*a:=by
   rw[Int.mul_comm p.2 a,<- e,ht,<- Int.mul_assoc,<- Int.mul_assoc,Int.mul_comm p.2 p.1]
  exact Int.eq_of_mul_eq_mul_left (by have:=l.pos;omega) this
 refine⟨⟨t,ht⟩,?_⟩;rw[<- e2,Int.natAbs_mul];exact Nat.le_mul_of_pos_right _ (by omega)
def Fr (L:Int)(M:Nat)(x:Rat):Prop:=∃a:Int,x=(a:Rat) / (L:Rat)/\a.natAbs<=M*L.natAbs
section
variable {L K:Int} {M N:Nat} {x y:Rat}
theorem oO (h:1<=L):((L:Int):Rat)≠0:=by exact_mod_cast (show L≠0 by omega)
theorem Fr.mono (h:Fr L M x)(l:M<=N):Fr L N x:=by
 obtain⟨a,e,b⟩:=h;exact⟨a,e,Nat.le_trans b (Nat.mul_le_mul_right _ l)⟩
theorem Fr.zero:Fr L 0 0:=⟨0,by rw[show ((0:Int):Rat)=0 by rfl,Rat.div_def];grind,by simp⟩
theorem Fr.one (h:1<=L):Fr L 1 1:=⟨L,by have:=oO h;grind,by omega⟩
theorem Fr.add (h:Fr L M x)(g:Fr L N y):Fr L (M+N) (x+y):=by
 obtain⟨a,ea,ba⟩:=h;obtain⟨b,eb,bb⟩:=g;refine⟨a+b,?_,?_⟩
 ·rw[ea,eb,Rat.intCast_add,Rat.div_def,Rat.div_def,Rat.div_def];grind
 ·rw[Nat.add_mul];have:=Int.natAbs_add_le a b;omega
theorem Fr.neg (h:Fr L M x):Fr L M (-x):=by
 obtain⟨a,ea,ba⟩:=h;refine⟨-a,?_,by rw[Int.natAbs_neg];exact ba⟩;rw[ea,Rat.intCast_neg,Rat.div_def,Rat.div_def];grind
theorem Fr.of (hL:1<=L){t b:Int}(hb:1<=b)(d:b ∣ L)(ht:t.natAbs<=M):Fr L M ((t:Rat) / (b:Rat)):=by
 obtain⟨k,rfl⟩:=d;have k1:1<=k:=by
  rcases Int.lt_or_le k 1 with z | z
  ·have:=Int.mul_nonpos_of_nonneg_of_nonpos (show 0<=b by omega) (show k<=0 by omega);omega
  ·exact z
 refine⟨t*k,?_,?_⟩
 ·have:=oO hb;have:=oO k1;rw[Rat.intCast_mul,Rat.intCast_mul];grind
 ·rw[Int.natAbs_mul,Int.natAbs_mul];refine Nat.mul_le_mul ht (Nat.le_mul_of_pos_left _ (by omega))
theorem Fr.get (h:Fr L M x){m n b:Nat}(hM:M < 2 ^ m)(hL:B n L)(hb:m+n<=b):∃a:Int,B b a/\x=(a:Rat) / (L:Rat):=by
 obtain⟨a,ea,ba⟩:=h;refine⟨a,?_,ea⟩;refine B.mono (n:=m+n) ?_ hb;show a.natAbs < 2 ^ (m+n);rw[Nat.pow_add];have hL:L.natAbs < 2 ^ n:=hL;exact Nat.lt_of_le_of_lt ba (Nat.mul_lt_mul'' hM hL)
end
def prB:List Int->Int
 | []=>1
 |a :: r=>a*prB r
theorem Ga:∀{l:List Int},(∀a∈l,1<=a)->1<=prB l
 | [],_=>Int.le_refl _
 |a :: r,h=>by
  have h1:=h a (by simp);have h2:=Ga (l:=r) fun b hb=>h b (List.mem_cons_of_mem _ hb);have:=Int.mul_pos (show 0 < a by omega) (show 0 < prB r by omega);show 1<=a*prB r;omega
theorem Gi:∀{l:List Int} {a:Int},a∈l->a ∣ prB l
 |b :: r,a,h=>by
  rcases List.mem_cons.mp h with z | z
  ·rw[z];exact Int.dvd_mul_right ..
  ·exact Int.dvd_trans (Gi z) (Int.dvd_mul_left ..)
theorem Um {u:Nat}:∀{l:List Int},(∀a∈l,B u a)->B (u*l.length+1) (prB l)
 | [],_=>show (1:Nat) < 2 ^ (u*0+1) by rw[Nat.mul_zero];decide
 |a :: r,h=>by
  have h1:=h a (by simp);have h2:=Um (l:=r) fun b hb=>h b (List.mem_cons_of_mem _ hb);exact(h1.mul h2).mono (by rw[List.length_cons,Nat.mul_succ];omega)
end Mq
namespace L2
theorem Kv (s g x:Nat):dl s g x=1\/dl s g x=0\/dl s g x=-1:=by
 unfold dl
 by_cases a:s=x<;>by_cases b:g=x<;>simp only[a,b,if_true,if_false]
 ·exact .inr (.inl (by grind))
 ·exact .inl (by grind)
 ·exact .inr (.inr (by grind))
 ·exact .inr (.inl (by grind))
theorem Hb {L:Int}{M:Nat}{y:Rat}(h:Mq.Fr L M y)(s g x:Nat):Mq.Fr L M (dl s g x*y):=by
 rcases Kv s g x with e | e | e
 ·rw[e,Rat.one_mul];exact h
 ·rw[e,Rat.zero_mul];exact Mq.Fr.zero.mono (Nat.zero_le _)
 ·rw[e,show (-1:Rat)*y=-y by grind];exact h.neg
end L2
namespace L2
open PySem PySem.Spec PyProof.Rows Shp
abbrev Ent:=Option Nat × RD × Mq.Q2
abbrev qf1 (E:List Ent):List Nat:=E.filterMap (·.1)
section
variable {m u j:Nat} {hs:List Mq.Q2} {par:Nat->Nat} {E:List Ent}
theorem Gm {α:Type}{E:List α}{i:Nat}{e x:α}(h:x∈E.take i++e :: E.drop i):x=e\/x∈E:=by
 rcases List.mem_append.mp h with z | z
 ·exact .inr (List.mem_of_mem_take z)
 ·rcases List.mem_cons.mp z with z | z
  ·exact .inl z
  ·exact .inr (List.mem_of_mem_drop z)
abbrev qf3 (E:List Ent)(C:List RD):List RD:=E.map (·.2.1)++C
end
theorem Gc {W:Kd->Bool}{sk:List Sk}:∀n,∀e∈(fD W sk n).1,∃k,W k=true/\sk[e.1]?=some (k,e.2.1,e.2.2)/\e.1 < n
 |0,e,h=>by cases h
 |n+1,e,h=>by
  have ih:=Gc (W:=W) (sk:=sk) n
  cases hd:sk[n]? with
  |none=>
   have:fD W sk (n+1)=fD W sk n:=by
    show (match sk[n]? with | none=>fD W sk n | some d=>iT W (fD W sk n) n d)=_;rw[hd]
   rw[this] at h;obtain⟨k,a,b,c⟩:=ih e h;exact⟨k,a,b,by omega⟩
  |some d=>
   rw[iM hd] at h;unfold iT at h;split at h
   ·rename_i w
    split at h
    ·rcases List.mem_append.mp h with z | z
     ·obtain⟨k,a,b,c⟩:=ih e z;exact⟨k,a,b,by omega⟩
     ·have:e=(n,d.2.1,d.2.2):=by simpa using z
      subst this;exact⟨d.1,w,hd,by show n < n+1;omega⟩
    ·obtain⟨k,a,b,c⟩:=ih e h;exact⟨k,a,b,by omega⟩
   ·obtain⟨k,a,b,c⟩:=ih e h;exact⟨k,a,b,by omega⟩
theorem xI {m:Nat}{ds:List RD}{W:Kd->Bool}(hW:∀k,W k=true↔k=.ho)(pt:∀d∈ds,dA (m:Int) d.2.1 d.2.2.1)(h20:m<=20)(fr:Frs ds):∀n,n<=ds.length->(fD W (skl ds) n).2=[]
 |0,_=>rfl
 |n+1,hn=>by
  have ih:=xI hW pt h20 fr n (by omega);have hd:ds[n]?=some ds[n]:=List.getElem?_eq_getElem (by omega);generalize ds[n]=d at hd;have sl:(skl ds).length=ds.length:=by unfold skl;rw[List.length_map]
  have hs:(skl ds)[n]?=some (d.1,d.2.1.toNat,d.2.2.1.toNat):=by unfold skl;rw[List.getElem?_map,hd];rfl
  rw[iM hs];unfold iT;split
  ·rename_i w
   have hk:d.1=.ho:=(hW _).mp w;obtain⟨a,b,c,f⟩:=pt d (List.mem_of_getElem? hd);have ri:=uX (W:=W) (sk:=skl ds) (m:=m) (fun x hx=>by
    obtain⟨y,hy,rfl⟩:=List.mem_map.mp hx;obtain⟨a,b,c,f⟩:=pt y hy;exact⟨by show y.2.1.toNat < m;omega,by show y.2.2.1.toNat < m;omega⟩) n (by omega)
   have wi:=Sr (b:=d.2.2.1.toNat) (e:=d.2.1.toNat) ri.pt h20 (by omega) (by omega)
   cases e:vW (fD W (skl ds) n).1 d.2.2.1.toNat d.2.1.toNat with
   |none=>dsimp only;first | (rw[e];exact ih) | exact ih
   |some st=>
    exfalso
    rw[e] at wi;have eq:=wi.mp rfl;have cn:=(Lj (vZ ri.pt) (by omega) (by omega)).mp eq;have ed:ds=ds.take n++d :: ds.drop (n+1):=by
     have hn':n < ds.length:=by omega
     have:ds[n]=d:=by rw[List.getElem?_eq_getElem hn'] at hd;exact Option.some.inj hd
     rw[<- this,List.getElem_cons_drop,List.take_append_drop]
    refine fr _ _ d ed hk ?_;refine Cn.ind (R:=fun p q=>Cn (eZ .ho (ds.take n)) p q) (fun p=>.refl p) (fun _ _=>.symm) (fun _ _ _=>.trans) (fun x hx _=>?_) cn;obtain⟨y,hy,rfl⟩:=List.mem_map.mp hx;obtain⟨k,wk,sk,yn⟩:=Gc n y hy;unfold skl at sk;rw[List.getElem?_map] at sk;obtain⟨z,hz,ez⟩:=Option.map_eq_some_iff.mp sk;have e1:z.1=k:=congrArg (·.1) ez;have e2:z.2.1.toNat=y.2.1:=congrArg (·.2.1) ez;have e3:z.2.2.1.toNat=y.2.2:=congrArg (·.2.2) ez;have hz':z∈eZ .ho (ds.take n):=List.mem_filter.mpr ⟨List.mem_of_getElem? (show (ds.take n)[y.1]?=some z by rw[List.getElem?_take_of_lt yn];exact hz),decide_eq_true (by rw[e1];exact(hW _).mp wk)⟩;have:Cn (eZ .ho (ds.take n)) z.2.1.toNat z.2.2.1.toNat:=.row hz' (by rw[e1,(hW _).mp wk];exact fun z=>by cases z);rw[e2,e3] at this;show Cn _ ((y.2.1:Nat):Int).toNat ((y.2.2:Nat):Int).toNat;rw[Int.toNat_natCast,Int.toNat_natCast];exact this
  ·exact ih
end L2
namespace Mq
theorem Rf {p:Q2}{a L l k:Int}(h:1<=p.2)(e:l=k*p.2)(l1:1<=l)(d:l ∣ L)(hL:1<=L)(v:val p=(a:Rat) / (L:Rat)):(Bk l p).natAbs<=a.natAbs:=by
 obtain⟨s,rfl⟩:=d;have s1:s≠0:=fun z=>by rw[z,Int.mul_zero] at hL;omega
 have hv:=Lc (L:=l) (k:=k) h e;have h2:=oO l1;have h3:((s:Int):Rat)≠0:=by exact_mod_cast s1
 have e2:Bk l p*s=a:=by
  have:((Bk l p:Int):Rat)*(s:Rat)=(a:Rat):=by
   rw[hv,v,Rat.intCast_mul];grind
  exact_mod_cast this
 rw[<- e2,Int.natAbs_mul];exact Nat.le_mul_of_pos_right _ (by omega)
end Mq
namespace Shp
open PySem L2
theorem Qh {X:List (List Mq.Q2)}{qs:List Mq.Q2}{L:Int}{b:Nat}(hX:Mq.eQ X)(hq:Mq.Pos qs)(hl:qs.length=X.length)(hb:∀row∈X,∀p∈row,p.2 ∣ L/\∃a:Int,Mq.B b a/\Mq.val p=(a:Rat) / (L:Rat))(hqb:∀p∈qs,p.2 ∣ L/\∃a:Int,Mq.B b a/\Mq.val p=(a:Rat) / (L:Rat))(hL:1<=L):Mq.BdR b (gN X qs):=fun i x=>by
 unfold Mq.ent
 by_cases hi:i < X.length
 ·rw[pP hl hi];have pos:=tJ hX hq hl hi;have al:∀p∈X.getD i []++[qs.getD i Mq.z0],p.2 ∣ L/\∃a:Int,Mq.B b a/\Mq.val p=(a:Rat) / (L:Rat):=fun p hp=>by
   rcases List.mem_append.mp hp with z | z
   ·exact hb _ (List.mem_of_getElem? (uH hi)) p z
   ·have e:p=qs.getD i Mq.z0:=by simpa using z
    rw[e];exact hqb _ (List.mem_of_getElem? (Mq.Zt (show i < qs.length by omega)))
  generalize X.getD i []++[qs.getD i Mq.z0]=row at pos al;obtain⟨dv,l1⟩:=Mq.wQ pos (fun p hp=>(al p hp).1) row.length (Nat.le_refl _);rw[List.take_length] at dv l1;unfold Mq.iw;rw[List.getD_eq_getElem?_getD,List.getElem?_map]
  cases e:row[x]? with
  |none=>exact Nat.two_pow_pos _
  |some p=>
   have mem:=List.mem_of_getElem? e;obtain⟨_,a,ab,ea⟩:=al p mem;obtain⟨k,ek⟩:=Mq.Cs pos p mem;exact ab.le (Mq.Rf (pos p mem) ek l1 dv hL ea)
 ·rw[List.getD_eq_getElem?_getD (l:=gN X qs),List.getElem?_eq_none (by rw[vQ hl];omega)];exact Nat.two_pow_pos _
structure Ovr (n:Nat) (ps:List Mq.Q2):Prop where
 e:∃D:Int,1<=D/\Mq.B n D/\∀p∈ps,∃t:Int,Mq.B n t/\Mq.val p=(t:Rat) / (D:Rat)
theorem Sa {n:Nat}{d:Int}(d0:d≠0)(bd:Mq.B n d){ps:List Mq.Q2}(h:∀p∈ps,∃t:Int,Mq.B n t/\p=Mq.red t d):Ovr n ps:=by
 refine⟨(d.natAbs:Int),by omega,by show ((d.natAbs:Int)).natAbs < _;rw[Int.natAbs_natCast];exact bd,fun p hp=>?_⟩;obtain⟨t,bt,rfl⟩:=h p hp;rw[Mq.kH d0];rcases Int.lt_or_le d 0 with z | z
 ·refine⟨-t,bt.neg,?_⟩;rw[show ((d.natAbs:Nat):Int)=-d by omega,Rat.intCast_neg,Rat.intCast_neg];have:((d:Int):Rat)≠0:=by exact_mod_cast d0
  grind
 ·exact⟨t,bt,by rw[show ((d.natAbs:Nat):Int)=d by omega]⟩
def xC (K:Frag):Sp:=fun vs H Q _=>∃(g b D:Addr) (H0:Hp) (us bs:List V) (X:List (List Mq.Q2)) (qs:List Mq.Q2) (k n:Nat),vs=[.ref g,.ref b]/\SqL K H g us/\Fmd K H0 D H us X/\SqL K H b bs/\Fqs K H bs qs/\qs.length=X.length/\Mq.kG qs/\(∀p∈qs,Mq.Bd k p)/\Mq.eQ X/\(∀row∈X,(∀p∈row,Mq.Bd k p)/\row.length=X.length)/\X.length<=26/\10+k+k*(X.length+1)<=8000/\Mq.BdR n (gN X qs)/\1<=n/\bw n X.length<=8900/\wgt X≠0/\
 ∀l zs ps H',bF H H'->H l=none->H' l=some (.lst zs)->Fqs K H' zs ps->Vr X qs ps->Ovr (bw n X.length) ps->Q (.ref l) H'
theorem Vo {X:List (List Mq.Q2)}{qs:List Mq.Q2}(xP:Mq.eQ X)(qP:Mq.Pos qs)(ql:qs.length=X.length)(hw:∀row∈X,row.length=X.length)(hz:wgt X≠0):∃v:Nat->Rat,∀i,i < X.length->(Mq.rs X.length fun j=>oB X i j*v j)=Mq.val (qs.getD i Mq.z0):=by
 obtain⟨R,r,d,sg,S,p⟩:=Al (m:=X.length) (w:=X.length+1) (R0:=gN X qs) (vQ ql) (fun i hi=>by rw[pP ql hi,qJ,List.length_append,hw _ (List.mem_of_getElem? (uH hi))];rfl) (by omega) (Pr:=fun R=>Mq.KI X.length (Mq.at2 (gN X qs)) R/\Mq.KJ X.length (Mq.at2 (gN X qs)) R) ⟨fun Φ _ hz=>hz,fun Φ _ hz=>hz⟩ Aw X.length (Nat.le_refl _);rcases Bu xP qP ql hw S with z | z
 ·exact absurd z.2 hz
 ·rw[z.1] at S;exact⟨fun j=>Mq.at2 R j X.length / (d:Rat),fun i hi=>Nl xP qP ql hw p.1 S hi⟩
end Shp
namespace K67
open PySem L2 Shp
section
variable {P:Program} {w:World} {K:Frag} {mg:Str->Option Value} {base:Heap} {f g1 g2 g3 g4 g5 g6 g7 g8:Addr} {fd gd1 gd2 gd3 gd4 gd5 gd6 gd7 gd8:FuncData} {CX:CXT}
variable {CR:Addr} {CK:Kd->Addr} {fW fJ fT fS:Kd->Addr} {fdW fdJ fdT fdS:Kd->FuncData}
theorem wD:(["one","bottom"]:List Str).Nodup:=by decide +kernel
abbrev sIW:Stmt:=top 51
theorem Rs:aT ["some","bottom","one"] ["some"] (aE sIW):=sK9 rfl rfl rfl rfl (by decide +kernel)
theorem Yf {dV:Value}(F:bZ K "in_wholes" "in_wholes" sIW dV f fd)(G1:aM P w K mg base CX0 1 g1 gd1 ["one","other"] Td)(b1:aQ K gd1 ["one","other"] [])(k1:kI9 K g1)(m1:mI9 mg "greatest_common" g1) :
  aM P w K mg base CX 2 f fd ["some"] (Uj K):=by
 refine F.ok Rs (fun vs H Q E h=>?_) fun cdv A outer s H vs Q E hr h=>?_
 ·obtain⟨_,_,_,_,rfl,_⟩:=h;rfl
 obtain⟨a,xs,ps,n,rfl,hS,hF,hP,hB,h100,hn,q⟩:=h;refine⟨_,(aC (aS (i:=1) Rs.nd rfl (Or.inr rfl) aF)
  (aC (gA PassesOwn.never rfl (fB (pv 0)) (bL (i:=2) Rs.nd rfl (Or.inl rfl))
   (aH (aS (i:=1) Rs.nd rfl (Or.inr rfl) (aY cQ (aY iL (pv 1) (aG G1 hr rfl m1 k1 b1 .nil aL (aA (pv 1) (aA (aU aX (pv 2) aF (fun _ _=>rfl)) aB)))) (aU aX (pv 2) aF (fun _ _=>rfl))))))
  (aH (aZ (dM (aA (gL (nl:=1) (fr:=[1]) (Nc:=["one","bottom"]) (cl:=[("bottom",s.heap.objs.size+1)]) rfl ⟨rfl,rfl,by decide +kernel,by decide +kernel,fun x c h=>h,gD rfl,rfl,fun i n h=>match i,h with | 0,h=>by cases h;exact⟨1,rfl,rfl,rfl,rfl,.inl rfl⟩ | k+1,h=>by rw[show 1+(k+1)=k+2 by omega] at h;cases h⟩
    (fB (pv 0)) (fun C s3 H3 fp pins=>(bL (i:=0) wD rfl (Or.inl rfl))) (fun C s3 H3 fp pins=>gK)
    (fun C s3 H3 fp pins=>(aY cQ (aU (oQ (K:=K) rfl) (pv 0) aF (fun _ _=>rfl)) (aY iL (pv 1) (aU (oQ (K:=K) rfl) (pv 0) aF (fun _ _=>rfl)))))) (aA (pv 1) aB))))))),?_⟩
 have lx:=hF.length;refine⟨_,rfl,a,rfl,⟨_,hS⟩,?_⟩;refine hV (xs:=xs) (fun i σ H'=>H'=H/\i<=ps.length/\∃z,σ=[some (.ref a),some (.int (Mq.dY (ps.take i))),z]) ⟨rfl,Nat.zero_le _,none,rfl⟩ (fun i σ H' _ h=>by rw[h.1];exact hS) ?_ ?_
 ·rintro i x σ H' hx ⟨rfl,hi,z,rfl⟩;obtain⟨u,p,rfl,ep,fu⟩:=hF.get hx;have hi':i < ps.length:=(List.getElem?_eq_some_iff.mp ep).1;obtain⟨f1,f2,_⟩:=Mq.nY hP hB i hi;have mono:=Nat.mul_le_mul_left n hi;have hp:=hP p (List.mem_of_getElem? ep);have pb:=(hB p (List.mem_of_getElem? ep)).b;have g0:Mq.gc (Mq.dY (ps.take i)) p.2≠0:=by have:=Mq.tV (a:=Mq.dY (ps.take i)) (show p.2≠0 by omega);omega
  have gb:Mq.B n (Mq.gc (Mq.dY (ps.take i)) p.2):=by
   have:=Mq.Ef (t:=Mq.dY (ps.take i)) (show p.2≠0 by omega);rw[Sy (by omega)] at this;exact pb.le this
  have qb:Mq.B (1+n*i) (Int.fdiv (Mq.dY (ps.take i)) (Mq.gc (Mq.dY (ps.take i)) p.2)):=by
   have d1:Mq.gc (Mq.dY (ps.take i)) p.2 ∣ Mq.dY (ps.take i):=by unfold Mq.gc;exact Int.gcd_dvd_left ..
   obtain⟨k,hk⟩:=d1;have:=Mq.iU g0 hk;rw[Mq.fV g0 hk];exact f2.le this
  refine⟨_,rfl,_,rfl,cT rfl fu ⟨_,_,rfl,fP g0 gb (by omega) (cT rfl fu (cO qb pb (by omega) (by omega) ?_))⟩⟩;refine⟨rfl,hi',some (.ref u),?_⟩;rw[Mq.mL ep];rfl
 rintro σ H' ⟨rfl,_,z,rfl⟩;rw[lx,List.take_length];obtain⟨f1,f2,f3⟩:=Mq.nY hP hB ps.length (Nat.le_refl _);rw[List.take_length] at f1 f2 f3;refine⟨_,rfl,a,rfl,⟨_,hS⟩,fun D hD=>?_⟩;have sD:=aI hD (.lst []);refine gV (xs:=xs) (fun i zs H1=>bF H' H1/\H1 D=some (.lst zs)/\zs=((ps.take i).map (Mq.Bk (Mq.dY ps))).map V.int) ⟨sD,aD,rfl⟩ (fun i zs H1 h=>h.2.1) (fun i zs H1 _ h=>h.1.seq hS) ?_ ?_
 ·rintro i zs x H1 hx ⟨s1,e1,rfl⟩ C hC;obtain⟨u,p,rfl,ep,fu⟩:=hF.get hx;have hi':i < ps.length:=(List.getElem?_eq_some_iff.mp ep).1;have mem:=List.mem_of_getElem? ep;have hp:=hP p mem;obtain⟨k,hk⟩:=f3 p mem;have fu1:=s1.fq fu;have kb:Mq.B (1+n*ps.length) (Int.fdiv (Mq.dY ps) p.2):=by
   have e:=Mq.fV (show p.2≠0 by omega) (show Mq.dY ps=p.2*k by rw[hk,Int.mul_comm]);rw[e];refine f2.le ?_;rw[hk,Int.natAbs_mul];exact Nat.le_mul_of_pos_right _ (by omega)
  refine⟨gG.1,gG.2,fM ?_⟩;refine dU rfl fu1 ⟨_,rfl,cT rfl fu1 (fP (show p.2≠0 by omega) (hB p mem).b (by omega) (cO (hB p mem).a kb (by omega) (by omega) ?_))⟩;refine⟨e1,bH (by rw[List.length_map,List.length_map,List.length_take];omega),hC _ _ ⟨s1.change hD,aD,?_⟩⟩;rw[List.take_add_one,ep,List.map_append,List.map_append];rfl
 rintro zs H1 ⟨s1,e1,rfl⟩;rw[lx,List.take_length] at e1;refine⟨_,rfl,zl9 2,fun t ht=>?_⟩;have s2:=aI ht (.tup [.ref D,.int (Mq.dY ps)]);exact q t D _ (s1.trans s2) hD (SqT.of aD) (s2 _ _ e1)
abbrev Hq:Stmt:=top 55
theorem Ui:aT ["rows","rank","column","place"] ["rows","rank","column"] (aE Hq):=sK9 rfl rfl rfl rfl (by decide +kernel)
theorem Xs {dV:Value}(F:bZ K "pivot_place" "pivot_place" Hq dV f fd)(ml:mg "len"=none)(mr:mg "range"=none) :
  aM P w K mg base CX 1 f fd ["rows","rank","column"] (Uq K):=by
 refine F.ok Ui (fun vs H Q E h=>?_) fun cdv A outer s H vs Q E hr h=>?_
 ·obtain⟨_,_,_,_,_,_,_,_,rfl,_⟩:=h;rfl
 obtain⟨l,D,zs,R,r,c,m,w',rfl,hS,hI,hm,hw,hc,hr',h100,q1,q2⟩:=h;refine⟨_,(aC (gA PassesOwn.never rfl (xT rfl mr (aA (pv 1) (aA (cL bS rfl ml PySem.boot_len (aA (pv 0) aB)) aB))) (bL (i:=3) Ui.nd rfl (Or.inl rfl))
   (aH (cK (bM rW (aU bY (aU bY (pv 0) (pv 3) (fun _ _=>rfl)) (pv 2) (fun _ _=>rfl)) aF (bO _)) (aH (aZ (pv 3))) bK)))
  (aH (aZ Dq))),?_⟩
 have lz:=hI.length;obtain⟨k,hk⟩:∃k,m=r+k:=⟨m - r,by omega⟩
 refine⟨_,rfl,_,rfl,l,zs,rfl,.inl hS,(r:Int),(zs.length:Int),rfl,⟨by omega,by omega,by omega,by omega⟩,?_⟩;rw[show ((zs.length:Int) - (r:Int)).toNat=k by omega];refine jX (lo:=(r:Int)) (n:=k) (fun i σ H'=>H'=H/\(∀j,r<=j->j < r+i->Mq.ent R j c=0)/\∃z,σ=[some (.ref l),some (.int (r:Int)),some (.int (c:Int)),z]) ⟨rfl,fun j h1 h2=>absurd h1 (by omega),none,rfl⟩ ?_ ?_
 ·rintro i σ H' hi ⟨rfl,hz,z,rfl⟩;obtain⟨u,eu,nu,hu⟩:=hI.at (i:=r+i) (by omega);have eu':atI zs ((r:Int)+(i:Int))=some (.ref u):=by have:=cI eu;rwa [Int.natCast_add] at this
  have ec:=cI (kJ (l:=R.getD (r+i) []) (i:=c) (by rw[hw _ (by omega)];exact hc));refine⟨_,rfl,_,rfl,l,zs,_,_,rfl,rfl,hS,eu',_,rfl,u,_,_,_,rfl,rfl,SqL.of hu,ec,rfl,_,rfl,sR (fun e=>?_) (fun e=>?_)⟩
  ·refine⟨_,rfl,?_⟩;have ne:Mq.ent R (r+i) c≠0:=fun z=>by
    have z':(R.getD (r+i) []).getD c 0=0:=z;rw[z'] at e;simp at e
   have:=q1 (r+i) (by omega) (by omega) ne
   rwa [Int.natCast_add] at this
  ·refine⟨rfl,fun j h1 h2=>?_,_,rfl⟩
   by_cases hj:j=r+i
   ·rw[hj];simp at e;exact e
   ·exact hz j h1 (by omega)
 ·rintro σ H' ⟨rfl,hz,z,rfl⟩;exact q2 fun i h1 h2=>hz i h1 (by omega)
theorem eK:(["here","above","own","other","divisor"]:List Str).Nodup:=by decide +kernel
abbrev Iu:Stmt:=top 57
theorem Pa:aT ["row","upper","column","divisor","own","other"] ["row","upper","column","divisor"] (aE Iu):=sK9 rfl rfl rfl rfl (by decide +kernel)
theorem Wn {dV:Value}(F:bZ K "cleared" "cleared" Iu dV f fd)(mz:mg "zip"=none) :
  aM P w K mg base CX 1 f fd ["row","upper","column","divisor"] (xZ K):=by
 refine F.ok Pa (fun vs H Q E h=>?_) fun cdv A outer s H vs Q E hr h=>?_
 ·obtain⟨_,_,_,_,_,_,_,rfl,_⟩:=h;rfl
 obtain⟨u,v,row,upper,c,n,dv,rfl,hu,hv,hl,h100,hc,hd,b1,b2,bd,hn,q⟩:=h;refine⟨_,(aC (aS (i:=4) Pa.nd rfl (Or.inr rfl) (aU bY (pv 1) (pv 2) (fun _ _=>rfl)))
  (aC (aS (i:=5) Pa.nd rfl (Or.inr rfl) (aU bY (pv 0) (pv 2) (fun _ _=>rfl)))
  (aH (aZ (gL (nl:=2) (fr:=[4,5,3]) (Nc:=["here","above","own","other","divisor"]) (cl:=[("own",s.heap.objs.size+2),("other",s.heap.objs.size+3),("divisor",s.heap.objs.size+1)]) (g:=(Ju K 2 (lL (jL 0) (lL (jL 1) Ir)))) rfl ⟨rfl,rfl,by decide +kernel,by decide +kernel,(fX rfl (fX rfl (fX rfl (tH)))),gD rfl,rfl,fun i n h=>match i,h with | 0,h=>by cases h;exact⟨4,rfl,rfl,rfl,rfl,.inl rfl⟩ | 1,h=>by cases h;exact⟨5,rfl,rfl,rfl,rfl,.inl rfl⟩ | 2,h=>by cases h;exact⟨3,rfl,rfl,rfl,rfl,.inl rfl⟩ | k+3,h=>by rw[show 2+(k+3)=k+5 by omega] at h;cases h⟩
    (Oo rfl mz rfl (aA (pv 0) (aA (pv 1) aB))) (fun C s3 H3 fp pins=>(lF rfl (dC (bL (i:=0) eK rfl (Or.inl rfl)) (dC (bL (i:=1) eK rfl (Or.inl rfl)) iY)))) (fun C s3 H3 fp pins=>gK)
    (fun C s3 H3 fp pins=>(aY iL (aY kU (aY cQ (pv 2) (pv 0)) (aY cQ (pv 3) (pv 1))) (pv 4)))))))),?_⟩
 have e1:=cI (kJ (l:=upper) (i:=c) (by omega));have e2:=cI (kJ (l:=row) (i:=c) (by omega));refine⟨_,rfl,_,rfl,v,_,_,_,rfl,rfl,hv,e1,?_⟩;refine⟨_,rfl,_,rfl,u,_,_,_,rfl,rfl,hu,e2,?_⟩;refine⟨_,rfl,_,rfl,u,v,rfl,⟨_,hu⟩,⟨_,hv⟩,fun D hD=>?_⟩;have sD:=aI hD (.lst []);refine Cp (xs:=row.map V.int) (ys:=upper.map V.int) (fun i zs H'=>bF H H'/\H' D=some (.lst zs)/\zs=((Mq.gJ upper row c dv).take i).map V.int) ⟨sD,aD,rfl⟩ (fun i zs H' h=>h.2.1) (fun i zs H' _ h=>⟨h.1.seq hu,h.1.seq hv⟩) ?_ ?_
 ·rintro i zs x y H1 T1 ex ey ⟨s1,e1',rfl⟩ hT C hC;have hi:i < row.length:=by have:=(List.getElem?_eq_some_iff.mp ex).1;simpa using this
  have ex':x=.int (row.getD i 0):=by rw[kJ hi] at ex;cases ex;rfl
  have ey':y=.int (upper.getD i 0):=by rw[kJ (by omega)] at ey;cases ey;rfl
  subst ex' ey';have sT:=aI hT (.tup [.int (row.getD i 0),.int (upper.getD i 0)]);refine⟨T1,_,rfl,SqT.of aD,rfl,_,_,rfl,_,_,rfl,rfl,mZ.1,mZ.2,fM ?_⟩;have mm:Mq.B (n+n+1) (upper.getD c 0*row.getD i 0 - row.getD c 0*upper.getD i 0):=Mq.B.sub ((b2 c).mul (b1 i)) ((b1 c).mul (b2 i));refine⟨_,rfl,_,rfl,cO (b2 c) (b1 i) (by omega) (by omega) ⟨_,rfl,_,rfl,cO (b1 c) (b2 i) (by omega) (by omega) ⟨_,_,rfl,rfl,_,rfl,fP hd bd (by omega) ?_⟩⟩⟩;have ll:(Mq.gJ upper row c dv).length=row.length:=by unfold Mq.gJ;rw[List.length_zipWith];omega
  have eA:=sT _ _ e1';refine⟨eA,bH (by rw[List.length_map,List.length_take];omega),hC _ _ ⟨(s1.trans sT).change hD,aD,?_⟩⟩;have eg:(Mq.gJ upper row c dv)[i]?=some (Int.fdiv (upper.getD c 0*row.getD i 0 - row.getD c 0*upper.getD i 0) dv):=by
   unfold Mq.gJ;rw[List.getElem?_zipWith,Mq.lU hi,Mq.lU (show i < upper.length by omega)]
  rw[List.take_add_one,eg,List.map_append];rfl
 rintro zs H1 ⟨s1,e1',rfl⟩;have ll:(Mq.gJ upper row c dv).length=row.length:=by unfold Mq.gJ;rw[List.length_zipWith];omega
 rw[List.length_map,List.length_map,List.take_of_length_le (by rw[ll];omega)] at e1';exact q D H1 s1 hD e1'
theorem dB:(["place","row","upper","rank","divisor","column"]:List Str).Nodup:=by decide +kernel
abbrev jK:Stmt:=top 56
theorem wJ:aT ["rows","rank","column","divisor","upper"] ["rows","rank","column","divisor"] (aE jK):=sK9 rfl rfl rfl rfl (by decide +kernel)
theorem Ek {dV:Value}(F:bZ K "cleared_rows" "cleared_rows" jK dV f fd)(men:mg "enumerate"=none)(G1:aM P w K mg base CX0 1 g1 gd1 ["row","upper","column","divisor"] (xZ K))(b1:aQ K gd1 ["row","upper","column","divisor"] [])(k1:kI9 K g1)(m1:mI9 mg "cleared" g1) :
  aM P w K mg base CX 2 f fd ["rows","rank","column","divisor"] (wH K):=by
 refine F.ok wJ (fun vs H Q E h=>?_) fun cdv A outer s H vs Q E hr h=>?_
 ·obtain⟨_,_,_,_,_,_,_,_,_,_,rfl,_⟩:=h;rfl
 obtain⟨l,D0,zs,R,r,c,m,w',n,dv,rfl,hS,hI,hm,hw,hc,hw100,hr',h100,hd,hB,bd,hn,q⟩:=h;refine⟨_,(aC (aS (i:=4) wJ.nd rfl (Or.inr rfl) (aU bY (pv 0) (pv 1) (fun _ _=>rfl)))
  (aH (aZ (gL (nl:=2) (fr:=[4,1,3,2]) (Nc:=["place","row","upper","rank","divisor","column"]) (cl:=[("upper",s.heap.objs.size+4),("rank",s.heap.objs.size+1),("divisor",s.heap.objs.size+3),("column",s.heap.objs.size+2)]) (g:=(Ju K 2 (lL (jL 0) (lL (jL 1) Ir)))) rfl ⟨rfl,rfl,by decide +kernel,by decide +kernel,(fX rfl (fX rfl (fX rfl (fX rfl (tH))))),gD rfl,rfl,fun i n h=>match i,h with | 0,h=>by cases h;exact⟨4,rfl,rfl,rfl,rfl,.inl rfl⟩ | 1,h=>by cases h;exact⟨1,rfl,rfl,rfl,rfl,.inl rfl⟩ | 2,h=>by cases h;exact⟨3,rfl,rfl,rfl,rfl,.inl rfl⟩ | 3,h=>by cases h;exact⟨2,rfl,rfl,rfl,rfl,.inl rfl⟩ | k+4,h=>by rw[show 2+(k+4)=k+6 by omega] at h;cases h⟩
    (tN rfl men rfl (aA (pv 0) aB)) (fun C s3 H3 fp pins=>(lF rfl (dC (bL (i:=0) dB rfl (Or.inl rfl)) (dC (bL (i:=1) dB rfl (Or.inl rfl)) iY)))) (fun C s3 H3 fp pins=>gK)
    (fun C s3 H3 fp pins=>(kO (bM gH (pv 0) (pv 3) (bO _)) (pv 1) (aG G1 hr rfl m1 k1 b1 .nil aL (aA (pv 1) (aA (pv 2) (aA (pv 5) (aA (pv 4) aB))))))))))),?_⟩
 have lz:=hI.length;obtain⟨v,ev,nv,hv⟩:=hI.at (i:=r) (by omega);refine⟨_,rfl,_,rfl,l,zs,_,_,rfl,rfl,hS,cI ev,?_⟩;refine⟨_,rfl,l,rfl,⟨_,hS⟩,fun D hD=>?_⟩;have sD:=aI hD (.lst []);have ll:=Mq.Fu R r c dv;refine qZ (xs:=zs) (fun i ys H'=>bF H H'/\H' D=some (.lst ys)/\Imx D H' ys ((Mq.cH R r c dv).take i)) ⟨sD,aD,.nil⟩ (fun i ys H' h=>h.2.1) (fun i ys H' _ h=>h.1.seq hS) ?_ ?_
 ·rintro i ys x H1 T1 ex ⟨s1,e1,I1⟩ hT C hC;have hi:i < m:=by have:=(List.getElem?_eq_some_iff.mp ex).1;omega
  obtain⟨u,eu,nu,hu⟩:=hI.at (i:=i) (by omega);have exu:x=.ref u:=by rw[eu] at ex;cases ex;rfl
  subst exu;have lI:=I1.length;rw[List.length_take] at lI;have cg:=Mq.pC (R:=R) (i:=i) (by omega) r c dv;have cs:(Mq.cH R r c dv).take (i+1)=(Mq.cH R r c dv).take i++[(Mq.cH R r c dv).getD i []]:=by
   rw[List.take_add_one,List.getD_eq_getElem?_getD,List.getElem?_eq_getElem (show i < (Mq.cH R r c dv).length by omega)];rfl
  have sT:=aI hT (.tup [.int (i:Int),.ref u]);have uD:∀{x:Addr} {o:HO},H x=some o->x≠D:=fun h z=>by rw[z,hD] at h;cases h
  refine⟨T1,_,rfl,SqT.of aD,rfl,_,_,rfl,_,_,rfl,rfl,mZ.1,mZ.2,fM ?_⟩;generalize upd H1 T1 (.tup [.int (i:Int),.ref u])=H2 at sT ⊢;have sA:=s1.trans sT;have eA:=sT _ _ e1;refine⟨_,rfl,_,rfl,rfl,_,rfl,sR (fun e=>?_) (fun e=>?_)⟩
  ·have ei:i=r:=by simp at e;omega
   refine⟨_,rfl,eA,bH (by omega),hC _ _ ⟨sA.change hD,aD,?_⟩⟩;rw[cs,cg,if_pos ei];exact((I1.same sT).app (.cons (uD hu) (sA _ _ hu) .nil)).upd
  ·have ei:i≠r:=by simp at e;omega
   refine⟨_,rfl,_,rfl,_,rfl,_,rfl,u,v,R.getD i [],R.getD r [],c,n,dv,rfl,SqL.of (sA _ _ hu),SqL.of (sA _ _ hv),by rw[hw i hi,hw r hr'],by rw[hw i hi];exact hw100,by rw[hw i hi];exact hc,hd,fun j=>hB i j,fun j=>hB r j,bd,hn,fun l3 H3 s3 n3 e3=>?_⟩;have eB:=s3 _ _ eA;have n3':l3≠D:=fun z=>by rw[z,eA] at n3;cases n3
   refine⟨eB,bH (by omega),hC _ _ ⟨(sA.trans s3).change hD,aD,?_⟩⟩;rw[cs,cg,if_neg ei];exact((I1.same (sT.trans s3)).app (.cons n3' e3 .nil)).upd
 rintro ys H1 ⟨s1,e1,I1⟩;rw[lz,List.take_of_length_le (by omega)] at I1;exact q D ys H1 s1 hD e1 I1
abbrev wT:Stmt:=top 54
theorem iC:aT ["rows","width","rank","pivot","sign","column","place","lifted"] ["rows","width"] (aE wT):=sK9 rfl rfl rfl rfl (by decide +kernel)
theorem Rp {dV:Value}(F:bZ K "eliminated" "eliminated" wT dV f fd)(mr:mg "range"=none)(mli:mg "list"=none)(G1:aM P w K mg base CX0 1 g1 gd1 ["rows","rank","column"] (Uq K))(b1:aQ K gd1 ["rows","rank","column"] [])(k1:kI9 K g1)(m1:mI9 mg "pivot_place" g1)(G2:aM P w K mg base CX0 2 g2 gd2 ["rows","rank","column","divisor"] (wH K))(b2:aQ K gd2 ["rows","rank","column","divisor"] [])(k2:kI9 K g2)(m2:mI9 mg "cleared_rows" g2) :
  aM P w K mg base CX 3 f fd ["rows","width"] (Ep K):=by
 refine F.ok iC (fun vs H Q E h=>?_) fun cdv A outer s H vs Q E hr h=>?_
 ·obtain⟨_,_,_,_,_,_,_,_,rfl,_⟩:=h;rfl
 obtain⟨l,D0,zs,R,m,w',n,Pr,rfl,hS,hI,hm,hw,hmw,hw100,hB,hn1,hn,hm31,hPr,hSt,q⟩:=h;have r1:=hr.mono (show 1<=2 by omega);refine⟨_,(aC (aS (i:=0) iC.nd rfl (Or.inl rfl) (Jn yQ rfl mli PyProof.Rows.boot_list (aA (pv 0) aB)))
  (aC (aS (i:=2) iC.nd rfl (Or.inl rfl) aF)
  (aC (aS (i:=3) iC.nd rfl (Or.inl rfl) aF)
  (aC (aS (i:=4) iC.nd rfl (Or.inl rfl) aF)
  (aC (gA PassesOwn.never rfl (iK rfl mr (aA (pv 1) aB)) (bL (i:=5) iC.nd rfl (Or.inl rfl))
   (aC (aS (i:=6) iC.nd rfl (Or.inl rfl) (aG G1 r1 rfl m1 k1 b1 .nil aL (aA (pv 0) (aA (pv 2) (aA (pv 5) aB)))))
  (aC (cK (lT (zK (pv 6))) (aH Bj) bK)
  (aC (cK (bM rW (pv 6) (pv 2) (bO _)) (aC (aS (i:=7) iC.nd rfl (Or.inl rfl) (aU bY (pv 0) (pv 6) (fun _ _=>rfl)))
  (aC (qF (aU bY (pv 0) (pv 2) (fun _ _=>rfl)) (uS (pv 0) (pv 6) lM))
  (aC (qF (pv 7) (uS (pv 0) (pv 2) lM))
  (aH (aS (i:=4) iC.nd rfl (Or.inl rfl) (Lv El (pv 4))))))) bK)
  (aC (aS (i:=0) iC.nd rfl (Or.inl rfl) (aG G2 hr rfl m2 k2 b2 .nil aL (aA (pv 0) (aA (pv 2) (aA (pv 5) (aA (pv 3) aB))))))
  (aC (aS (i:=3) iC.nd rfl (Or.inl rfl) (aU bY (aU bY (pv 0) (pv 2) (fun _ _=>rfl)) (pv 5) (fun _ _=>rfl)))
  (aH (Nh (i:=2) iC.nd rfl (Or.inl rfl) aF Pj))))))))
  (aH (aZ (zV (jU cW (pv 0) (jU cW (pv 2) (jU cW (pv 3) (jU cW (pv 4) Ae)))) rfl rfl (by simp) (by decide))))))))),?_⟩
 refine⟨_,rfl,l,zs,rfl,.inl hS,fun l0 hl0=>?_⟩;have s0:=aI hl0 (.lst zs);have e0:upd H l0 (.lst zs) l0=some (.lst zs):=aD;generalize upd H l0 (.lst zs)=H0 at s0 e0 ⊢;refine⟨_,rfl,(m:Int),rfl,by omega,by omega,?_⟩;rw[Int.toNat_natCast];have b1:Mq.B n 1:=by
  show 1 < 2 ^ n;exact Nat.one_lt_two_pow (by omega)
 refine jX (lo:=0) (n:=m) (fun i σ H'=>bF H H'/\∃(lR:Addr) (zs':List V) (R':List (List Int)) (rank:Nat) (pivot sign:Int) (z5 z6 z7:Option V),σ=[some (.ref lR),some (.int (m:Int)),some (.int (rank:Int)),some (.int pivot),some (.int sign),z5,z6,z7]/\H lR=none/\H' lR=some (.lst zs')/\Imx lR H' zs' R'/\Mq.SI m w' (Mq.at2 R) R' rank i pivot sign/\Mq.SB n m R' rank i pivot/\Pr R') ⟨s0,l0,zs,R,0,1,1,none,none,none,rfl,hl0,e0,(hI.other hl0).same s0,.start hm hw,.start hB,hPr⟩ ?_ ?_
 ·rintro i σ H1 hi ⟨s1,lR,zs',R',rank,pivot,sign,z5,z6,z7,rfl,nR,eR,I1,S1,sb,p1⟩;rw[Int.zero_add];obtain⟨bR,bP⟩:=sb.bd5 S1 hm31;obtain⟨A1,c1,B1,_⟩:=S1.bar;have rm:=B1.rm;have rc:=B1.rc;have dn:pivot≠0:=fun z=>B1.dne (by rw[z];simp);clear B1;refine⟨_,rfl,_,rfl,_,rfl,lR,lR,zs',R',rank,i,m,w',rfl,SqL.of eR,I1,S1.len,S1.wid,by omega,rm,by omega,fun p h1 h2 ne=>?_,fun hz=>?_⟩
  ·refine⟨_,rfl,_,rfl,dX ?_⟩;have hrm:rank < m:=by omega
   refine(fun (hrest:∀(sg:Int) (z:Option V) (Hx:Hp) (zs2:List V) (R2:List (List Int)),bF H Hx->Hx lR=some (.lst zs2)->Imx lR Hx zs2 R2->Mq.SI m w' (Mq.at2 R) R2 rank i pivot sg->Mq.ent R2 rank i≠0->Mq.SB n m R2 rank i pivot->Pr R2->PySem.W.KIN.Hid ((?T:Int->Option V->Hp->Prop) sg z Hx))=>?main) ?rest
   case main=>
    refine⟨_,rfl,_,rfl,rfl,_,rfl,sR (fun e=>?c1) (fun e=>?c2)⟩
    case c1=>
     have npr:p≠rank:=by simp at e;omega
     obtain⟨up,eup,nup,hup⟩:=I1.at (i:=p) (by rw[S1.len];omega);obtain⟨ur,eur,nur,hur⟩:=I1.at (i:=rank) (by rw[S1.len];omega);have lz:zs'.length=m:=I1.length.trans S1.len;refine⟨_,rfl,_,rfl,lR,zs',_,_,rfl,rfl,SqL.of eR,cI eup,?_⟩;refine⟨_,rfl,_,rfl,lR,zs',_,_,rfl,rfl,SqL.of eR,cI eur,_,rfl,_,rfl,lR,zs',_,p,rfl,rfl,eR,oF (by omega),?_⟩;have e2:upd H1 lR (.lst (zs'.set p (.ref ur))) lR=some (.lst (zs'.set p (.ref ur))):=aD;have I2:=(Imx.set nur hur p I1).upd (o:=.lst (zs'.set p (.ref ur)));have s2:bF H (upd H1 lR (.lst (zs'.set p (.ref ur)))):=s1.change nR;have hup2:upd H1 lR (.lst (zs'.set p (.ref ur))) up=some (.lst ((R'.getD p []).map V.int)):=by rw[aV nup];exact hup
     generalize upd H1 lR (.lst (zs'.set p (.ref ur)))=H2 at e2 I2 s2 hup2 ⊢;refine⟨_,rfl,_,rfl,_,rfl,lR,_,_,rank,rfl,rfl,e2,oF (by rw[List.length_set];omega),?_⟩;have e3:upd H2 lR (.lst ((zs'.set p (.ref ur)).set rank (.ref up))) lR=some (.lst ((zs'.set p (.ref ur)).set rank (.ref up))):=aD;have I3:=(Imx.set nup hup2 rank I2).upd (o:=.lst ((zs'.set p (.ref ur)).set rank (.ref up)));have s3:bF H (upd H2 lR (.lst ((zs'.set p (.ref ur)).set rank (.ref up)))):=s2.change nR;generalize upd H2 lR (.lst ((zs'.set p (.ref ur)).set rank (.ref up)))=H3 at e3 I3 s3 ⊢;refine⟨_,rfl,_,rfl,?_⟩;show fK _ _ _ [some (.ref lR),some (.int (m:Int)),some (.int (rank:Int)),some (.int pivot),some (.int (-sign)),some (.int (i:Int)),some (.int (p:Int)),some (.ref up)] H3;have S3:=S1.swap (p:=p) (by omega) h2;have bR3:=sb.swap S1 (p:=p) (by omega) h2;have ne3:Mq.ent (Mq.fI R' p rank) rank i≠0:=by
      unfold Mq.ent;rw[Mq.yW (by rw[S1.len];omega) (by rw[S1.len];omega)];have:Mq.sw p rank rank=p:=by unfold Mq.sw;rw[if_pos rfl]
      rw[this];exact ne
     have I3':Imx lR H3 ((zs'.set p (.ref ur)).set rank (.ref up)) (Mq.fI R' p rank):=I3;clear I3 hup2;have p3:=hSt.sw _ _ _ _ _ _ S1 (show rank < p by omega) h2 p1;generalize -sign=sg at S3 ⊢;generalize some (V.ref up)=zz at ⊢;exact(hrest sg zz H3 _ _ s3 e3 I3' S3 ne3 bR3 p3).out
    case c2=>
     have epr:p=rank:=by simp at e;omega
     show fK _ _ _ [some (.ref lR),some (.int (m:Int)),some (.int (rank:Int)),some (.int pivot),some (.int sign),some (.int (i:Int)),some (.int (p:Int)),z7] H1;exact(hrest sign z7 H1 _ _ s1 eR I1 S1 (by rw[<- epr];exact ne) sb p1).out
   case rest=>
   intro sg z Hx zs2 R2 sx ex Ix Sx nx bx px;refine⟨?_⟩;have bxx:=bx.bd5 Sx hm31;refine⟨_,rfl,_,rfl,_,rfl,_,rfl,lR,lR,zs2,R2,rank,i,m,w',bw n m,pivot,rfl,SqL.of ex,Ix,Sx.len,Sx.wid,by omega,hw100,hrm,by omega,dn,bxx.1,bxx.2,hn,fun l3 zs3 H3 s3 n3 e3 I3=>?_⟩;have S3:=Sx.clear hrm (by omega) nx;have b3:=bx.clear Sx hrm (by omega) nx;obtain⟨u,eu,nu,hu⟩:=I3.at (i:=rank) (by rw[S3.len];omega);have ec:=cI (kJ (l:=(Mq.cH R2 rank i pivot).getD rank []) (i:=i) (by rw[S3.wid _ hrm];omega));refine⟨_,rfl,_,rfl,l3,zs3,_,_,rfl,rfl,SqL.of e3,cI eu,_,rfl,u,_,_,_,rfl,rfl,SqL.of hu,ec,?_⟩;refine⟨_,rfl,_,_,rfl,rfl,?_⟩;have ev:((Mq.cH R2 rank i pivot).getD rank []).getD i 0=Mq.ent R2 rank i:=by rw[Mq.pC (by rw[Sx.len];omega),if_pos rfl];rfl
   refine⟨sx.trans s3,l3,zs3,_,rank+1,Mq.ent R2 rank i,sg,some (.int (i:Int)),some (.int (p:Int)),z,?_,sx.free n3,e3,I3,S3,b3,hSt.cl _ _ _ _ _ Sx hrm (by omega) nx px⟩;rw[ev];rfl
  ·refine⟨_,rfl,_,rfl,fM ?_⟩;exact⟨s1,lR,zs',R',rank,pivot,sign,_,_,_,rfl,nR,eR,I1,S1.skip hz,sb.skip hz,p1⟩
 ·rintro σ H1 ⟨s1,lR,zs',R',rank,pivot,sign,z5,z6,z7,rfl,nR,eR,I1,S1,sb,p1⟩;obtain⟨bR,bP⟩:=sb.bd5 S1 hm31;obtain⟨A1,c1,B1,_⟩:=S1.bar;have rm:=B1.rm;intro d hd;have nd:lR≠d:=fun z=>by rw[z,hd] at eR;cases eR
  refine⟨_,rfl,_,rfl,_,rfl,_,rfl,aD,[(.inr "rows",.ref lR),(.inr "rank",.int (rank:Int)),(.inr "pivot",.int pivot),(.inr "sign",.int sign)],rfl,by show 4<=15;decide,?_⟩;have sd:bF H1 (upd (upd H1 d (.dK [])) d (Pm lR rank pivot sign)):=(aI hd _).change hd;exact q d lR zs' R' rank pivot sign _ (s1.trans sd) (s1.free hd) nR aD (sd _ _ eR) (I1.same sd) S1 bR bP p1
theorem rP:(["row","side"]:List Str).Nodup:=by decide +kernel
theorem rY:(["row","many","end"]:List Str).Nodup:=by decide +kernel
abbrev mE:Stmt:=top 50
theorem pO:aT ["matrix","right","many","rows","end"] ["matrix","right"] (aE mE):=sK9 rfl rfl rfl rfl (by decide +kernel)
theorem Jk {dV:Value}(F:bZ K "solved" "solved" mE dV f fd)(ml:mg "len"=none)(mz:mg "zip"=none)(G1:aM P w K mg base CX0 2 g1 gd1 ["some"] (Uj K))(b1:aQ K gd1 ["some"] [])(k1:kI9 K g1)(m1:mI9 mg "in_wholes" g1)(G2:aM P w K mg base CX0 3 g2 gd2 ["rows","width"] (Ep K))(b2:aQ K gd2 ["rows","width"] [])(k2:kI9 K g2)(m2:mI9 mg "eliminated" g2)(G3:aM P w K mg base CX0 2 g3 gd3 ["top","bottom"] iO)(b3:aQ K gd3 ["top","bottom"] [])(k3:kI9 K g3)(m3:mI9 mg "fraction" g3) :
  aM P w K mg base CX 5 f fd ["matrix","right"] (xC K):=by
 refine F.ok pO (fun vs H Q E h=>?_) fun cdv A outer s H vs Q E hr h=>?_
 ·obtain⟨_,_,_,_,_,_,_,_,_,_,rfl,_⟩:=h;rfl
 obtain⟨g,bR,D0,H00,us,bs,X,qs,k,n,rfl,hU,hX,hB,hQ,ql,qL,qB,xP,xB,x4,hk,hBd,hn1,hnb,hz0,q⟩:=h;have hu:=jA hr;have r3:=hr.mono (show 3<=4 by omega);have r2:=hr.mono (show 2<=4 by omega);refine⟨_,(aC (aS (i:=2) pO.nd rfl (Or.inr rfl) (cL bS rfl ml PySem.boot_len (aA (pv 0) aB)))
  (aC (tT (i:=3) (nl:=2) (fr:=[]) (Nc:=["row","side"]) (cl:=[]) (g:=(Ju K 2 (lL (jL 0) (lL (jL 1) Ir)))) pO.nd rfl rfl rfl ⟨rfl,rfl,by decide +kernel,by decide +kernel,fun x c h=>(by cases h),gD rfl,rfl,fun i n h=>(by simp at h)⟩
    (Oo rfl mz rfl (aA (pv 0) (aA (pv 1) aB))) (fun C s3 H3 fp pins=>(lF rfl (dC (bL (i:=0) rP rfl (Or.inl rfl)) (dC (bL (i:=1) rP rfl (Or.inl rfl)) iY)))) (fun C s3 H3 fp pins=>gK)
    (fun C s3 H3 fp pins=>(aU (oQ (K:=K) rfl) (aG G1 r2 rfl m1 k1 b1 .nil aL (aA (aY nH (pv 0) (cX (aA (pv 1) aB))) aB)) aF (fun _ _=>rfl))) rfl)
  (aC (aS (i:=4) pO.nd rfl (Or.inr rfl) (aG G2 r3 rfl m2 k2 b2 .nil aL (aA (pv 3) (aA (pv 2) aB))))
  (aC (cK (bM yC (jB hu (pv 4) cW (fun _ _=>rfl)) (pv 2) (bO _)) (aH fR) bK)
  (aH (aZ (gL (nl:=1) (fr:=[2,4]) (Nc:=["row","many","end"]) (cl:=[("many",s.heap.objs.size+1),("end",s.heap.objs.size+2)]) rfl ⟨rfl,rfl,by decide +kernel,by decide +kernel,(fX rfl (fX rfl (tH))),gD rfl,rfl,fun i n h=>match i,h with | 0,h=>by cases h;exact⟨2,rfl,rfl,rfl,rfl,.inl rfl⟩ | 1,h=>by cases h;exact⟨4,rfl,rfl,rfl,rfl,.inl rfl⟩ | k+2,h=>by rw[show 1+(k+2)=k+3 by omega] at h;cases h⟩
    (fB (jB hu (pv 4) cW (fun _ _=>rfl))) (fun C s3 H3 fp pins=>(bL (i:=0) rY rfl (Or.inl rfl))) (fun C s3 H3 fp pins=>gK)
    (fun C s3 H3 fp pins=>(aG G3 r2 rfl m3 k3 b3 .nil aL (aA (aU (uZ (K:=K) rfl) (pv 0) (pv 1) (fun _ _=>rfl)) (aA (jB hu (pv 2) cW (fun _ _=>rfl)) aB))))))))))),?_⟩
 have lu:=hX.length;have lb:=hQ.length;have hw:∀row∈X,row.length=X.length:=fun row h=>(xB row h).2;have qP:=qL.pos;have lA:=vQ ql;refine⟨_,rfl,g,us,rfl,.inl hU,?_⟩;refine⟨_,rfl,_,rfl,g,bR,rfl,⟨_,hU⟩,⟨_,hB⟩,fun D hD=>?_⟩;have sD:=aI hD (.lst []);refine Cp (xs:=us) (ys:=bs) (fun i zs H'=>bF H H'/\H' D=some (.lst zs)/\Imx D H' zs ((gN X qs).take i)) ⟨sD,aD,.nil⟩ (fun i zs H' h=>h.2.1) (fun i zs H' _ h=>⟨h.1.seq hU,h.1.seq hB⟩) ?_ ?_
 ·rintro i zs x y H1 T1 ex ey ⟨s1,e1,I1⟩ hT C hC;obtain⟨u,ys,row,rfl,er,_,_,hu',fu⟩:=hX.get ex;obtain⟨v,qv,rfl,eq,fv⟩:=hQ.get ey;have hi:i < X.length:=(List.getElem?_eq_some_iff.mp er).1;have mem:=List.mem_of_getElem? er;have memq:=List.mem_of_getElem? eq;obtain⟨rb,rl⟩:=xB row mem;have lys:=fu.length;have sT:=aI hT (.tup [.ref u,.ref v]);refine⟨T1,_,rfl,SqT.of aD,rfl,_,_,rfl,_,_,rfl,rfl,mZ.1,mZ.2,fM ?_⟩;generalize upd H1 T1 (.tup [.ref u,.ref v])=H2 at sT ⊢;have s2:=s1.trans sT;refine⟨_,rfl,_,rfl,zl9 1,fun lo hlo=>?_⟩;have s3:=aI hlo (.lst [.ref v]);have e3:upd H2 lo (.lst [.ref v]) lo=some (.lst [.ref v]):=aD;generalize upd H2 lo (.lst [.ref v])=H3 at s3 e3 ⊢;have s03:=s2.trans s3;refine⟨u,lo,_,_,rfl,rfl,s03 _ _ hu',e3,Nat.le_of_lt (bH (by simp only[List.length_cons,List.length_nil];omega)),fun p hp=>?_⟩;have s4:=aI hp (.lst (ys++[.ref v]));have e4:upd H3 p (.lst (ys++[.ref v])) p=some (.lst (ys++[.ref v])):=aD;generalize upd H3 p (.lst (ys++[.ref v]))=H4 at s4 e4 ⊢;have s04:=s03.trans s4;have s14:=sT.trans (s3.trans s4);refine⟨p,_,row++[qv],k,rfl,SqL.of e4,(fu.same s04).app (.cons (s04.fq fv) .nil),fun z hz=>?_,fun z hz=>?_,by rw[List.length_append];simp only[List.length_cons,List.length_nil];omega,by rw[List.length_append,rl];simp only[List.length_cons,List.length_nil];rw[show X.length+(0+1)=X.length+1 by omega];omega,fun t l H5 s5 nl ht hl=>?_⟩
  ·rcases List.mem_append.mp hz with z1 | z1
   ·exact xP row mem z z1
   ·have:z=qv:=by simpa using z1
    rw[this];exact qP qv memq
  ·rcases List.mem_append.mp hz with z1 | z1
   ·exact rb z z1
   ·have:z=qv:=by simpa using z1
    rw[this];exact qB qv memq
  have s15:=s14.trans s5;have e5:=s15 _ _ e1;have ne:l≠D:=fun z=>by rw[z,s14 _ _ e1] at nl;cases nl
  have lz:=I1.length;rw[List.length_take,lA] at lz;refine⟨t,_,_,_,rfl,rfl,ht,rfl,e5,bH (by omega),hC _ _ ⟨(s1.trans s15).change hD,aD,?_⟩⟩;have ee:(gN X qs).take (i+1)=(gN X qs).take i++[Mq.iw (row++[qv])]:=by
   rw[List.take_add_one];unfold gN lV;rw[List.getElem?_map,List.getElem?_zipWith,er,eq];rfl
  rw[ee];exact((I1.same s15).app (.cons ne hl .nil)).upd
 rintro zs H1 ⟨s1,e1,I1⟩;rw[show min us.length bs.length=(gN X qs).length by omega,List.take_length] at I1;have bits4:bw n X.length<=9000:=Nat.le_trans hnb (by decide);have wA:∀i,i < X.length->((gN X qs).getD i []).length=X.length+1:=fun i hi=>by
  rw[pP ql hi,qJ,List.length_append,hw _ (List.mem_of_getElem? (uH hi))];rfl
 refine⟨_,rfl,_,rfl,D,D,zs,gN X qs,X.length,X.length+1,n,fun R=>Mq.KI X.length (Mq.at2 (gN X qs)) R/\Mq.KJ X.length (Mq.at2 (gN X qs)) R,by rw[lu];rfl,SqL.of e1,I1,lA,wA,by omega,by omega,hBd,hn1,by omega,by omega,⟨fun Φ _ hz=>hz,fun Φ _ hz=>hz⟩,Aw,fun d lE zE R' rank pivot sign H2 s2 nd nlE ed el IE SE bE bp LE=>?_⟩;obtain⟨g1',g2',g3',g4'⟩:=Bo ed;have s02:=s1.trans s2;have wr:=Bu xP qP ql hw SE;refine⟨_,rfl,d,_,rfl,g2',_,rfl,_,_,rfl,rfl,_,rfl,sR (fun e=>?_) (fun e=>?_)⟩
 ·-- lame
  have hr':rank < X.length:=by simp at e;omega
  have hz:wgt X=0:=by
   rcases wr with z | z
   ·exact z.2
   ·omega
  exact absurd hz hz0
 ·-- whole
  have hr':rank=X.length:=by
   rcases wr with z | z
   ·simp at e;omega
   ·exact z.1
  have hz:wgt X≠0:=by
   rcases wr with z | z
   ·omega
   ·exact z.2
  subst hr';have dn:=SE.dne;have pn:pivot≠0:=fun z=>dn (by rw[z];simp);have lzE:=IE.length;rw[SE.len] at lzE;refine⟨_,rfl,d,_,rfl,g1',lE,rfl,⟨_,SqL.of el⟩,fun D2 hD2=>?_⟩;have sD2:=aI hD2 (.lst []);refine gV (xs:=zE) (fun i ws H'=>bF H2 H'/\H' D2=some (.lst ws)/\Fqs K H' ws ((List.range i).map fun i=>Mq.red (Mq.ent R' i X.length) pivot)) ⟨sD2,aD,.nil⟩ (fun i ws H' h=>h.2.1) (fun i ws H' _ h=>h.1.seq (SqL.of el)) ?_ ?_
  ·rintro i ws x H3 hx ⟨s3,e3,F3⟩ C hC;have hi:i < X.length:=by have:=(List.getElem?_eq_some_iff.mp hx).1;omega
   obtain⟨u,eu,nu,hu2⟩:=IE.at (i:=i) (by rw[SE.len];exact hi);have exu:x=.ref u:=by rw[eu] at hx;cases hx;rfl
   subst exu;have wid:=SE.wid i hi;have lz:=F3.length;rw[List.length_map,List.length_range] at lz;have ea:=cI (kJ (l:=R'.getD i []) (i:=X.length) (by omega));rw[<- lu] at ea;refine⟨gG.1,gG.2,fM ?_⟩;refine⟨_,rfl,_,rfl,u,_,_,_,rfl,rfl,SqL.of (s3 _ _ hu2),ea,?_⟩;rw[lu];refine⟨_,rfl,d,_,rfl,Bo (s3 _ _ ed) |>.2.2.1,_,_,bw n X.length,rfl,pn,bp,bits4,fun r H4 s4 e4=>?_⟩;have eD:=s4 _ _ e3;refine⟨eD,bH (by omega),hC _ _ ⟨(s3.trans s4).change hD2,aD,?_⟩⟩;rw[List.range_succ,List.map_append];exact((F3.same s4).app (.cons (Fq.of e4) .nil)).upd eD
  rintro ws H3 ⟨s3,e3,F3⟩;rw[lzE] at F3;have gd:∀j,j < X.length->((List.range X.length).map fun i=>Mq.red (Mq.ent R' i X.length) pivot).getD j Mq.z0=Mq.red (Mq.ent R' j X.length) pivot:=fun j hj=>by
   rw[List.getD_eq_getElem?_getD,List.getElem?_map,List.getElem?_range hj];rfl
  refine q D2 ws _ H3 (s02.trans s3) (s02.free hD2) e3 F3 ⟨⟨by simp,fun p hp=>?_,fun p hp=>?_,fun i hi=>?_⟩,fun v hv j hj=>?_⟩ (Sa pn bp fun p hp=>by obtain⟨i,hi,rfl⟩:=List.mem_map.mp hp;exact⟨_,bE i X.length,rfl⟩)
  ·obtain⟨i,_,rfl⟩:=List.mem_map.mp hp;exact Mq.iF pn
  ·obtain⟨i,hi,rfl⟩:=List.mem_map.mp hp;have le:=Mq.lK (t:=Mq.ent R' i X.length) pn;exact⟨((bE i X.length).le le.1).mono bits4,(bp.le le.2).mono bits4⟩
  ·rw[<- Nl xP qP ql hw LE.1 SE hi];refine Mq.aK fun j hj=>?_;rw[gd j hj,Mq.kH pn];rfl
  ·rw[gd j hj,Mq.kH pn,<- Vq xP qP ql hw LE.2 SE hv hj];rfl
abbrev wHo:Kd->Bool:=fun k=>inV (.str k.wd) [.str "hold"]
def Ug (CN:Addr)(K:Frag):Sp:=fun vs H Q _=>∃(n l:Addr) (m:Nat) (ds:List RD),vs=[.ref n]/\fY CN K H n l (m:Int) ds/\(∀d∈ds,dA (m:Int) d.2.1 d.2.2.1)/\1<=m/\m<=20/\ds.length<=40/\(fD wHo (skl ds) ds.length).2=[]/\Mg m ds=[]/\∀H',bF H H'->Q .non H'
abbrev Ie:Stmt:=top 66
theorem Nb:aT ["net","held","points"] ["net"] (aE Ie):=sK9 rfl rfl rfl rfl (by decide +kernel)
theorem Xf {dV:Value}(F:bZ K "refuse_unanswered" "refuse_unanswered" Ie dV f fd){CN:Addr}(ml:mg "len"=none)(G1:aM P w K mg base CX0 5 g1 gd1 ["net","words"] (Gb CN K))(b1:aQ K gd1 ["net","words"] [])(k1:kI9 K g1)(m1:mI9 mg "rings" g1)(G2:aM P w K mg base CX0 6 g2 gd2 ["net"] (Fi CN K))(b2:aQ K gd2 ["net"] [])(k2:kI9 K g2)(m2:mI9 mg "floating" g2) :
  aM P w K mg base CX 7 f fd ["net"] (Ug CN K):=by
 refine F.ok Nb (fun vs H Q E h=>?_) fun cdv A outer s H vs Q E hr h=>?_
 ·obtain⟨_,_,_,_,rfl,_⟩:=h;rfl
 obtain⟨n,l,m,ds,rfl,nt,pt,mo,m20,h40,hR,hF,q⟩:=h;have r5:=hr.mono (show 5<=6 by omega);refine⟨_,(aC (aS (i:=1) Nb.nd rfl (Or.inl rfl) (aG G1 r5 rfl m1 k1 b1 .nil aL (aA (pv 0) (aA (cX (aA cW aB)) aB))))
  (aC (cK (bM Be (cL bS rfl ml PySem.boot_len (aA (pv 1) aB)) aF (bO _)) (aH fR) bK)
  (aC (aS (i:=2) Nb.nd rfl (Or.inl rfl) (aG G2 hr rfl m2 k2 b2 .nil aL (aA (pv 0) aB)))
  (aH (cK (bM Be (cL bS rfl ml PySem.boot_len (aA (pv 2) aB)) aF (bO _)) (aH fR) bK))))),?_⟩
 refine⟨_,rfl,zl9 1,fun L hL=>?_⟩;have s1:=aI hL (.lst [.str "hold"]);have e1:upd H L (.lst [.str "hold"]) L=some (.lst [.str "hold"]):=aD;generalize upd H L (.lst [.str "hold"])=H1 at s1 e1 ⊢;refine⟨n,l,.ref L,m,ds,wHo,rfl,nt.same s1,pt,m20,h40,.seq (SqL.of e1) rfl,fun r us H2 s2 nr er G nx=>?_⟩;rw[hR] at G;have lu:us=[]:=List.eq_nil_of_length_eq_zero (by have:=G.l;simpa using this);subst lu;refine⟨_,rfl,r,_,rfl,.inl (SqL.of er),_,_,rfl,rfl,_,rfl,L2.ifF rfl ?_⟩;have s02:=s1.trans s2;refine⟨_,rfl,n,l,m,ds,rfl,nt.same s02,pt,mo,m20,by omega,fun l' H3 s3 nl e3=>?_⟩;rw[hF] at e3;refine⟨_,rfl,l',_,rfl,.inl (SqL.of e3),_,_,rfl,rfl,_,rfl,L2.ifF rfl ?_⟩;exact q H3 (s02.trans s3)
end
end K67
namespace L2
open PySem PySem.Spec PyProof.Rows Shp
abbrev wd (m:Nat)(ds:List RD):Nat:=m - 1+bQ ds
structure Sv (m:Nat) (ds:List RD) (r:Nat->Rat) (v:Nat->Rat):Prop where
 z:v 0=0
 e:∀i,i < wd m ds->(Mq.rs (wd m ds) fun j=>eqM m ds (i+1) (j+1)*v (j+1))=r (i+1)
def un (k x:Nat):Rat:=if x=k then 1 else 0
abbrev dD (m:Nat)(ds:List RD)(a b:Nat)(v:Nat->Rat):Prop:=Sv m ds (fun x=>un a x - un b x) v
section
variable {m:Nat} {ds:List RD} {r v:Nat->Rat}
theorem Sv.uni (o:Nof m ds){u:Nat->Rat}(h:Sv m ds r v)(g:Sv m ds r u):∀j,j<=wd m ds->v j=u j:=fun j hj=>by
 by_cases c:j=0
 ·rw[c,h.z,g.z]
 ·have:=o.uni (v:=fun j=>v (j+1)) (w:=fun j=>u (j+1)) (r:=fun i=>r (i+1)) h.e g.e (j - 1) (by unfold wd at hj;omega)
  rwa [show j - 1+1=j by omega] at this
theorem Sv.row (o:Nof m ds)(h:Sv m ds r v){x:Nat}(x1:1<=x)(xw:x<=wd m ds):nt v m ds x+hw v m ds x=r x:=by
 have e:=h.e (x - 1) (by omega);have m1:=o.m1;rw[show x - 1+1=x by omega] at e;have c:∀j,j < wd m ds->eqM m ds x (j+1)*v (j+1)=v (j+1)*eqM m ds (j+1) x:=fun j _=>by rw[pD,Rat.mul_comm]
 rw[Mq.aK c,yX (m:=m) (u:=v) h.z (by unfold wd;omega) x ds m o.pt m1 (by unfold wd;omega)] at e;exact e
theorem Sv.pt (o:Nof m ds)(h:Sv m ds r v){x:Nat}(x1:1<=x)(xm:x < m):nt v m ds x=r x:=by
 have:=h.row o x1 (by unfold wd;omega);rw[Cu ds m xm] at this;grind
theorem Sv.hold (o:Nof m ds)(h:Sv m ds r v){x:Nat}(xm:m<=x)(xw:x<=wd m ds):hw v m ds x=r x:=by
 have:=h.row o (by have:=o.m1;omega) xw;rw[uQ ds m o.pt xm] at this;grind
theorem Va (o:Nof m ds):Mq.rs m (fun p=>nt v m ds p)=0:=by
 have:=Gx (u:=v) (m:=m) (fun _=>1) ds m o.pt (fun _ _ _=>rfl);rw[<- this];exact Mq.aK fun p _=>by grind
theorem pI {n k:Nat}(hk:k < n)(F:Nat->Rat):Mq.rs n (fun p=>F p*un k p)=F k:=by
 have:∀p,p < n->F p*un k p=if k=p then F p else 0:=fun p _=>by
  unfold un
  by_cases c:p=k
  ·rw[if_pos c,if_pos c.symm];grind
  ·rw[if_neg c,if_neg (fun z=>c z.symm)];grind
 rw[Mq.aK this,Mq.zG,if_pos hk]
theorem La {n k:Nat}(hk:k < n):Mq.rs n (fun p=>un k p)=1:=by
 have:=pI hk (fun _=>1);rw[<- this];exact Mq.aK fun p _=>by grind
theorem dD.all {a b:Nat}(o:Nof m ds)(h:dD m ds a b v)(ha:a < m)(hb:b < m):∀p,p < m->nt v m ds p=un a p - un b p:=fun p hp=>by
 by_cases c:p=0
 ·have s:=Va (v:=v) o;have t:Mq.rs m (fun p=>un a p - un b p)=0:=by
   have e:∀p,p < m->un a p - un b p=un a p + - un b p:=fun p _=>by grind
   rw[Mq.aK e,Mq.cV,Mq.gX,La ha,La hb];grind
  obtain⟨k,rfl⟩:∃k,m=k+1:=⟨m - 1,by omega⟩
  rw[Mq.oR] at s t;have e:Mq.rs k (fun i=>nt v (k+1) ds (i+1))=Mq.rs k (fun i=>un a (i+1) - un b (i+1)):=Mq.aK fun i hi=>h.pt o (by omega) (by omega);rw[e] at s;rw[c];grind
 ·exact h.pt o (by omega) hp
theorem dD.holds {a b:Nat}(o:Nof m ds)(h:dD m ds a b v)(ha:a < m)(hb:b < m):∀d∈ds,d.1=.ho->v d.2.1.toNat=v d.2.2.1.toNat:=
 zW (u:=v) ds m fun y hy hl=>by
  rw[h.hold o hy (by have:=o.m1;unfold wd;omega)];unfold un;rw[if_neg (by omega),if_neg (by omega)];grind
theorem dD.eg {a b:Nat}(o:Nof m ds)(h:dD m ds a b v)(ha:a < m)(hb:b < m):L2.eg v m ds=v a - v b:=by
 rw[<- Pd (u:=v) (m:=m) ds m o.pt];have e:∀p,p < m->v p*nt v m ds p=v p*un a p + - (v p*un b p):=fun p hp=>by rw[h.all o ha hb p hp];grind
 rw[Mq.aK e,Mq.cV,Mq.gX,pI ha,pI hb];grind
theorem dD.nn {a b:Nat}(o:Nof m ds)(h:dD m ds a b v)(ha:a < m)(hb:b < m):0<=v a - v b:=by
 rw[<- h.eg o ha hb];exact(Au (u:=v) ds m o.pos (h.holds o ha hb)).1
end
theorem Lf (u:Nat->Rat):∀(A B:List RD) (h:Nat),eg u h (A++B)=eg u h A+eg u (h+bQ A) B
 | [],B,h=>by show eg u h B=0+eg u (h+0) B;rw[Nat.add_zero];grind
 |d :: A,B,h=>by
  show fw u d h*_+eg u (h+bN d.1) (A++B)=fw u d h*_+eg u (h+bN d.1) A+_;rw[Lf u A B,fQ,Nat.add_assoc];grind
theorem Mc (u:Nat->Rat)(p:Nat):∀(A B:List RD) (h:Nat),nt u h (A++B) p=nt u h A p+nt u (h+bQ A) B p
 | [],B,h=>by show nt u h B p=0+nt u (h+0) B p;rw[Nat.add_zero];grind
 |d :: A,B,h=>by
  show fw u d h*_+nt u (h+bN d.1) (A++B) p=fw u d h*_+nt u (h+bN d.1) A p+_;rw[Mc u p A B,fQ,Nat.add_assoc];grind
section
variable {m:Nat} {A B:List RD} {d:RD} {v:Nat->Rat}
theorem Pf (o:Nof m (A++d :: B))(hk:d.1=.pc)(h:dD m (A++d :: B) d.2.1.toNat d.2.2.1.toNat v) :
  0<=v d.2.1.toNat - v d.2.2.1.toNat/\(v d.2.1.toNat - v d.2.2.1.toNat)*(1 / Mq.val d.2.2.2)<=1/\((v d.2.1.toNat - v d.2.2.1.toNat)*(1 / Mq.val d.2.2.2)=1↔¬Cn (A++B) d.2.1.toNat d.2.2.1.toNat):=by
 obtain⟨i0,i1,j0,j1⟩:=o.pt d (by simp);have ha:d.2.1.toNat < m:=by omega
 have hb:d.2.2.1.toNat < m:=by omega
 have nn:=h.nn o ha hb;have en:=h.eg o ha hb;have hol:=h.holds o ha hb;have zp:=o.pos d (by simp) hk;have qp:=jQ zp;rw[Lf] at en;have e1:eg v (m+bQ A) (d :: B)=(v d.2.1.toNat - v d.2.2.1.toNat)*(1 / Mq.val d.2.2.2)*(v d.2.1.toNat - v d.2.2.1.toNat)+eg v (m+bQ A+bN d.1) B:=by
  show fw v d _*_+_=_;unfold fw;rw[hk]
 rw[e1] at en;have nA:=Au (u:=v) A m (fun x hx=>o.pos x (List.mem_append_left _ hx)) (fun x hx=>hol x (List.mem_append_left _ hx));have nB:=Au (u:=v) B (m+bQ A+bN d.1) (fun x hx=>o.pos x (List.mem_append_right _ (List.mem_cons_of_mem _ hx))) (fun x hx=>hol x (List.mem_append_right _ (List.mem_cons_of_mem _ hx)));refine⟨nn,?_,?_,?_⟩
 ·have nA:=nA.1;have nB:=nB.1;generalize eg v m A=x at *
  generalize eg v (m+bQ A+bN d.1) B=y at *
  generalize v d.2.1.toNat - v d.2.2.1.toNat=R at *
  generalize 1 / Mq.val d.2.2.2=q at *
  rcases Rat.le_total (a:=R*q) (b:=1) with c | c
  ·exact c
  ·have h1:0<=(R*q - 1)*R:=Rat.mul_nonneg (by grind) nn;have h2:(R*q - 1)*R=-(x+y):=by grind
   have h3:(R*q - 1)*R=0:=by grind
   rcases Rat.mul_eq_zero.mp h3 with z | z
   ·grind
   ·rw[z];grind
 ·intro s1 cn;have x0:eg v m A=0/\eg v (m+bQ A+bN d.1) B=0:=by
   have nA:=nA.1;have nB:=nB.1;rw[s1] at en;constructor<;>grind
  have pA:=nA.2 x0.1;have pB:=nB.2 x0.2;have:=Cn.ind (R:=fun a b=>v a=v b) (fun _=>rfl) (fun _ _ e=>e.symm) (fun _ _ _ a b=>a.trans b) (fun x hx hxk=>by
   rcases List.mem_append.mp hx with z | z
   ·cases c:x.1 with
    |pc=>exact pA x z c
    |pu=>exact absurd c hxk
    |ho=>exact hol x (List.mem_append_left _ z) c
   ·cases c:x.1 with
    |pc=>exact pB x z c
    |pu=>exact absurd c hxk
    |ho=>exact hol x (List.mem_append_right _ (List.mem_cons_of_mem _ z)) c) cn
  rw[this] at s1;grind
 ·intro nc
  open Classical in
  let F:Nat->Rat:=fun p=>if Cn (A++B) d.2.1.toNat p then 1 else 0
  have Fr:∀x∈A++B,x.1≠.pu->F x.2.1.toNat=F x.2.2.1.toNat:=fun x hx hxk=>by
   show (if Cn (A++B) d.2.1.toNat x.2.1.toNat then (1:Rat) else 0)=if Cn (A++B) d.2.1.toNat x.2.2.1.toNat then 1 else 0
   have r:Cn (A++B) x.2.1.toNat x.2.2.1.toNat:=.row hx hxk
   by_cases c:Cn (A++B) d.2.1.toNat x.2.1.toNat
   ·rw[if_pos c,if_pos (c.trans r)]
   ·rw[if_neg c,if_neg (fun z=>c (z.trans r.symm))]
  have Fs:F d.2.1.toNat=1:=if_pos (.refl _);have Fg:F d.2.2.1.toNat=0:=if_neg nc;have s1:Mq.rs m (fun p=>F p*nt v m (A++d :: B) p)=F d.2.1.toNat - F d.2.2.1.toNat:=by
   have e:∀p,p < m->F p*nt v m (A++d :: B) p=F p*un d.2.1.toNat p + - (F p*un d.2.2.1.toNat p):=fun p hp=>by rw[h.all o ha hb p hp];grind
   rw[Mq.aK e,Mq.cV,Mq.gX,pI ha,pI hb];grind
  have s2:Mq.rs m (fun p=>F p*nt v m (A++d :: B) p)=fw v d (m+bQ A)*(F d.2.1.toNat - F d.2.2.1.toNat):=by
   have e:∀p,p < m->F p*nt v m (A++d :: B) p=F p*nt v m A p+(fw v d (m+bQ A)*(F p*dl d.2.1.toNat d.2.2.1.toNat p)+F p*nt v (m+bQ A+bN d.1) B p):=fun p hp=>by
    rw[Mc];show F p*(_+(fw v d (m+bQ A)*dl d.2.1.toNat d.2.2.1.toNat p+nt v (m+bQ A+bN d.1) B p))=_;grind
   rw[Mq.aK e,Mq.cV,Mq.cV,Mq.eI,vP F ha hb,Gx F A m (fun x hx=>o.pt x (List.mem_append_left _ hx)) (fun x hx=>Fr x (List.mem_append_left _ hx)),Gx F B _ (fun x hx=>o.pt x (List.mem_append_right _ (List.mem_cons_of_mem _ hx))) (fun x hx=>Fr x (List.mem_append_right _ hx))];grind
  rw[s1,Fs,Fg] at s2;have f1:fw v d (m+bQ A)=(v d.2.1.toNat - v d.2.2.1.toNat)*(1 / Mq.val d.2.2.2):=by unfold fw;rw[hk]
  rw[f1] at s2;grind
end
def qOf (r:Rat):Mq.Q2:=(r.num,(r.den:Int))
theorem Hi (r:Rat):Mq.val (qOf r)=r:=by
 unfold Mq.val qOf;show ((r.num:Int):Rat) / (((r.den:Nat):Int):Rat)=r;rw[<- Rat.divInt_eq_div];exact Rat.num_divInt_den r
theorem Gr (r:Rat):1<=(qOf r).2:=by
 show (1:Int)<=(r.den:Int)
 have:=r.den_pos;omega
section
variable {m:Nat} {ds:List RD}
def eqX (m:Nat)(ds:List RD):List (List Mq.Q2):=(List.range (wd m ds)).map fun i=>(List.range (wd m ds)).map fun j=>qOf (eqM m ds (i+1) (j+1))
theorem tF:(eqX m ds).length=wd m ds:=by unfold eqX;rw[List.length_map,List.length_range]
theorem Ft:∀row∈eqX m ds,row.length=(eqX m ds).length:=fun row hr=>by
 rw[tF];unfold eqX at hr;obtain⟨i,_,rfl⟩:=List.mem_map.mp hr;rw[List.length_map,List.length_range]
theorem Fj:Mq.eQ (eqX m ds):=fun row hr p hp=>by
 unfold eqX at hr;obtain⟨i,_,rfl⟩:=List.mem_map.mp hr;obtain⟨j,_,rfl⟩:=List.mem_map.mp hp;exact Gr _
theorem Fl {i j:Nat}(hi:i < wd m ds)(hj:j < wd m ds):oB (eqX m ds) i j=eqM m ds (i+1) (j+1):=by
 show Mq.val ((((eqX m ds).getD i []).getD j Mq.z0))=_;unfold eqX;rw[List.getD_eq_getElem?_getD (l:=List.map _ _),List.getElem?_map,List.getElem?_range hi];show Mq.val (List.getD (List.map (fun j=>qOf (eqM m ds (i+1) (j+1))) (List.range (wd m ds))) j Mq.z0)=_;rw[List.getD_eq_getElem?_getD,List.getElem?_map,List.getElem?_range hj];exact Hi _
theorem Nof.wgtX (o:Nof m ds):wgt (eqX m ds)≠0:=by
 by_cases m1:1<=(eqX m ds).length
 ·intro hz;obtain⟨v,⟨j,hj,vj⟩,hs⟩:=Gw Fj Ft m1 hz;rw[tF] at hj hs;have z:=Ah (u:=fun x=>if x=0 then 0 else v (x - 1)) o.m1 o.pt o.pos o.cn o.fr (if_pos rfl) (fun y y1 yn=>by
   have s:=hs (y - 1) (by unfold wd;omega);rw[<- s];refine Mq.aK fun i hi=>?_;rw[if_neg (by omega),Nat.add_sub_cancel,Fl hi (by unfold wd;omega),show y - 1+1=y by omega])
  have:=z (j+1) (by unfold wd at hj;omega);rw[if_neg (by omega),Nat.add_sub_cancel] at this;exact vj this
 ·have:eqX m ds=[]:=List.eq_nil_of_length_eq_zero (by omega);rw[this];show (1:Rat)≠0;decide
theorem Nof.ex (o:Nof m ds)(r:Nat->Rat):∃v,Sv m ds r v:=by
 have ql:((List.range (wd m ds)).map fun i=>qOf (r (i+1))).length=(eqX m ds).length:=by rw[List.length_map,List.length_range,tF]
 obtain⟨v,hv⟩:=Vo (qs:=(List.range (wd m ds)).map fun i=>qOf (r (i+1))) Fj (fun p hp=>by obtain⟨i,_,rfl⟩:=List.mem_map.mp hp;exact Gr _) ql Ft o.wgtX;rw[tF] at hv;refine⟨fun x=>if x=0 then 0 else v (x - 1),if_pos rfl,fun i hi=>?_⟩;have:=hv i hi;rw[List.getD_eq_getElem?_getD,List.getElem?_map,List.getElem?_range hi] at this;have q:Mq.val (qOf (r (i+1)))=r (i+1):=Hi _;rw[<- q];refine Eq.trans (Mq.aK fun j hj=>?_) this;rw[if_neg (by omega),Nat.add_sub_cancel,Fl hi hj]
end
def lvS (m:Nat)(sol:List Mq.Q2):List Mq.Q2:=(0,1) :: sol.take (m - 1)
theorem zM {p:Mq.Q2}(l:Mq.Low p){a L:Int}{b:Nat}(hL:1<=L)(LB:Mq.B b L)(ab:Mq.B b a)(h:Mq.val p=(a:Rat) / (L:Rat)):Mq.Bd b p/\p.2 ∣ L:=by
 obtain⟨d,t⟩:=Mq.Ce l hL h;refine⟨⟨ab.le t,LB.le ?_⟩,d⟩;have:=Int.le_of_dvd (by omega) d;have:=l.pos;omega
structure EqB (m b:Nat) (L:Int) (ds:List RD):Prop where
 o:Nof m ds
 w26:wd m ds<=26
 b1:1<=b
 hb:10+b+b*(wd m ds+1)<=8000
 hbw:bw b (wd m ds)<=4000
 L1:1<=L
 LB:Mq.B b L
 eM:∀i j,∃a:Int,Mq.B b a/\eqM m ds (i+1) (j+1)=(a:Rat) / (L:Rat)
def Q01 (p:Mq.Q2):Prop:=Mq.Low p/\p.2=1/\p.1.natAbs<=1
theorem Q01.bd {p:Mq.Q2}{b:Nat}(h:Q01 p)(b1:1<=b):Mq.Bd b p:=by
 obtain⟨_,e,l⟩:=h;have:(2:Nat) ^ 1<=2 ^ b:=Nat.pow_le_pow_right (by decide) b1;exact⟨by show p.1.natAbs < 2 ^ b;omega,by show p.2.natAbs < 2 ^ b;rw[e];show 1 < 2 ^ b;omega⟩
theorem Q01.ov {p:Mq.Q2}{b:Nat}{L:Int}(h:Q01 p)(L1:1<=L)(LB:Mq.B b L):p.2 ∣ L/\∃a:Int,Mq.B b a/\Mq.val p=(a:Rat) / (L:Rat):=by
 obtain⟨_,e,l⟩:=h;refine⟨by rw[e];exact Int.one_dvd _,p.1*L,LB.le ?_,?_⟩
 ·rw[Int.natAbs_mul]
  calc p.1.natAbs*L.natAbs<=1*L.natAbs:=Nat.mul_le_mul_right _ l
   _=L.natAbs:=Nat.one_mul _
 ·have:=Mq.oO L1;unfold Mq.val;rw[e,Rat.intCast_mul,show ((1:Int):Rat)=1 by rfl];grind
def uP (sol:List Mq.Q2)(x:Nat):Rat:=if x=0 then 0 else Mq.val (sol.getD (x - 1) Mq.z0)
section
variable {m b N:Nat} {L:Int} {ds:List RD} {X:List (List Mq.Q2)} {Y qs ps:List Mq.Q2}
theorem EqB.cell (h:EqB m b L ds)(e:Am m ds N X Y):∀row∈X,(∀p∈row,Mq.Bd b p/\p.2 ∣ L/\∃a:Int,Mq.B b a/\Mq.val p=(a:Rat) / (L:Rat))/\row.length=X.length:=fun row hr=>by
 refine⟨fun p hp=>?_,by rw[e.x.w row hr,e.x.h]⟩;obtain⟨i,hi⟩:=List.getElem?_of_mem hr;obtain⟨j,hj⟩:=List.getElem?_of_mem hp;have ep:p=jI X i j:=by
  unfold jI;rw[List.getD_eq_getElem?_getD (l:=X),hi];show p=row.getD j (0,1);rw[List.getD_eq_getElem?_getD,hj];rfl
 obtain⟨a,ab,ea⟩:=h.eM i j;have ev:Mq.val p=(a:Rat) / (L:Rat):=by rw[ep,e.vx,ea]
 obtain⟨x,y⟩:=zM (e.x.l row hr p hp).1 h.L1 h.LB ab ev;exact⟨x,y,a,ab,ev⟩
theorem EqB.pos (e:Am m ds N X Y):Mq.eQ X:=fun row hr p hp=>(e.x.l row hr p hp).1.pos
theorem EqB.wgt (h:EqB m b L ds)(e:Am m ds N X Y):wgt X≠0:=by
 by_cases c:1<=X.length
 ·exact h.o.wgt_ne e (EqB.pos e) (fun row hr=>(h.cell e row hr).2) c
 ·have:X=[]:=List.eq_nil_of_length_eq_zero (by omega);subst this;show (1:Rat)≠0;decide
theorem EqB.sol (e:Am m ds N X Y)(s:Vr X qs ps){r:Nat->Rat}(vq:∀i,i < wd m ds->Mq.val (qs.getD i Mq.z0)=r (i+1)):Sv m ds r (uP ps):=by
 have lX:X.length=wd m ds:=e.x.h;refine⟨if_pos rfl,fun i hi=>?_⟩;rw[<- vq i hi,<- s.sum i (by omega),lX];refine Mq.aK fun j _=>?_;unfold uP;rw[if_neg (by omega),Nat.add_sub_cancel,Ol e]
end
theorem Tq {m:Nat}{ps:List Mq.Q2}(hl:m - 1<=ps.length){p:Nat}(hp:p < m):Mq.val ((lvS m ps).getD p (0,1))=uP ps p:=by
 unfold lvS uP
 by_cases c:p=0
 ·subst c;rw[if_pos rfl];exact Mq.pF
 ·rw[if_neg c];obtain⟨q,rfl⟩:∃q,p=q+1:=⟨p - 1,by omega⟩
  rw[Nat.add_sub_cancel,List.getD_eq_getElem?_getD,List.getElem?_cons_succ,List.getElem?_take_of_lt (by omega),<- List.getD_eq_getElem?_getD]
theorem Rg {m:Nat}{ps:List Mq.Q2}(m1:1<=m)(hl:m - 1<=ps.length):(lvS m ps).length=m:=by
 unfold lvS;rw[List.length_cons,List.length_take];omega
theorem Qg {m:Nat}{ps:List Mq.Q2}(h:Mq.kG ps):Mq.kG (lvS m ps):=fun p hp=>by
 rcases List.mem_cons.mp hp with z | z
 ·rw[z];exact⟨by decide,by decide⟩
 ·exact h p (List.mem_of_mem_take z)
theorem Vk {m n:Nat}{ps:List Mq.Q2}(h:Ovr n ps):Ovr n (lvS m ps):=by
 obtain⟨D,D1,bD,al⟩:=h.e;refine⟨D,D1,bD,fun p hp=>?_⟩;rcases List.mem_cons.mp hp with z | z
 ·refine⟨0,Nat.two_pow_pos _,?_⟩;rw[z,Mq.pF,Rat.div_def];show (0:Rat)=((0:Int):Rat)*_;rw[show ((0:Int):Rat)=0 by rfl];grind
 ·exact al p (List.mem_of_mem_take z)
theorem Ovr.minus {n:Nat}{ps:List Mq.Q2}(h:Ovr n ps)(low:Mq.kG ps){p q:Mq.Q2}(hp:p∈ps)(hq:q∈ps):Mq.Bd (n+1) (Mq.minus p q)/\Mq.Bd n p/\Mq.Bd n q:=by
 obtain⟨D,D1,bD,al⟩:=h.e;obtain⟨t,bt,et⟩:=al p hp;obtain⟨s,bs,es⟩:=al q hq;have lp:=low p hp;have lq:=low q hq;refine⟨?_,(zM lp D1 bD bt et).1,(zM lq D1 bD bs es).1⟩;refine(zM (Mq.rJ lp.pos lq.pos) D1 (bD.mono (by omega)) (bt.sub bs) ?_).1;rw[Mq.rN lp.pos lq.pos,et,es,Rat.intCast_sub,Rat.div_def,Rat.div_def,Rat.div_def];grind
def Up (CN:Addr)(K:Frag):Sp:=fun vs H Q _=>∃(n l g r D:Addr) (H0:Hp) (m b N:Nat) (L:Int) (ds:List RD) (us ys:List V) (X:List (List Mq.Q2)) (Y qs:List Mq.Q2),vs=[.ref n,.ref g,.ref r]/\fY CN K H n l (m:Int) ds/\SqL K H g us/\Fmd K H0 D H us X/\Am m ds N X Y/\EqB m b L ds/\SqL K H r ys/\Fqs K H ys qs/\qs.length=X.length/\(∀p∈qs,Q01 p)/\
 ∀t zs ps H',bF H H'->H' t=some (.lst zs)->Fqs K H' zs (lvS m ps)->Vr X qs ps->Ovr (bw b (wd m ds)) ps->Q (.ref t) H'
structure Jv (CN:Addr) (K:Frag) (H:Hp) (n l:Addr) (m b:Nat) (kb:Nat->Nat) (L:Int) (ds:List RD):Prop where
 nt:fY CN K H n l (m:Int) ds
 ok:∀i d,ds[i]?=some d->Ht (m:Int) d/\Mq.Bd (kb i) d.2.2.2
 m20:m<=20
 h40:ds.length<=40
 cu:kD kb ds.length+30<=8900
 eb:EqB m b L ds
theorem Jv.same {CN:Addr}{K:Frag}{H H':Hp}{n l:Addr}{m b:Nat}{kb:Nat->Nat}{L:Int}{ds:List RD}(s:bF H H')(h:Jv CN K H n l m b kb L ds):Jv CN K H' n l m b kb L ds:=⟨h.nt.same s,h.ok,h.m20,h.h40,h.cu,h.eb⟩
def Tz (CN:Addr)(K:Frag):Sp:=fun vs H Q _=>∃(n l:Addr) (m b:Nat) (kb:Nat->Nat) (L:Int) (ds:List RD) (s g:Nat),vs=[.ref n,.int (s:Int),.int (g:Int)]/\Jv CN K H n l m b kb L ds/\s < m/\g < m/\
 ∀t zs hp v H',bF H H'->H' t=some (.lst zs)->Fqs K H' zs hp->hp.length=m->Mq.kG hp->Ovr (bw b (wd m ds)) hp->dD m ds g s v->(∀p,p < m->Mq.val (hp.getD p (0,1))=v p)->Q (.ref t) H'
def Fz (CN:Addr)(K:Frag):Sp:=fun vs H Q _=>∃(n l:Addr) (m b:Nat) (kb:Nat->Nat) (L:Int) (ds:List RD) (x y:Nat),vs=[.ref n,.int (x:Int),.int (y:Int)]/\Jv CN K H n l m b kb L ds/\x < m/\y < m/\
 ∀r p v H',bF H H'->Fq K H' r p->Mq.Low p->Mq.Bd (bw b (wd m ds)+1) p->dD m ds x y v->Mq.val p=v x - v y->Q (.ref r) H'
end L2
namespace K67
open PySem L2 Shp
section
variable {P:Program} {w:World} {K:Frag} {mg:Str->Option Value} {base:Heap} {f g1 g2 g3 g4 g5 g6 g7 g8:Addr} {fd gd1 gd2 gd3 gd4 gd5 gd6 gd7 gd8:FuncData} {CX:CXT}
variable {CR:Addr} {CK:Kd->Addr} {fW fJ fT fS:Kd->Addr} {fdW fdJ fdT fdS:Kd->FuncData}
theorem Ez {K:Frag}{H0 H:Hp}{D:Addr}:∀{us:List V} {X:List (List Mq.Q2)},Fms K H0 H us X->(∀x∈us,x≠.ref D)->Fmd K H0 D H us X
 | [],[],_,_=>.nil
 | [],_ :: _,h,_=>by have:=h.l;simp at this
 |_ :: _,[],h,_=>by have:=h.l;simp at this
 |x :: us,ps :: X,h,n=>by
  obtain⟨a,xs,rfl,n0,h1,h2⟩:=h.r 0 x ps rfl rfl;exact .cons n0 (fun z=>n _ (List.mem_cons_self ..) (by rw[z])) h1 h2 (Ez ⟨by have:=h.l;simpa using this,fun i y qs e1 e2=>h.r (i+1) y qs (by simpa using e1) (by simpa using e2)⟩ fun y hy=>n y (List.mem_cons_of_mem _ hy))
theorem Xn (xs:List V)(k:Nat):mV xs none (some (k:Int))=xs.take k:=by
 unfold mV;have h1:HT.sIx xs.length 0 none=0:=rfl;have h2:HT.sIx xs.length xs.length (some (k:Int))=min k xs.length:=by simp[HT.sIx];omega
 rw[h1,h2,List.drop_zero,Nat.sub_zero,List.take_eq_take_iff];omega
theorem Fqs.take {K:Frag}{H:Hp}:∀(k:Nat) {xs:List V} {ps:List Mq.Q2},Fqs K H xs ps->Fqs K H (xs.take k) (ps.take k)
 |0,_,_,h=>.nil
 |_+1,_,_,.nil=>.nil
 |k+1,_,_,.cons f q=>.cons f (Fqs.take k q)
theorem Ss (k:Kd):wHo k=true↔k=.ho:=by
 cases k
 ·exact⟨fun h=>absurd h (by decide +kernel),fun h=>by cases h⟩
 ·exact⟨fun h=>absurd h (by decide +kernel),fun h=>by cases h⟩
 ·exact⟨fun _=>rfl,fun _=>by decide +kernel⟩
theorem Pz {m:Nat}{ds:List RD}(o:Nof m ds):Mg m ds=[]:=by
 unfold Mg;rw[List.filter_eq_nil_iff.mpr fun p hp=>?_]
 ·rfl
 ·have pm:=List.mem_range.mp hp;rw[(Lj o.pt pm (by have:=o.m1;omega)).mpr (o.cn p pm).symm];simp
theorem Qk {H:Hp}{x dx C:Addr}(hx:H x=none)(hd:H dx=none):bF H (upd (upd H dx (.own x)) x (.ins C dx [])):=fun b o h=>by
 have n1:b≠x:=fun z=>by rw[z,hx] at h;cases h
 have n2:b≠dx:=fun z=>by rw[z,hd] at h;cases h
 rw[aV n1,aV n2];exact h
abbrev Ij:Stmt:=top 70
theorem Zc:aT ["net","matrix","right"] ["net","matrix","right"] (aE Ij):=sK9 rfl rfl rfl rfl (by decide +kernel)
theorem Xx {dV:Value}(F:bZ K "heights_by" "heights_by" Ij dV f fd){CN:Addr}(NTx:NT K mg CN){aN:Addr}(fN:∀H,Fq K H aN (0,1))(mNO:mI9 mg "NOUGHT" aN){gMa:Addr}{gdMa:FuncData}(GMa:aM P w K mg base CX0 1 gMa gdMa ["self"] (rC CN K))(bMa:aQ K gdMa ["self"] [])(mMa:iB K CN "many" gMa)(G1:aM P w K mg base CX0 5 g1 gd1 ["matrix","right"] (xC K))(b1:aQ K gd1 ["matrix","right"] [])(k1:kI9 K g1)(m1:mI9 mg "solved" g1) :
  aM P w K mg base CX 6 f fd ["net","matrix","right"] (Up CN K):=by
 refine F.ok Zc (fun vs H Q E h=>?_) fun cdv A outer s H vs Q E hr h=>?_
 ·obtain⟨_,_,_,_,_,_,_,_,_,_,_,_,_,_,_,_,rfl,_⟩:=h;rfl
 obtain⟨n,l,g,r,D,H0,m,b,N,L,ds,us,ys,X,Y,qs,rfl,nt,hg,FX,EO,EB,hr0,FQ,lq,h01,q⟩:=h;have r1:=hr.mono (show 1<=5 by omega);refine⟨_,(aH (aZ (aY nH (cX (aA (dG (v:=.ref aN) rfl mNO rfl) aB)) (iS jZ (aG G1 hr rfl m1 k1 b1 .nil aL (aA (pv 1) (aA (pv 2) aB))) oI (iE (aY kU (gB (pv 0) NTx.cl mMa GMa r1 bMa .nil aL) aF)))))),?_⟩;have lX:X.length=wd m ds:=EO.x.h;have lw:wd m ds=m - 1+bQ ds:=rfl;have mo:=EB.o.m1;have w26:=EB.w26;refine⟨zl9 1,fun L1 hL1=>?_⟩;have s1:=aI hL1 (.lst [.ref aN]);have e1:upd H L1 (.lst [.ref aN]) L1=some (.lst [.ref aN]):=aD;generalize upd H L1 (.lst [.ref aN])=H1 at s1 e1 ⊢;refine⟨_,rfl,_,rfl,g,r,D,H0,us,ys,X,qs,b,b,rfl,s1.seq hg,FX.same s1,s1.seq hr0,FQ.same s1,lq,fun p hp=>(h01 p hp).1,fun p hp=>(h01 p hp).bd EB.b1,EqB.pos EO,fun row hr=>⟨fun p hp=>((EB.cell EO row hr).1 p hp).1,(EB.cell EO row hr).2⟩,by omega,by rw[lX];exact EB.hb,Qh (EqB.pos EO) (fun p hp=>(h01 p hp).1.pos) lq (fun row hr p hp=>((EB.cell EO row hr).1 p hp).2) (fun p hp=>(h01 p hp).ov EB.L1 EB.LB) EB.L1,EB.b1,by rw[lX];exact Nat.le_trans EB.hbw (by decide),EB.wgt EO,fun kn zk ps H2 s2 nkn ekn Fk SU OV=>?_⟩;rw[lX] at OV;have s02:=s1.trans s2;obtain⟨dn,hn⟩:=(nt.same s02).ob;have lps:ps.length=X.length:=SU.len;have lzk:=Fk.length;refine⟨_,rfl,n,dn,_,rfl,hn,eT _ _ (by decide +kernel) (by decide +kernel),n,l,_,ds,rfl,nt.same s02,_,_,rfl,rfl,?_⟩;have em:(m:Int) - 1=((m - 1:Nat):Int):=by omega
 refine⟨_,rfl,kn,zk,rfl,SqL.of ekn,fun S hS=>?_⟩;rw[em,Xn];have s3:=aI hS (.lst (zk.take (m - 1)));have e3:upd H2 S (.lst (zk.take (m - 1))) S=some (.lst (zk.take (m - 1))):=aD;generalize upd H2 S (.lst (zk.take (m - 1)))=H3 at s3 e3 ⊢;refine⟨L1,S,_,_,rfl,rfl,(s2.trans s3) _ _ e1,e3,Nat.le_of_lt (bH (by rw[List.length_take];simp only[List.length_cons,List.length_nil];omega)),fun V1 hV1=>?_⟩;have s4:=aI hV1 (.lst ([.ref aN]++zk.take (m - 1)));have e4:upd H3 V1 (.lst ([.ref aN]++zk.take (m - 1))) V1=some (.lst ([.ref aN]++zk.take (m - 1))):=aD;generalize upd H3 V1 (.lst ([.ref aN]++zk.take (m - 1)))=H4 at s4 e4 ⊢;exact q V1 _ ps H4 (s02.trans (s3.trans s4)) e4 (.cons (fN _) (Fqs.take _ (Fk.same (s3.trans s4)))) SU OV
theorem qa5 (s g x:Nat):- dl s g x*Mq.val (1,1)=un g x - un s x:=by
 rw[Mq.Ow];unfold dl un
 by_cases a:s=x<;>by_cases b:g=x
 ·rw[if_pos a,if_pos b,if_pos b.symm,if_pos a.symm];grind
 ·rw[if_pos a,if_neg b,if_neg (fun z=>b z.symm),if_pos a.symm];grind
 ·rw[if_neg a,if_pos b,if_pos b.symm,if_neg (fun z=>a z.symm)];grind
 ·rw[if_neg a,if_neg b,if_neg (fun z=>b z.symm),if_neg (fun z=>a z.symm)];grind
theorem Vj (g s x:Nat):∃a:Int,a.natAbs<=1/\un g x - un s x=(a:Rat) / ((1:Int):Rat):=by
 have one:((1:Int):Rat)=1:=rfl;unfold un
 by_cases a:x=g<;>by_cases b:x=s
 ·exact⟨0,by decide,by rw[if_pos a,if_pos b,one,show ((0:Int):Rat)=0 by rfl];grind⟩
 ·exact⟨1,by decide,by rw[if_pos a,if_neg b,one];grind⟩
 ·exact⟨-1,by decide,by rw[if_neg a,if_pos b,one,show ((-1:Int):Rat)=-1 by rfl];grind⟩
 ·exact⟨0,by decide,by rw[if_neg a,if_neg b,one,show ((0:Int):Rat)=0 by rfl];grind⟩
abbrev Ii:Stmt:=top 69
theorem Oq:aT ["net","start","goal","matrix","right"] ["net","start","goal"] (aE Ii):=sK9 rfl rfl rfl rfl (by decide +kernel)
theorem Vz {dV:Value}(F:bZ K "pushed_heights" "pushed_heights" Ii dV f fd){CN:Addr}(T:RT K mg CR CK)(ml:mg "len"=none){aN aO:Addr}(fN:∀H,Fq K H aN (0,1))(mNO:mI9 mg "NOUGHT" aN)(fO:∀H,Fq K H aO (1,1))(mON:mI9 mg "ONE" aO){gI:Addr}{gdI:FuncData}(GI:aM P w K mg base CX0 1 gI gdI ["self","start","goal","size"] (yR CK))(bI:aQ K gdI ["self","start","goal","size"] [])(MK:∀k,Mk K (CK k) gI)(G1:aM P w K mg base CX0 7 g1 gd1 ["net"] (Od CN K))(b1:aQ K gd1 ["net"] [])(k1:kI9 K g1)(m1:mI9 mg "equations" g1)(G2:aM P w K mg base CX0 5 g2 gd2 ["right","row"] (tZ K CK))(b2:aQ K gd2 ["right","row"] [])(k2:kI9 K g2)(m2:mI9 mg "enter_push" g2)(G3:aM P w K mg base CX0 6 g3 gd3 ["net","matrix","right"] (Up CN K))(b3:aQ K gd3 ["net","matrix","right"] [])(k3:kI9 K g3)(m3:mI9 mg "heights_by" g3) :
  aM P w K mg base CX 8 f fd ["net","start","goal"] (Tz CN K):=by
 refine F.ok Oq (fun vs H Q E h=>?_) fun cdv A outer s H vs Q E hr h=>?_
 ·obtain⟨_,_,_,_,_,_,_,_,_,rfl,_⟩:=h;rfl
 obtain⟨n,l,m,b,kb,L,ds,s,g,rfl,NB,hs,hg,q⟩:=h;have r2:=hr.mono (show 2<=7 by omega);have r5:=hr.mono (show 5<=7 by omega);have r6:=hr.mono (show 6<=7 by omega);have r7:=hr;refine⟨_,(aC (aS (i:=3) Oq.nd rfl (Or.inl rfl) (aU aX (aG G1 r7 rfl m1 k1 b1 .nil aL (aA (pv 0) aB)) aF (fun _ _=>rfl)))
  (aC (aS (i:=4) Oq.nd rfl (Or.inl rfl) (aY Dx (cX (aA (dG (v:=.ref aN) rfl mNO rfl) aB)) (aY dP (cL bS rfl ml PySem.boot_len (aA (pv 3) aB)) aF)))
  (aC (bU (aG G2 r5 rfl m2 k2 b2 .nil aL (aA (pv 4) (aA (oH (MK .pu) GI r2 rfl (T.mK .pu) bI .nil aL (aA (pv 1) (aA (pv 2) (aA (dG (v:=.ref aO) rfl mON rfl) aB)))) aB))))
  (aH (aZ (aG G3 r6 rfl m3 k3 b3 .nil aL (aA (pv 0) (aA (pv 3) (aA (iS jZ (pv 4) (iE aF) oI) aB))))))))),?_⟩
 have EB:=NB.eb;have mo:=EB.o.m1;have w26:=EB.w26;refine⟨_,rfl,n,l,m,kb,ds,rfl,NB.nt,NB.ok,mo,NB.m20,NB.h40,NB.cu,fun tt p r us ys X Y H1 s1 et np nr ep er FM FY nx EO=>?_⟩;have lX:X.length=wd m ds:=EO.x.h;have lus:=FM.l;refine⟨tt,_,0,_,rfl,rfl,SqT.of et,rfl,?_⟩;obtain⟨W,hW⟩:∃W,W=wd m ds:=⟨_,rfl⟩
 rw[<- hW] at w26;have lusW:us.length=W:=by rw[lus,lX,hW]
 refine⟨zl9 1,fun l1 hl1=>?_⟩;have s2:=aI hl1 (.lst [.ref aN]);have e2:upd H1 l1 (.lst [.ref aN]) l1=some (.lst [.ref aN]):=aD;generalize upd H1 l1 (.lst [.ref aN])=H2 at s2 e2 ⊢;have eW:(us.length:Int)+1=((W+1:Nat):Int):=by omega
 refine⟨_,rfl,p,us,rfl,.inl (SqL.of (s2 _ _ ep)),_,_,rfl,rfl,l1,_,[.ref aN],rfl,rfl,e2,by omega,by omega,?_,fun Rr hR=>?_⟩
 ·rw[eW,Int.toNat_natCast,sizeLine_eq];simp only[List.length_cons,List.length_nil];omega
 rw[eW,Int.toNat_natCast,oC];have nR1:H1 Rr=none:=s2.free hR;have s3:=aI hR (.lst (List.replicate (W+1) (.ref aN)));have e3:upd H2 Rr (.lst (List.replicate (W+1) (.ref aN))) Rr=some (.lst (List.replicate (W+1) (.ref aN))):=aD;generalize upd H2 Rr (.lst (List.replicate (W+1) (.ref aN)))=H3 at s3 e3 ⊢;refine⟨_,rfl,_,rfl,_,rfl,fun x dx hx hdx nxd=>?_⟩;refine⟨x,dx,.pu,_,_,_,rfl,aD,rfl,?_⟩;have s4:bF H3 (upd (upd (upd H3 dx (.own x)) x (.ins (CK .pu) dx [])) x (.ins (CK .pu) dx (jP (.int (s:Int)) (.int (g:Int)) (.ref aO)))):=(Qk (C:=CK .pu) hx hdx).change hx;have rw4:Rw CK (upd (upd (upd H3 dx (.own x)) x (.ins (CK .pu) dx [])) x (.ins (CK .pu) dx (jP (.int (s:Int)) (.int (g:Int)) (.ref aO)))) x .pu (.int (s:Int)) (.int (g:Int)) (.ref aO):=⟨dx,aD⟩
 generalize upd (upd (upd H3 dx (.own x)) x (.ins (CK .pu) dx [])) x (.ins (CK .pu) dx (jP (.int (s:Int)) (.int (g:Int)) (.ref aO)))=H4 at s4 rw4 ⊢;have ptW:dA ((W+1:Nat):Int) (s:Int) (g:Int):=by
  unfold wd at hW;exact⟨by omega,by omega,by omega,by omega⟩
 have ptm:dA (m:Int) (s:Int) (g:Int):=⟨by omega,by omega,by omega,by omega⟩
 refine⟨Rr,x,aO,_,List.replicate (W+1) (0,1),(.pu,(s:Int),(g:Int),(1,1)),W+1,1,1,rfl,s4 _ _ e3,oY (fN _) (W+1),yO (W+1),rw4,fO _,ptW,gZ,gP,by omega,fun ys' H5 sx5 eR5 F5=>?_⟩;obtain⟨lb5,v5⟩:=Us (d:=(.pu,(s:Int),(g:Int),(1,1))) (h:=0) (m:=m) (yO (W+1)) ptm (by unfold wd at hW;omega) rfl gZ gP;have s15:bF H1 H5:=SX.same (s2.trans (s3.trans s4)) sx5 (fun c hc=>by rw[List.mem_singleton.mp hc];exact nR1);generalize pR (List.replicate (W+1) (0,1)) (.pu,(s:Int),(g:Int),(1,1))=rs at F5 lb5 v5;have v6:∀k,Mq.val (rs.getD k (0,1))=un g k - un s k:=fun k=>by
  rw[v5,rL,Mq.pF,<- qa5 s g k];show 0 + - dl ((s:Int)).toNat ((g:Int)).toNat k*Mq.val (1,1)=_;rw[Int.toNat_natCast,Int.toNat_natCast];grind
 have lrs:=lb5.w;refine⟨_,rfl,_,rfl,_,rfl,1,rfl,Rr,_,rfl,SqL.of eR5,fun S hS=>?_⟩;rw[Ev];have s6:=aI hS (.lst (ys'.drop 1));have e6:upd H5 S (.lst (ys'.drop 1)) S=some (.lst (ys'.drop 1)):=aD;generalize upd H5 S (.lst (ys'.drop 1))=H6 at s6 e6 ⊢;have s16:=s15.trans s6;have s06:=s1.trans s16;have gd:∀k,(rs.drop 1).getD k (0,1)=rs.getD (k+1) (0,1):=fun k=>by rw[List.getD_eq_getElem?_getD,List.getElem?_drop,Nat.add_comm,<- List.getD_eq_getElem?_getD]
 refine⟨n,l,p,S,p,H,m,b,_,L,ds,us,_,X,Y,rs.drop 1,rfl,NB.nt.same s06,SqL.of (s16 _ _ ep),(Ez FM (fun x hx=>(nx x hx).1)).same s16,EO,EB,SqL.of e6,Fqs.drop1 (F5.same s6),by rw[List.length_drop,lrs,lX,<- hW];omega,fun pq hpq=>?_,fun t zs ps H7 s7 e7 F7 SU OV=>?_⟩
 ·obtain⟨k,hk⟩:=List.getElem?_of_mem hpq;rw[List.getElem?_drop] at hk;have lo:=(lb5.l pq (List.mem_of_getElem? hk)).1;have ev:=v6 (1+k);rw[List.getD_eq_getElem?_getD,hk] at ev;obtain⟨a0,ha0,ea⟩:=Vj g s (1+k);obtain⟨d1,t1⟩:=Mq.Ce lo (show (1:Int)<=1 by decide) (ev.trans ea);have:=Int.le_of_dvd (by decide) d1;have:=lo.pos;exact⟨lo,by omega,by omega⟩
 ·have lps:ps.length=X.length:=SU.len;have lm:m - 1<=ps.length:=by rw[lps,lX];unfold wd;omega
  refine q t zs (lvS m ps) (uP ps) H7 (s06.trans s7) e7 F7 (Rg mo lm) (Qg SU.low) (Vk OV) (EqB.sol EO SU fun i hi=>?_) (fun k hk=>Tq lm hk);show Mq.val ((rs.drop 1).getD i (0,1))=_;rw[gd,v6]
abbrev Kh:Stmt:=top 68
theorem Ut:aT ["net","a","b","heights"] ["net","a","b"] (aE Kh):=sK9 rfl rfl rfl rfl (by decide +kernel)
theorem Xp {dV:Value}(F:bZ K "between" "between" Kh dV f fd){CN:Addr}(NTx:NT K mg CN){gMa:Addr}{gdMa:FuncData}(GMa:aM P w K mg base CX0 1 gMa gdMa ["self"] (rC CN K))(bMa:aQ K gdMa ["self"] [])(mMa:iB K CN "many" gMa)(G1:aM P w K mg base CX0 3 g1 gd1 ["some","many"] (Wi K))(b1:aQ K gd1 ["some","many"] [])(k1:kI9 K g1)(m1:mI9 mg "refuse_points" g1)(G2:aM P w K mg base CX0 7 g2 gd2 ["net"] (Ug CN K))(b2:aQ K gd2 ["net"] [])(k2:kI9 K g2)(m2:mI9 mg "refuse_unanswered" g2)(G3:aM P w K mg base CX0 8 g3 gd3 ["net","start","goal"] (Tz CN K))(b3:aQ K gd3 ["net","start","goal"] [])(k3:kI9 K g3)(m3:mI9 mg "pushed_heights" g3)(G4:aM P w K mg base CX0 3 g4 gd4 ["one","other"] (iV K Mq.minus))(b4:aQ K gd4 ["one","other"] [])(k4:kI9 K g4)(m4:mI9 mg "minus" g4) :
  aM P w K mg base CX 9 f fd ["net","a","b"] (Fz CN K):=by
 refine F.ok Ut (fun vs H Q E h=>?_) fun cdv A outer s H vs Q E hr h=>?_
 ·obtain⟨_,_,_,_,_,_,_,_,_,rfl,_⟩:=h;rfl
 obtain⟨n,l,m,b,kb,L,ds,x,y,rfl,NB,hx,hy,q⟩:=h;have r1:=hr.mono (show 1<=8 by omega);have r3:=hr.mono (show 3<=8 by omega);have r7:=hr.mono (show 7<=8 by omega);refine⟨_,(aC (bU (aG G1 r3 rfl m1 k1 b1 .nil aL (aA (cX (aA (pv 1) (aA (pv 2) aB))) (aA (gB (pv 0) NTx.cl mMa GMa r1 bMa .nil aL) aB))))
  (aC (bU (aG G2 r7 rfl m2 k2 b2 .nil aL (aA (pv 0) aB)))
  (aC (aS (i:=3) Ut.nd rfl (Or.inl rfl) (aG G3 hr rfl m3 k3 b3 .nil aL (aA (pv 0) (aA (pv 2) (aA (pv 1) aB)))))
  (aH (aZ (aG G4 r3 rfl m4 k4 b4 .nil aL (aA (aU bY (pv 3) (pv 1) (fun _ _=>rfl)) (aA (aU bY (pv 3) (pv 2) (fun _ _=>rfl)) aB)))))))),?_⟩
 have EB:=NB.eb;have mo:=EB.o.m1;have m20:=NB.m20;have hbw:=EB.hbw;refine⟨_,rfl,_,rfl,zl9 2,fun L1 hL1=>?_⟩;have s1:=aI hL1 (.lst [.int (x:Int),.int (y:Int)]);have e1:upd H L1 (.lst [.int (x:Int),.int (y:Int)]) L1=some (.lst [.int (x:Int),.int (y:Int)]):=aD;generalize upd H L1 (.lst [.int (x:Int),.int (y:Int)])=H1 at s1 e1 ⊢;obtain⟨dn,hn⟩:=(NB.nt.same s1).ob;refine⟨_,rfl,n,dn,_,rfl,hn,eT _ _ (by decide +kernel) (by decide +kernel),n,l,_,ds,rfl,NB.nt.same s1,?_⟩;refine⟨L1,(x:Int),(y:Int),_,rfl,SqL.of e1,by omega,by omega,by omega,by omega,fun H2 s2=>?_⟩;have s02:=s1.trans s2;refine⟨_,rfl,n,l,m,ds,rfl,NB.nt.same s02,EB.o.pt,mo,m20,NB.h40,xI Ss EB.o.pt m20 EB.o.fr _ (Nat.le_refl _),Pz EB.o,fun H3 s3=>?_⟩;have s03:=s02.trans s3;refine⟨_,rfl,_,rfl,_,rfl,n,l,m,b,kb,L,ds,y,x,rfl,NB.same s03,hy,hx,fun t zs hp v H4 s4 e4 F4 lh low OV SB hv=>?_⟩;have ax:=xO (ps:=hp) (j:=x) (by omega);have ay:=xO (ps:=hp) (j:=y) (by omega);obtain⟨w1,ew1,fw1⟩:=F4.at ax;obtain⟨w2,ew2,fw2⟩:=F4.at ay;have mx:=List.mem_of_getElem? ax;have my:=List.mem_of_getElem? ay;obtain⟨bm,b1,b2⟩:=L2.Ovr.minus OV low mx my;have l1:=low _ mx;have l2:=low _ my;refine⟨_,rfl,_,rfl,t,zs,_,_,rfl,rfl,SqL.of e4,cI ew1,_,rfl,_,rfl,t,zs,_,_,rfl,rfl,SqL.of e4,cI ew2,?_⟩;exact⟨w1,w2,_,_,_,_,rfl,fw1,fw2,l1.pos,l2.pos,b1,b2,by omega,fun r H5 s5 e5=>q r _ v H5 (s03.trans (s4.trans s5)) (Fq.of e5) (Mq.rJ l1.pos l2.pos) bm SB (by rw[Mq.rN l1.pos l2.pos,hv x hx,hv y hy])⟩
end
end K67
namespace L2
open PySem PySem.Spec PyProof.Rows
theorem Ri {k:Key}{v:Value}(h:vB k v=true):bV (kV k) v:=by
 rcases dL h with ⟨i,t,rfl,rfl⟩ | ⟨x,t,rfl,rfl⟩
 ·exact⟨t,rfl⟩
 ·exact⟨t,rfl⟩
def Itk (a:Addr)(o:Obj)(kvs:List (Key × V)):It:=
 ⟨fun i H=>H a=some (.frz o (.dK kvs))/\i < kvs.length,fun i H x H'=>H'=H/\∃kv,kvs[i]?=some kv/\x=kV kv.1,fun i H=>H a=some (.frz o (.dK kvs))/\kvs.length<=i⟩
theorem Ph {P:Program}{w:World}{H:Hp}{h:Heap}{a:Addr}{o:Obj}{kvs:List (Key × V)}{es:Array DictEntry}{ep:Nat}(ok:HOk P w H h)(e:H a=some (.frz o (.dK kvs)))(he:o.data=.dict es ep):∃vs,KV kvs vs/\h.DictAt (dH P w) a vs ep:=by
 obtain⟨eo,z,nd,vs,rel,dof⟩:=ok a _ e;obtain⟨ep',o',es',e',x,d,r⟩:=dof.dictAt;have:o'=o:=by rw[eo] at e';exact(Option.some.inj e').symm
 subst this;have:ep'=ep:=by rw[he] at d;injection d with _ d;exact d.symm
 subst this;exact⟨vs,rel,o',es',e',x,d,r⟩
theorem Jw {P:Program}{w:World}{K:Frag}{tg:Expr}(a it:Addr)(o:Obj)(kvs:List (Key × V)){es:Array DictEntry}{ep:Nat}(he:o.data=.dict es ep):De P w K tg (Itk a o kvs) [it] it (fun i h=>h.IsKeyIter it a i kvs.length ep) where
 mem:=by simp
 obj:=fun i h st b hb=>by
  have e:b=it:=by simpa using hb
  subst e;obtain⟨o,e,c,d⟩:=st;exact⟨o,e,fun v z=>by rw[d] at z;cases z⟩
 keep:=fun i h h' st k=>by
  obtain⟨o,e,c,d⟩:=st;exact⟨o,k it (by simp) o e,c,d⟩
 item:=by
  intro X hP hw hK hc i pins s σ H E I hf st hg;subst hP hw hK;obtain⟨hq,hi⟩:=hg;obtain⟨vs,rel,da⟩:=Ph I.hok hq he;have hl:=rel.length;have st:s.heap.IsKeyIter it a i vs.length ep:=by rw[<- hl];exact st
  have hk:kvs[i]?=some kvs[i]:=List.getElem?_eq_getElem hi;have hv:vs[i]?=some (vs[i]'(by omega)):=List.getElem?_eq_getElem (by omega);have ek:(kvs[i]).1=(vs[i]'(by omega)).1:=by
   have:=congrArg (·[i]?) rel.keys;rw[List.getElem?_map,List.getElem?_map,hk,hv] at this;exact Option.some.inj this
  obtain⟨f0,f1,f2,f3,f4,f5⟩:=hf it (by simp);refine wpAny_pyNext_dict_item st da (k:=(vs[i]'(by omega)).1) (v:=(vs[i]'(by omega)).2) hv fun key h' hk' st' sb=>?_;have I1:Inv X pins σ H { s with heap:=h' }:=I.turned (t':=s.toks) (fun b o hb e=>(sb.2 b hb).trans e) f0 f1 f3 f4 f5;obtain⟨o',e',c,d⟩:=id st';rw[<- ek] at hk';exact⟨key,rfl,Ha (s:={ s with heap:=h' }) e' c d (by decide) ⟨kV (kvs[i]).1,H,I1,Ri hk',⟨rfl,_,hk,rfl⟩,by rw[<- hl] at st';exact st',fun b hb=>(hf b hb).1⟩⟩
 done:=by
  intro X hP hw hK hc i pins s σ H E I hf st hg;subst hP hw hK;obtain⟨hq,hi⟩:=hg;obtain⟨vs,rel,da⟩:=Ph I.hok hq he;have hl:=rel.length;have st:s.heap.IsKeyIter it a i vs.length ep:=by rw[<- hl];exact st
  obtain⟨f0,f1,f2,f3,f4,f5⟩:=hf it (by simp);exact wpAny_pyNext_dict_end (I.ok.hd hc) st da (List.getElem?_eq_none (by omega)) fun h' eb=>⟨rfl,I.turned (t':=s.toks) (fun b o hb e=>eb b o hb e) f0 f1 f3 f4 f5⟩
 self:=fun _ _ _ _ _ st h=>wpAny_pyIter_keyiter st h
theorem HOk.redo {P:Program}{w:World}{H:Hp}{h:Heap}{a:Addr}{u v:HO}(ok:HOk P w H h)(e:H a=some u)(nt:∀xs,u≠.tup xs)(no:∀y,u≠.own y)(new:dR P w H h a v):HOk P w (upd H a v) h:=fun b x q=>by
 have ho:∀c y,H c=some (.own y)->upd H a v c=some (.own y):=fun c y r=>by
  rw[aV (fun z=>by rw[z,e] at r;exact no y (Option.some.inj r))];exact r
 have ht:∀c xs,H c=some (.tup xs)->upd H a v c=some (.tup xs):=fun c xs r=>by
  rw[aV (fun z=>by rw[z,e] at r;exact nt xs (Option.some.inj r))];exact r
 by_cases hb:b=a
 ·subst hb;rw[aD] at q
  cases q
  exact new.stay (fun _ _ _ r=>r) (fun c r=>ho c _ r) ht
 ·rw[aV hb] at q;exact(ok b x q).stay (fun _ _ _ r=>r) (fun c r=>ho c _ r) ht
theorem Inv.freeze {X:Cx}{pins:List (Addr × Obj)}{σ:St}{H:Hp}{s:Shared}{a:Addr}{o:Obj}{kvs:List (Key × V)}(I:Inv X pins σ H s)(e:H a=some (.dK kvs))(eo:s.heap.get? a=some o):Inv X pins σ (upd H a (.frz o (.dK kvs))) s:=by
 have nn:∀{b:Addr},H b=none->upd H a (.frz o (.dK kvs)) b=none:=fun {b} r=>by
  rw[aV (fun z=>by rw[z,e] at r;cases r)];exact r
 refine⟨I.ok,I.os,I.bare,⟨I.base.keep,I.base.slot,fun b ob q n hx=>nn (I.base.free b ob q n hx),I.base.there,fun b xs q=>?_,fun b ob u q=>?_,fun b ps q=>?_⟩,I.loc,I.cell,nn I.free,fun x c q=>nn (I.freeC x c q),fun p hp=>?_,HOk.redo I.hok e (fun _ z=>by cases z) (fun _ z=>by cases z) ⟨eo,I.hok a _ e⟩,I.len⟩
 ·have r:=I.base.tups b xs q;rw[aV (fun z=>by rw[z,e] at r;cases r)];exact r
 ·have r:=I.base.frzs b ob u q;rw[aV (fun z=>by rw[z,e] at r;cases r)];exact r
 ·obtain⟨m,r⟩:=I.base.tbls b ps q;exact⟨m,by rw[aV (fun z=>by rw[z,e] at r;cases r)];exact r⟩
 ·obtain⟨h1,h2,h3⟩:=I.pin p hp;exact⟨h1,nn h2,h3⟩
def Yy (tl:TE):TI:=fun σ H R=>tl σ H fun x H1=>∃a kvs,x=.ref a/\H1 a=some (.dK kvs)/\∀o,R (Itk a o kvs) (upd H1 a (.frz o (.dK kvs)))
theorem Qj {X:Cx}{tg l:Expr}{tl:TE}(hl:PE X l tl):PI X tg l (Yy tl):=by
 intro pins s σ H R I h;refine thn (hl pins s σ H _ I h) fun v s1 ⟨x,H1,I1,r1,q1⟩=>?_;obtain⟨a,kvs,e,hd,q⟩:=q1;subst e
 cases r1
 obtain⟨z,nd,vs,rel,dof⟩:=Ew I1.hok hd;obtain⟨ep,da⟩:=dof.dictAt;obtain⟨o,es,eo,x,ed,r⟩:=id da;refine wpAny_pyIter_dict nd da ?_;have I2:=I1.freeze hd eo;refine⟨s1.heap.objs.size,[s1.heap.objs.size],_,_,_,rfl,I2.kept (t':=s1.toks) fun b o e=>Heap.get?_push_of_some _ e,Jw a _ o kvs ed,⟨_,Heap.get?_push_size _ rfl,rfl,by rw[rel.length];rfl⟩,fun b hb=>?_,q o⟩;have e:b=s1.heap.objs.size:=by simpa using hb
 subst e;exact I2.fpOk (Nat.le_refl _) (I2.hok.fresh (Nat.le_refl _))
theorem Ku {a:Addr}{o:Obj}{kvs:List (Key × V)}{g:TG}{tb:TS}{D:kM}{σ:St}{H:Hp}(Pv:Nat->St->Hp->Prop)(h0:Pv 0 σ H)(hl:∀i σ H,Pv i σ H->H a=some (.frz o (.dK kvs)))(hs:∀i kv σ H,kvs[i]?=some kv->Pv i σ H->g (kV kv.1) σ H fun σ2 H2=>tb { D with nx:=Pv (i+1),ct:=Pv (i+1),bk:=D.nx } σ2 H2)(hd:∀σ H,Pv kvs.length σ H->D.nx σ H) :
  ∃W:Nat->Nat->St->Hp->Prop,(∃m,W 0 m σ H)/\∀i m σ H,W i m σ H->
   ((Itk a o kvs).stop i H/\D.nx σ H)\/((Itk a o kvs).go i H/\∃N:St->Hp->Prop,(∀σ' H',N σ' H'->∃m',m' < m/\W (i+1) m' σ' H')/\∀x H',(Itk a o kvs).yld i H x H'->g x σ H' fun σ2 H2=>tb { D with nx:=N,ct:=N,bk:=D.nx } σ2 H2):=by
 refine⟨fun i m σ H=>m=kvs.length - i/\i<=kvs.length/\Pv i σ H,⟨kvs.length,by simp,Nat.zero_le _,h0⟩,?_⟩;rintro i m σ H ⟨rfl,hi,p⟩;have q:=hl i σ H p
 by_cases hlt:i < kvs.length
 ·refine .inr ⟨⟨q,hlt⟩,Pv (i+1),fun σ' H' p'=>⟨kvs.length - (i+1),by omega,rfl,hlt,p'⟩,fun x H' y=>?_⟩;obtain⟨e,kv,hk,ex⟩:=y;subst e ex;exact hs i kv σ _ hk p
 ·have e:i=kvs.length:=by omega
  subst e;exact .inl ⟨⟨q,Nat.le_refl _⟩,hd σ H p⟩
theorem aM.thaw {P:Program}{w:World}{K:Frag}{mg:Str->Option Value}{base:Heap}{CX:CXT}{k:Nat}{f:Addr}{fd:FuncData}{ps:List Str}{sp sp':Sp}(F:aM P w K mg base CX k f fd ps sp)(h:∀vs H Q E,sp' vs H Q E->∃a kvs,H a=some (.dK kvs)/\sp vs H (fun v H'=>∃o,H' a=some (.frz o (.dK kvs))/\Q v (upd H' a (.dK kvs))) E):aM P w K mg base CX k f fd ps sp':=by
 refine⟨fun vs H Q E q=>?_,fun A outer s H args us vs Q E hr he hb hv hs=>?_⟩
 ·obtain⟨a,kvs,_,z⟩:=h vs H Q E q;exact F.len _ _ _ _ z
 ·obtain⟨a,kvs,ea,z⟩:=h vs H Q E hs;refine codeAny_mono (F.run A outer s H args us vs _ E hr he hb hv z) fun r s' hq=>?_
  cases r with
  |error e=>exact hq
  |ok fl=>
   cases fl with
   |next=>exact hq
   |brk=>exact hq
   |cont=>exact hq
   |ret u=>
    obtain⟨v,H',os,bare,un,hok,rv,o,ef,q⟩:=hq;refine⟨v,upd H' a (.dK kvs),os,bare,⟨un.keep,un.slot,fun b ob q n hx=>?_,un.there,fun b xs q=>?_,fun b ob u q=>?_,fun b ps q=>?_⟩,HOk.redo hok ef (fun _ z=>by cases z) (fun _ z=>by cases z) (hok a _ ef).2,rv,q⟩
    ·rw[aV (fun z=>by rw[z,ea] at n;cases n)];exact un.free b ob q n hx
    ·rw[aV (fun z=>by rw[z,ea] at q;cases q)];exact un.tups b xs q
    ·rw[aV (fun z=>by rw[z,ea] at q;cases q)];exact un.frzs b ob u q
    ·rw[aV (fun z=>by rw[z,ea] at q;cases q)];exact un.tbls b ps q
end L2
namespace L2
open PySem PySem.Spec PyProof.Rows Shp
abbrev Hn:=Option (Nat × Nat) × RD
def rot (m t k:Nat):Nat:=(k+t) % m
structure Mu (m t:Nat) (e:Hn):Prop where
 pt:dA (m:Int) e.2.2.1 e.2.2.2.1
 sl:Mq.Low e.2.2.2.2
 bd:Mq.Bd 7 e.2.2.2.2
 pc:e.2.1=.pc->0 < e.2.2.2.2.1/\Mq.Bd 4 e.2.2.2.2
 ho:e.2.1=.ho->e.1≠none
 tg:∀k j,e.1=some (k,j)->e.2.1≠.pu/\1<=k/\k < m/\j < k/\((e.2.2.1=(rot m t k:Int)/\e.2.2.2.1=(rot m t j:Int))\/(e.2.2.1=(rot m t j:Int)/\e.2.2.2.1=(rot m t k:Int)))
abbrev tgs (E:List Hn):List (Nat × Nat):=E.filterMap (·.1)
structure Hng (m t J:Nat) (E:List Hn):Prop where
 m1:1<=m
 tm:t < m
 en:∀e∈E,Mu m t e
 nd:((tgs E).map (·.1)).Nodup
 al:∀k,1<=k->k < J->∃j,(k,j)∈tgs E
 lt:∀p∈tgs E,p.1 < J
 ln:(tgs E).length+1=J
section
variable {m t J:Nat} {E:List Hn}
theorem Ls (m1:1<=m)(k:Nat):rot m t k < m:=Nat.mod_lt _ (by omega)
theorem mB (tm:t < m){j k:Nat}(hj:j < m)(hk:k < m)(h:rot m t j=rot m t k):j=k:=by
 unfold rot at h;have a:(j+t) % m=if j+t < m then j+t else j+t - m:=by
  split
  ·exact Nat.mod_eq_of_lt (by assumption)
  ·rw[Nat.mod_eq_sub_mod (by omega),Nat.mod_eq_of_lt (by omega)]
 have b:(k+t) % m=if k+t < m then k+t else k+t - m:=by
  split
  ·exact Nat.mod_eq_of_lt (by assumption)
  ·rw[Nat.mod_eq_sub_mod (by omega),Nat.mod_eq_of_lt (by omega)]
 rw[a,b] at h;split at h<;>split at h<;>omega
theorem Af (tm:t < m){p:Nat}(hp:p < m):∃k,k < m/\rot m t k=p:=by
 by_cases c:t<=p
 ·exact⟨p - t,by omega,by unfold rot;rw[show p - t+t=p by omega,Nat.mod_eq_of_lt hp]⟩
 ·exact⟨p+m - t,by omega,by unfold rot;rw[show p+m - t+t=p+m by omega,Nat.add_mod_right,Nat.mod_eq_of_lt hp]⟩
theorem Hng.ins (h:Hng m t J E){e:Hn}(he:Mu m t e)(e0:e.1=none)(i:Nat):Hng m t J (E.take i++e :: E.drop i):=by
 have et:tgs (E.take i++e :: E.drop i)=tgs E:=by
  unfold tgs;rw[List.filterMap_append,List.filterMap_cons_none e0,<- List.filterMap_append,List.take_append_drop]
 refine⟨h.m1,h.tm,fun x hx=>?_,by rw[et];exact h.nd,fun k a b=>by rw[et];exact h.al k a b,fun p hp=>h.lt p (by rw[et] at hp;exact hp),by rw[et];exact h.ln⟩;rcases Gm hx with z | z
 ·rw[z];exact he
 ·exact h.en x z
theorem Hng.tree (h:Hng m t J E){e:Hn}{j:Nat}(he:Mu m t e)(e0:e.1=some (J,j))(i:Nat):Hng m t (J+1) (E.take i++e :: E.drop i):=by
 have et:(tgs (E.take i++e :: E.drop i)).Perm ((J,j) :: tgs E):=by
  unfold tgs;rw[List.filterMap_append,List.filterMap_cons_some e0];refine List.perm_middle.trans ?_;rw[<- List.filterMap_append,List.take_append_drop]
 refine⟨h.m1,h.tm,fun x hx=>?_,?_,fun k a b=>?_,fun p hp=>?_,?_⟩
 ·rcases Gm hx with z | z
  ·rw[z];exact he
  ·exact h.en x z
 ·rw[(et.map (·.1)).nodup_iff,List.map_cons,List.nodup_cons];refine⟨fun z=>?_,h.nd⟩;obtain⟨p,hp,ep⟩:=List.mem_map.mp z;have:=h.lt p hp;omega
 ·by_cases c:k=J
  ·exact⟨j,et.mem_iff.mpr (by rw[c];simp)⟩
  ·obtain⟨j',hj'⟩:=h.al k a (by omega);exact⟨j',et.mem_iff.mpr (List.mem_cons_of_mem _ hj')⟩
 ·rcases List.mem_cons.mp (et.mem_iff.mp hp) with z | z
  ·rw[z];show J < J+1;omega
  ·have:=h.lt p z;omega
 ·rw[et.length_eq,List.length_cons,h.ln]
inductive sV (T:List (Nat × Nat)) (k:Nat):Nat->Prop where
 |self:sV T k k
 |up {p q:Nat} (h:(p,q)∈T) (u:sV T k q):sV T k p
theorem sV.ge {T:List (Nat × Nat)}{k p:Nat}(d:∀p q,(p,q)∈T->q < p)(h:sV T k p):k<=p:=by
 induction h with
 |self=>exact Nat.le_refl _
 |up h _ ih=>have:=d _ _ h;omega
theorem Ra {T:List (Nat × Nat)}(nd:(T.map (·.1)).Nodup){p q q':Nat}(h:(p,q)∈T)(h':(p,q')∈T):q=q':=by
 induction T with
 |nil=>cases h
 |cons x T ih=>
  rw[List.map_cons,List.nodup_cons] at nd;rcases List.mem_cons.mp h with z | z<;>rcases List.mem_cons.mp h' with z' | z'
  ·rw[<- z] at z';exact(Prod.ext_iff.mp z').2.symm
  ·exact absurd (List.mem_map.mpr ⟨_,z',by rw[<- z]⟩) nd.1
  ·exact absurd (List.mem_map.mpr ⟨_,z,by rw[<- z']⟩) nd.1
  ·exact ih nd.2 z z'
theorem sV.iff {T:List (Nat × Nat)}{k p q:Nat}(nd:(T.map (·.1)).Nodup)(h:(p,q)∈T)(ne:p≠k):sV T k p↔sV T k q:=by
 refine⟨fun u=>?_,fun u=>.up h u⟩
 cases u with
 |self=>exact absurd rfl ne
 |up h' u=>rw[Ra nd h h'];exact u
theorem Mt:∀{E:List Hn},((tgs E).map (·.1)).Nodup->∀{i i':Nat} {e e':Hn} {k j j':Nat},E[i]?=some e->E[i']?=some e'->e.1=some (k,j)->e'.1=some (k,j')->i=i'
 | [],_,i,_,_,_,_,_,_,h,_,_,_=>by simp at h
 |x :: E,nd,i,i',e,e',k,j,j',h,h',t,t'=>by
  have mem:∀{a:Nat} {y:Hn} {b:Nat},E[a]?=some y->y.1=some (k,b)->k∈(tgs E).map (·.1):=fun hy ty=>List.mem_map.mpr ⟨_,List.mem_filterMap.mpr ⟨_,List.mem_of_getElem? hy,ty⟩,rfl⟩;have nd':((tgs E).map (·.1)).Nodup:=by
   unfold tgs at nd;rw[List.filterMap_cons] at nd;split at nd
   ·exact nd
   ·rw[List.map_cons] at nd;exact(List.nodup_cons.mp nd).2
  have no:∀{b:Nat},x.1=some (k,b)->k∉(tgs E).map (·.1):=fun tx=>by
   unfold tgs at nd;rw[List.filterMap_cons_some tx,List.map_cons] at nd;exact(List.nodup_cons.mp nd).1
  match i,i',h,h' with
  |0,0,_,_=>rfl
  |0,a+1,h,h'=>
   have:x=e:=by simpa using h
   subst this;exact absurd (mem (by simpa using h') t') (no t)
  |a+1,0,h,h'=>
   have:x=e':=by simpa using h'
   subst this;exact absurd (mem (by simpa using h) t) (no t')
  |a+1,a' + 1,h,h'=>
   have:=Mt nd' (i:=a) (i':=a') (by simpa using h) (by simpa using h') t t';omega
abbrev rwH (E:List Hn):List RD:=E.map (·.2)
theorem Hng.pt (h:Hng m t J E):∀d∈rwH E,dA (m:Int) d.2.1 d.2.2.1:=fun d hd=>by
 obtain⟨e,he,rfl⟩:=List.mem_map.mp hd;exact(h.en e he).pt
theorem Hng.cn0 (h:Hng m t m E):∀n k,k<=n->k < m->Cn (rwH E) (rot m t 0) (rot m t k)
 |n,0,_,_=>.refl _
 |0,k+1,hk,_=>by omega
 |n+1,k+1,hk,hm=>by
  obtain⟨j,hj⟩:=h.al (k+1) (by omega) hm;obtain⟨e,he,te⟩:=List.mem_filterMap.mp hj;obtain⟨hp,_,_,jk,ends⟩:=(h.en e he).tg _ _ te;have ih:=Hng.cn0 h n j (by omega) (by omega);have r:Cn (rwH E) e.2.2.1.toNat e.2.2.2.1.toNat:=.row (List.mem_map.mpr ⟨e,he,rfl⟩) hp;rcases ends with ⟨a,b⟩ | ⟨a,b⟩
  ·rw[a,b,Int.toNat_natCast,Int.toNat_natCast] at r;exact ih.trans r.symm
  ·rw[a,b,Int.toNat_natCast,Int.toNat_natCast] at r;exact ih.trans r
theorem Hng.cn (h:Hng m t m E)(p:Nat)(hp:p < m):Cn (rwH E) 0 p:=by
 obtain⟨k,hk,rfl⟩:=Af h.tm hp;obtain⟨k0,hk0,e0⟩:=Af h.tm (show 0 < m by have:=h.m1;omega);have a:=h.cn0 k k (Nat.le_refl _) hk;have b:=h.cn0 k0 k0 (Nat.le_refl _) hk0;rw[e0] at b;exact b.symm.trans a
theorem Hng.frs (h:Hng m t J E):Frs (rwH E):=by
 intro A B d e hd cn;have at_:(rwH E)[A.length]?=some d:=by rw[e,List.getElem?_append_right (Nat.le_refl _),Nat.sub_self];rfl
 have atx:∀i x,i < A.length->A[i]?=some x->∃y:Hn,E[i]?=some y/\y.2=x:=fun i x hi hx=>by
  have:(rwH E)[i]?=some x:=by rw[e,List.getElem?_append_left hi];exact hx
  rw[List.getElem?_map] at this;obtain⟨y,hy,ey⟩:=Option.map_eq_some_iff.mp this;exact⟨y,hy,ey⟩
 rw[List.getElem?_map] at at_;obtain⟨y,hy,rfl⟩:=Option.map_eq_some_iff.mp at_;have oy:=h.en y (List.mem_of_getElem? hy);obtain⟨⟨k,j⟩,tk⟩:∃p,y.1=some p:=Option.ne_none_iff_exists'.mp (oy.ho hd);obtain⟨_,k1,km,jk,ends⟩:=oy.tg k j tk;have dec:∀p q,(p,q)∈tgs E->q < p:=fun p q hpq=>by
  obtain⟨z,hz,tz⟩:=List.mem_filterMap.mp hpq;exact((h.en z hz).tg _ _ tz).2.2.2.1
 have r:=Cn.ind (ds:=eZ .ho A) (R:=fun p q=>p=q\/(p < m/\q < m/\∀a b,a < m->b < m->rot m t a=p->rot m t b=q->(sV (tgs E) k a↔sV (tgs E) k b))) (fun p=>.inl rfl) (fun p q f=>by
  rcases f with f | ⟨x,y,f⟩
  ·exact .inl f.symm
  ·exact .inr ⟨y,x,fun a b ha hb e1 e2=>(f b a hb ha e2 e1).symm⟩) (fun p q x f g=>by
  rcases f with f | ⟨f1,f2,f⟩
  ·rw[f];exact g
  ·rcases g with g | ⟨g1,g2,g⟩
   ·rw[<- g];exact .inr ⟨f1,f2,f⟩
   ·refine .inr ⟨f1,g2,fun a b ha hb e1 e2=>?_⟩;obtain⟨c,hc,ec⟩:=Af h.tm f2;exact(f a c ha hc e1 ec).trans (g c b hc hb ec e2)) (fun x hx hk=>by
  obtain⟨xA,xk⟩:=List.mem_filter.mp hx;obtain⟨i,hi⟩:=List.getElem?_of_mem xA;have il:=(List.getElem?_eq_some_iff.mp hi).1;obtain⟨z,hz,rfl⟩:=atx i x il hi;have oz:=h.en z (List.mem_of_getElem? hz);obtain⟨⟨k',j'⟩,tk'⟩:∃p,z.1=some p:=Option.ne_none_iff_exists'.mp (oz.ho (of_decide_eq_true xk));obtain⟨_,a1,am,jk',ends'⟩:=oz.tg k' j' tk';have ne:k'≠k:=fun c=>by
   rw[c] at tk';have:=Mt h.nd hz hy tk' tk;omega
  have mem:(k',j')∈tgs E:=List.mem_filterMap.mpr ⟨z,List.mem_of_getElem? hz,tk'⟩;have iff:=sV.iff h.nd mem ne;obtain⟨q0,q1,q2,q3⟩:=oz.pt;refine .inr ⟨by omega,by omega,fun a b ha hb e1 e2=>?_⟩;rcases ends' with ⟨x,y⟩ | ⟨x,y⟩
  ·rw[x,Int.toNat_natCast] at e1;rw[y,Int.toNat_natCast] at e2;rw[mB h.tm ha am e1,mB h.tm hb (by omega) e2];exact iff
  ·rw[x,Int.toNat_natCast] at e1;rw[y,Int.toNat_natCast] at e2;rw[mB h.tm ha (by omega) e1,mB h.tm hb am e2];exact iff.symm) cn
 have no:¬sV (tgs E) k j:=fun c=>by
  have:=c.ge dec;omega
 rcases ends with ⟨a,b⟩ | ⟨a,b⟩
 ·rw[a,b,Int.toNat_natCast,Int.toNat_natCast] at r;rcases r with r | ⟨_,_,r⟩
  ·have:=mB h.tm km (by omega) r;omega
  ·exact no ((r k j km (by omega) rfl rfl).mp .self)
 ·rw[a,b,Int.toNat_natCast,Int.toNat_natCast] at r;rcases r with r | ⟨_,_,r⟩
  ·have:=mB h.tm (by omega) km r;omega
  ·exact no ((r j k (by omega) km rfl rfl).mpr .self)
end
abbrev Pr2:=RD × Mq.Q2
abbrev prE (E:List Ent):List Pr2:=E.map (·.2)
section
variable {m u:Nat} {hs:List Mq.Q2} {par:Nat->Nat} {E:List Ent}
abbrev M0 (u:Nat):Nat:=(2 ^ u+2 ^ u)*2 ^ u
theorem Mm {L:Int}{M x y:Nat}:∀{ds:List RD} (k:Nat),(∀d∈ds,∀k,Mq.Fr L M (cM d k x y))->Mq.Fr L (ds.length*M) (eqM k ds x y)
 | [],_,_=>Mq.Fr.zero.mono (Nat.zero_le _)
 |d :: ds,k,q=>by
  rw[List.length_cons,Nat.succ_mul,Nat.add_comm];exact(q d (by simp) k).add (Mm _ fun x hx=>q x (List.mem_cons_of_mem _ hx))
theorem Pw {L:Int}{M:Nat}{y:Rat}{c:Prop}[Decidable c](g:Mq.Fr L M y):Mq.Fr L M (if c then y else 0):=by
 split
 ·exact g
 ·exact Mq.Fr.zero.mono (Nat.zero_le _)
end
section
variable {m t J:Nat} {E:List Hn}
theorem Hng.hold_le (h:Hng m t J E):bQ (rwH E)+1<=J:=by
 have:∀{E:List Hn},(∀e∈E,e.2.1=.ho->e.1≠none)->bQ (rwH E)<=(tgs E).length:=fun {E}=>by
  induction E with
  |nil=>intro _;exact Nat.le_refl _
  |cons e E ih=>
   intro h;have ih:=ih fun x hx=>h x (List.mem_cons_of_mem _ hx);show bQ (e.2 :: rwH E)<=_;rw[fQ];unfold tgs at ih ⊢;rw[List.filterMap_cons]
   by_cases c:e.2.1=.ho
   ·obtain⟨k,tk⟩:∃k,e.1=some k:=Option.ne_none_iff_exists'.mp (h e (by simp) c);rw[tk];have:bN e.2.1=1:=if_pos c;simp only[List.length_cons];omega
   ·have:bN e.2.1=0:=if_neg c;split<;>(try simp only[List.length_cons])<;>omega
 have a:=this fun e he hk=>(h.en e he).ho hk;have:=h.ln;omega
theorem Hng.nof (h:Hng m t m E):Nof m (rwH E):=by
 refine⟨h.m1,h.pt,fun d hd hk=>?_,h.cn,h.frs⟩;obtain⟨e,he,rfl⟩:=List.mem_map.mp hd;have p0:=((h.en e he).pc hk).1;have:=(h.en e he).sl.pos;unfold Mq.val;rw[Rat.div_def];exact Rat.mul_pos (by exact_mod_cast p0) (Rat.inv_pos.mpr (by exact_mod_cast (show 0 < e.2.2.2.2.2 by omega)))
def LH (E:List Hn):Int:=Mq.prB (E.map fun e=>if e.2.1=.pc then e.2.2.2.2.1 else 1)
theorem Hng.L (h:Hng m t J E):1<=LH E/\Mq.B (4*E.length+1) (LH E)/\∀d∈rwH E,d.1=.pc->0 < d.2.2.2.1/\d.2.2.2.1 ∣ LH E/\1<=d.2.2.2.2/\d.2.2.2.2.natAbs<=16:=by
 have al:∀a∈(E.map fun e=>if e.2.1=.pc then e.2.2.2.2.1 else 1),1<=a/\Mq.B 4 a:=fun a ha=>by
  obtain⟨e,he,rfl⟩:=List.mem_map.mp ha;split
  ·rename_i c
   obtain⟨p0,b⟩:=(h.en e he).pc c;exact⟨p0,b.a⟩
  ·exact⟨by decide,show (1:Nat) < 2 ^ 4 by decide⟩
 refine⟨Mq.Ga fun a ha=>(al a ha).1,?_,fun d hd hk=>?_⟩
 ·have:=Mq.Um (u:=4) fun a ha=>(al a ha).2;rw[List.length_map] at this;exact this
 ·obtain⟨e,he,rfl⟩:=List.mem_map.mp hd;obtain⟨p0,b⟩:=(h.en e he).pc hk;refine⟨p0,Mq.Gi (List.mem_map.mpr ⟨e,he,if_pos hk⟩),(h.en e he).sl.pos,Nat.le_of_lt b.b⟩
end
abbrev sk3 (d:RD):Kd × Int × Int:=(d.1,d.2.1,d.2.2.1)
theorem Cn.sk {ds es:List RD}(h:ds.map sk3=es.map sk3){p q:Nat}(c:Cn ds p q):Cn es p q:=by
 refine Cn.ind (R:=fun p q=>Cn es p q) (fun p=>.refl p) (fun _ _=>.symm) (fun _ _ _=>.trans) (fun x hx hk=>?_) c;have:sk3 x∈es.map sk3:=by rw[<- h];exact List.mem_map.mpr ⟨x,hx,rfl⟩
 obtain⟨y,hy,e⟩:=List.mem_map.mp this;have e1:y.1=x.1:=congrArg (·.1) e;have e2:y.2.1=x.2.1:=congrArg (·.2.1) e;have e3:y.2.2.1=x.2.2.1:=congrArg (·.2.2) e;have:=Cn.row hy (by rw[e1];exact hk);rw[e2,e3] at this;exact this
theorem Py (k:Kd){ds es:List RD}(h:ds.map sk3=es.map sk3):(eZ k ds).map sk3=(eZ k es).map sk3:=by
 have:∀l:List RD,(eZ k l).map sk3=(l.map sk3).filter fun x=>decide (x.1=k):=fun l=>by
  unfold eZ;rw[List.filter_map];rfl
 rw[this,this,h]
theorem Vh {ds es:List RD}(h:ds.map sk3=es.map sk3):bQ ds=bQ es:=by
 have:=congrArg List.length (Py .ho h);rw[List.length_map,List.length_map] at this;exact this
theorem Frs.sk {ds es:List RD}(h:ds.map sk3=es.map sk3)(f:Frs ds):Frs es:=by
 intro A B d e hd cn;have hl:ds.length=es.length:=by have:=congrArg List.length h;rwa [List.length_map,List.length_map] at this
 have hn:A.length < ds.length:=by rw[hl,e,List.length_append,List.length_cons];omega
 have eA:(ds.take A.length).map sk3=A.map sk3:=by rw[List.map_take,h,<- List.map_take,e,List.take_left]
 have ed:sk3 ds[A.length]=sk3 d:=by
  have a1:(ds.map sk3)[A.length]?=some (sk3 ds[A.length]):=by rw[List.getElem?_map,List.getElem?_eq_getElem hn];rfl
  have a2:(es.map sk3)[A.length]?=some (sk3 d):=by rw[List.getElem?_map,e,List.getElem?_append_right (Nat.le_refl _),Nat.sub_self];rfl
  rw[h,a2] at a1;exact(Option.some.inj a1).symm
 have e1:(ds[A.length]).1=d.1:=congrArg (·.1) ed;have e2:(ds[A.length]).2.1=d.2.1:=congrArg (·.2.1) ed;have e3:(ds[A.length]).2.2.1=d.2.2.1:=congrArg (·.2.2) ed;refine f (ds.take A.length) (ds.drop (A.length+1)) ds[A.length] (by rw[List.getElem_cons_drop,List.take_append_drop]) (by rw[e1];exact hd) ?_;rw[e2,e3];exact Cn.sk (Py .ho eA.symm) cn
theorem Nof.sk {m:Nat}{ds es:List RD}(h:ds.map sk3=es.map sk3)(o:Nof m ds)(pos:∀d∈es,d.1=.pc->0 < Mq.val d.2.2.2):Nof m es:=by
 refine⟨o.m1,fun d hd=>?_,pos,fun p hp=>Cn.sk h (o.cn p hp),Frs.sk h o.fr⟩;have:sk3 d∈ds.map sk3:=by rw[h];exact List.mem_map.mpr ⟨d,hd,rfl⟩
 obtain⟨y,hy,e⟩:=List.mem_map.mp this;have e2:y.2.1=d.2.1:=congrArg (·.2.1) e;have e3:y.2.2.1=d.2.2.1:=congrArg (·.2.2) e;have:=o.pt y hy
 rwa [e2,e3] at this
theorem Vw {ds:List RD}{i:Nat}{d d':RD}(h:ds[i]?=some d)(e:sk3 d'=sk3 d):ds.map sk3=(ds.set i d').map sk3:=by
 refine List.ext_getElem? fun j=>?_;rw[List.getElem?_map,List.getElem?_map,List.getElem?_set]
 by_cases c:i=j
 ·subst c;rw[if_pos rfl,h,if_pos (List.getElem?_eq_some_iff.mp h).1];show some (sk3 d)=some (sk3 d');rw[e]
 ·rw[if_neg c]
theorem Re {ds:List RD}:Frs ds↔∀(A B:List RD) (d:RD),eZ .ho ds=A++d :: B->¬Cn A d.2.1.toNat d.2.2.1.toNat:=by
 constructor
 ·intro f A B d e;unfold eZ at e;obtain⟨l1,l2,rfl,e1,e2⟩:=List.filter_eq_append_iff.mp e;obtain⟨l3,l4,rfl,no,hd,e4⟩:=List.filter_eq_cons_iff.mp e2;have:=f (l1++l3) l4 d (by rw[List.append_assoc]) (of_decide_eq_true hd);have es:eZ .ho (l1++l3)=A:=by
   unfold eZ;rw[List.filter_append,e1,List.filter_eq_nil_iff.mpr (fun x hx=>no x hx),List.append_nil]
  rwa [es] at this
 ·intro f A B d e hd cn;refine f (eZ .ho A) (eZ .ho B) d ?_ cn;rw[e];unfold eZ;rw[List.filter_append,List.filter_cons_of_pos (p:=fun d:RD=>decide (d.1=.ho)) (a:=d) (decide_eq_true hd)]
theorem Frs.sel {ds es:List RD}(h:(eZ .ho ds).map sk3=(eZ .ho es).map sk3)(f:Frs ds):Frs es:=by
 rw[Re] at f ⊢;intro A B d e;have hl:(eZ .ho ds).length=(eZ .ho es).length:=by have:=congrArg List.length h;rwa [List.length_map,List.length_map] at this
 have hn:A.length < (eZ .ho ds).length:=by rw[hl,e,List.length_append,List.length_cons];omega
 generalize eZ .ho ds=hs at h hl hn f;generalize eZ .ho es=gs at h hl e;have eA:(hs.take A.length).map sk3=A.map sk3:=by rw[List.map_take,h,<- List.map_take,e,List.take_left]
 have ed:sk3 hs[A.length]=sk3 d:=by
  have a1:(hs.map sk3)[A.length]?=some (sk3 hs[A.length]):=by rw[List.getElem?_map,List.getElem?_eq_getElem hn];rfl
  have a2:(gs.map sk3)[A.length]?=some (sk3 d):=by rw[List.getElem?_map,e,List.getElem?_append_right (Nat.le_refl _),Nat.sub_self];rfl
  rw[h,a2] at a1;exact(Option.some.inj a1).symm
 have e2:(hs[A.length]).2.1=d.2.1:=congrArg (·.2.1) ed;have e3:(hs[A.length]).2.2.1=d.2.2.1:=congrArg (·.2.2) ed;intro cn;refine f (hs.take A.length) (hs.drop (A.length+1)) hs[A.length] (by rw[List.getElem_cons_drop,List.take_append_drop]) ?_;rw[e2,e3];exact Cn.sk eA.symm cn
section
variable {m:Nat} {ds:List RD} {a b:Nat}
theorem dD.turn {v:Nat->Rat}(h:dD m ds a b v):dD m ds b a (fun x=>- v x):=by
 refine⟨by rw[h.z];grind,fun i hi=>?_⟩;have e:∀j,j < wd m ds->eqM m ds (i+1) (j+1) * - v (j+1)=- (eqM m ds (i+1) (j+1)*v (j+1)):=fun j _=>by grind
 rw[Mq.aK e,Mq.gX,h.e i hi];grind
theorem dD.held {v:Nat->Rat}(o:Nof m ds)(h:dD m ds a b v)(ha:a < m)(hb:b < m)(c:Cn (eZ .ho ds) a b):v a=v b:=by
 have hol:=h.holds o ha hb;exact Cn.ind (R:=fun a b=>v a=v b) (fun _=>rfl) (fun _ _ e=>e.symm) (fun _ _ _ x y=>x.trans y) (fun x hx _=>by
  obtain⟨xm,xk⟩:=List.mem_filter.mp hx;exact hol x xm (of_decide_eq_true xk)) c
end
section
variable {u F:Nat->Rat} {m:Nat}
def egF (F u:Nat->Rat):Nat->List RD->Rat
 |_,[]=>0
 |h,d :: ds=>fw u d h*(F d.2.1.toNat - F d.2.2.1.toNat)+egF F u (h+bN d.1) ds
theorem Di:∀(ds:List RD) (h:Nat),(∀d∈ds,dA (m:Int) d.2.1 d.2.2.1)->Mq.rs m (fun p=>F p*nt u h ds p)=egF F u h ds
 | [],h,_=>by
  have:∀p,F p*nt u h [] p=0:=fun p=>by show F p*(0:Rat)=0;grind
  rw[Mq.aK fun p _=>this p,Mq.dF];rfl
 |d :: ds,h,pt=>by
  have ih:=Di ds (h+bN d.1) (fun e he=>pt e (List.mem_cons_of_mem _ he));obtain⟨a,b,c,e⟩:=pt d (by simp);have base:=vP F (n:=m) (s:=d.2.1.toNat) (g:=d.2.2.1.toNat) (by omega) (by omega);have:∀p,F p*nt u h (d :: ds) p=fw u d h*(F p*dl d.2.1.toNat d.2.2.1.toNat p)+F p*nt u (h+bN d.1) ds p:=fun p=>by
   show F p*(fw u d h*dl d.2.1.toNat d.2.2.1.toNat p+nt u (h+bN d.1) ds p)=_;grind
  rw[Mq.aK fun p _=>this p,Mq.cV,Mq.eI,base,ih];rfl
theorem Na:∀(ds:List RD) (h:Nat),(∀d∈ds,d.1=.pc->0 < Mq.val d.2.2.2)->(∀d∈ds,d.1=.ho->F d.2.1.toNat=F d.2.2.1.toNat)->(∀d∈ds,d.1=.pc->0<=(u d.2.1.toNat - u d.2.2.1.toNat)*(F d.2.1.toNat - F d.2.2.1.toNat)/\((u d.2.1.toNat - u d.2.2.1.toNat)*(F d.2.1.toNat - F d.2.2.1.toNat)=0->F d.2.1.toNat=F d.2.2.1.toNat))->0<=egF F u h ds/\(egF F u h ds=0->∀d∈ds,d.1=.pc->F d.2.1.toNat=F d.2.2.1.toNat)
 | [],_,_,_,_=>⟨Rat.le_refl,fun _ d hd=>by cases hd⟩
 |e :: ds,h,pos,ho,ri=>by
  obtain⟨i1,i2⟩:=Na ds (h+bN e.1) (fun d hd=>pos d (List.mem_cons_of_mem _ hd)) (fun d hd=>ho d (List.mem_cons_of_mem _ hd)) (fun d hd=>ri d (List.mem_cons_of_mem _ hd));have eq:egF F u h (e :: ds)=fw u e h*(F e.2.1.toNat - F e.2.2.1.toNat)+egF F u (h+bN e.1) ds:=rfl;rw[eq];generalize egF F u (h+bN e.1) ds=r at i1 i2;have t:0<=fw u e h*(F e.2.1.toNat - F e.2.2.1.toNat)/\(e.1=.pc->fw u e h*(F e.2.1.toNat - F e.2.2.1.toNat)=0->F e.2.1.toNat=F e.2.2.1.toNat):=by
   unfold fw
   cases hk:e.1 with
   |pu=>exact⟨by grind,fun z=>by cases z⟩
   |ho=>exact⟨by rw[ho e (by simp) hk];grind,fun z=>by cases z⟩
   |pc=>
    dsimp only;have p:=jQ (pos e (by simp) hk);obtain⟨r1,r2⟩:=ri e (by simp) hk;generalize 1 / Mq.val e.2.2.2=q at p;generalize u e.2.1.toNat - u e.2.2.1.toNat=a at r1 r2;generalize F e.2.1.toNat=b at r1 r2;generalize F e.2.2.1.toNat=c at r1 r2;have e2:a*q*(b - c)=q*(a*(b - c)):=by grind
    rw[e2];refine⟨Rat.mul_nonneg (Rat.le_of_lt p) r1,fun _ z=>r2 ?_⟩;have q0:q≠0:=fun z=>by rw[z] at p;exact absurd p (by decide)
    generalize a*(b - c)=w at z;grind
  obtain⟨t1,t2⟩:=t;generalize fw u e h*(F e.2.1.toNat - F e.2.2.1.toNat)=x at t1 t2;refine⟨by grind,fun z d hd hk=>?_⟩;have x0:x=0:=by grind
  have r0:r=0:=by grind
  rcases List.mem_cons.mp hd with rfl | hd
  ·exact t2 hk x0
  ·exact i2 r0 d hd hk
end
def blw (c x:Rat):Rat:=if x < c then x - c else 0
theorem Wt (c x y:Rat):0<=(x - y)*(blw c x - blw c y)/\((x - y)*(blw c x - blw c y)=0->blw c x=blw c y):=by
 have sq:∀z:Rat,0<=z*z:=fun z=>Fv z;unfold blw
 by_cases h:x < c<;>by_cases k:y < c
 ·rw[if_pos h,if_pos k];have:(x - y)*(x - c - (y - c))=(x - y)*(x - y):=by grind
  rw[this];exact⟨sq _,fun z=>by have:x - y=0:=(by grind);grind⟩
 ·rw[if_pos h,if_neg k];have h1:0<=(y - x)*(c - x):=Rat.mul_nonneg (by grind) (by grind);refine⟨by grind,fun z=>?_⟩;have:x - y≠0:=by grind
  grind
 ·rw[if_neg h,if_pos k];have h1:0<=(x - y)*(c - y):=Rat.mul_nonneg (by grind) (by grind);refine⟨by grind,fun z=>?_⟩;have:x - y≠0:=by grind
  grind
 ·rw[if_neg h,if_neg k];exact⟨by grind,fun _=>rfl⟩
section
variable {m:Nat} {ds:List RD} {a b:Nat} {v:Nat->Rat}
theorem dD.low (o:Nof m ds)(h:dD m ds a b v)(ha:a < m)(hb:b < m){p:Nat}(hp:p < m):v b<=v p:=by
 have hol:=h.holds o ha hb;obtain⟨F,hF⟩:∃F:Nat->Rat,F=fun p=>blw (v b) (v p):=⟨_,rfl⟩
 have Fe:∀p,F p=blw (v b) (v p):=fun p=>by rw[hF]
 have s1:=Di (u:=v) (F:=F) (m:=m) ds m o.pt;have e:∀p,p < m->F p*nt v m ds p=F p*un a p + - (F p*un b p):=fun p hp=>by rw[h.all o ha hb p hp];grind
 rw[Mq.aK e,Mq.cV,Mq.gX,pI ha,pI hb] at s1;have Fb:F b=0:=by rw[Fe];unfold blw;rw[if_neg (by grind)]
 have Fa:F a<=0:=by
  rw[Fe];unfold blw;split
  ·grind
  ·exact Rat.le_refl
 obtain⟨n1,n2⟩:=Na (u:=v) (F:=F) ds m o.pos (fun d hd hk=>by rw[Fe,Fe,hol d hd hk]) (fun d _ _=>by rw[Fe,Fe];exact Wt ..);rw[<- s1,Fb] at n1 n2;have z:F a + -0=0:=by grind
 have pc:=n2 z;have c:Cn ds b p:=(o.cn b hb).symm.trans (o.cn p hp);have:F b=F p:=Cn.ind (R:=fun x y=>F x=F y) (fun _=>rfl) (fun _ _ e=>e.symm) (fun _ _ _ x y=>x.trans y) (fun d hd hk=>by
  cases k:d.1 with
  |pc=>exact pc d hd k
  |pu=>exact absurd k hk
  |ho=>rw[Fe,Fe,hol d hd k]) c
 rw[Fb,Fe] at this;unfold blw at this;split at this
 ·grind
 ·grind
theorem dD.high (o:Nof m ds)(h:dD m ds a b v)(ha:a < m)(hb:b < m){p:Nat}(hp:p < m):v p<=v a:=by
 have:=h.turn.low o hb ha hp;grind
theorem dD.tri (o:Nof m ds){c:Nat}{f g:Nat->Rat}(h:dD m ds a b v)(hf:dD m ds a c f)(hg:dD m ds c b g)(ha:a < m)(hb:b < m)(hc:c < m):v a - v b<=(f a - f c)+(g c - g b):=by
 have s:dD m ds a b (fun x=>f x+g x):=by
  refine⟨by rw[hf.z,hg.z];grind,fun i hi=>?_⟩;have e:∀j,j < wd m ds->eqM m ds (i+1) (j+1)*(f (j+1)+g (j+1))=eqM m ds (i+1) (j+1)*f (j+1)+eqM m ds (i+1) (j+1)*g (j+1):=fun j _=>by grind
  rw[Mq.aK e,Mq.cV,hf.e i hi,hg.e i hi];grind
 have u:=Sv.uni o h s;have wm:m - 1<=wd m ds:=Nat.le_add_right ..;rw[u a (by omega),u b (by omega)];have l1:=hf.low o ha hc hb;have l2:=hg.high o hc hb ha;grind
end
def eP (F u:Nat->Rat):List RD->Rat
 | []=>0
 |d :: ds=>(if d.1=.pc then (u d.2.1.toNat - u d.2.2.1.toNat)*(F d.2.1.toNat - F d.2.2.1.toNat)*(1 / Mq.val d.2.2.2) else 0)+eP F u ds
section
variable {F u:Nat->Rat} {m:Nat}
theorem Mv:∀(ds:List RD) (h:Nat),(∀d∈ds,d.1=.ho->F d.2.1.toNat=F d.2.2.1.toNat)->egF F u h ds=eP F u ds
 | [],_,_=>rfl
 |d :: ds,h,ho=>by
  have ih:=Mv ds (h+bN d.1) fun e he=>ho e (List.mem_cons_of_mem _ he);show fw u d h*(F d.2.1.toNat - F d.2.2.1.toNat)+egF F u (h+bN d.1) ds=_+eP F u ds;rw[ih];congr 1;unfold fw
  cases hk:d.1 with
  |pc=>rw[if_pos rfl];grind
  |pu=>rw[if_neg (fun z=>by cases z)];grind
  |ho=>rw[if_neg (fun z=>by cases z),ho d (by simp) hk];grind
theorem Of (A B:List RD):eP F u (A++B)=eP F u A+eP F u B:=by
 induction A with
 |nil=>show eP F u B=0+eP F u B;grind
 |cons d A ih=>show _+eP F u (A++B)=_+eP F u A+eP F u B;rw[ih];grind
theorem Ua:∀(ds:List RD),(∀d∈ds,d.1=.pc->0 < Mq.val d.2.2.2)->0<=eP F F ds
 | [],_=>Rat.le_refl
 |d :: ds,pos=>by
  have ih:=Ua ds fun e he=>pos e (List.mem_cons_of_mem _ he);show 0<=_+eP F F ds
  by_cases hk:d.1=.pc
  ·rw[if_pos hk];have p:=jQ (pos d (by simp) hk);have:=Rat.mul_nonneg (Fv (F d.2.1.toNat - F d.2.2.1.toNat)) (Rat.le_of_lt p);grind
  ·rw[if_neg hk];grind
theorem Mh (x y:Nat->Rat):∀ds:List RD,eP (fun p=>x p - y p) (fun p=>x p - y p) ds=eP x x ds - 2*eP y x ds+eP y y ds
 | []=>by show (0:Rat)=0 - 2*0+0;grind
 |d :: ds=>by
  have ih:=Mh x y ds;show _+eP (fun p=>x p - y p) (fun p=>x p - y p) ds=(_+eP x x ds) - 2*(_+eP y x ds)+(_+eP y y ds)
  rw[ih]
  by_cases hk:d.1=.pc
  ·rw[if_pos hk,if_pos hk,if_pos hk,if_pos hk];grind
  ·rw[if_neg hk,if_neg hk,if_neg hk,if_neg hk];grind
end
section
variable {m:Nat} {ds:List RD} {a b:Nat} {v v':Nat->Rat}
theorem dD.eP (o:Nof m ds)(h:dD m ds a b v)(ha:a < m)(hb:b < m)(F:Nat->Rat)(ho:∀d∈ds,d.1=.ho->F d.2.1.toNat=F d.2.2.1.toNat):L2.eP F v ds=F a - F b:=by
 have s1:=Di (u:=v) (F:=F) (m:=m) ds m o.pt;have e:∀p,p < m->F p*nt v m ds p=F p*un a p + - (F p*un b p):=fun p hp=>by rw[h.all o ha hb p hp];grind
 rw[Mq.aK e,Mq.cV,Mq.gX,pI ha,pI hb,Mv ds m ho] at s1;grind
theorem ray {es:List RD}(o:Nof m ds)(o':Nof m es)(h:dD m ds a b v)(h':dD m es a b v')(ha:a < m)(hb:b < m)(ho:∀d∈ds,d.1=.ho->∃e∈es,e.1=.ho/\e.2.1=d.2.1/\e.2.2.1=d.2.2.1)(le:eP v' v' ds<=eP v' v' es):v' a - v' b<=v a - v b:=by
 have hd:=h.holds o ha hb;have he:=h'.holds o' ha hb;have hx:∀d∈ds,d.1=.ho->v' d.2.1.toNat=v' d.2.2.1.toNat:=fun d hm hk=>by
  obtain⟨e,em,ek,e1,e2⟩:=ho d hm hk;have:=he e em ek
  rwa [e1,e2] at this
 have r1:=h.eP o ha hb v hd;have r2:=h.eP o ha hb v' hx;have r3:=h'.eP o' ha hb v' he;have nn:=Ua (F:=fun p=>v p - v' p) ds o.pos;rw[Mh,r1,r2] at nn;rw[r3] at le;grind
theorem Qu {A B:List RD}{d d':RD}(F:Nat->Rat)(hk:d.1=.pc)(hk':d'.1=.pc)(e1:d'.2.1=d.2.1)(e2:d'.2.2.1=d.2.2.1)(p':0 < Mq.val d'.2.2.2)(le:Mq.val d'.2.2.2<=Mq.val d.2.2.2):eP F F (A++d :: B)<=eP F F (A++d' :: B):=by
 rw[Of,Of];show eP F F A+((if d.1=.pc then _ else 0)+eP F F B)<=eP F F A+((if d'.1=.pc then _ else 0)+eP F F B)
 rw[if_pos hk,if_pos hk',e1,e2];have p:0 < Mq.val d.2.2.2:=by grind
 have s:=Fv (F d.2.1.toNat - F d.2.2.1.toNat);generalize (F d.2.1.toNat - F d.2.2.1.toNat)*(F d.2.1.toNat - F d.2.2.1.toNat)=w at s;generalize Mq.val d'.2.2.2=x at p' le;generalize Mq.val d.2.2.2=y at p le;have ix:=jQ p';have iy:=jQ p;have key:0<=(y - x)*((1 / x)*(1 / y)):=Rat.mul_nonneg (by grind) (Rat.mul_nonneg (Rat.le_of_lt ix) (Rat.le_of_lt iy));have k2:(y - x)*((1 / x)*(1 / y))=1 / x - 1 / y:=by
  have:x≠0:=fun z=>by rw[z] at p';exact absurd p' (by decide)
  have:y≠0:=fun z=>by rw[z] at p;exact absurd p (by decide)
  grind
 rw[k2] at key;have:=Rat.mul_nonneg s key;grind
end
section
variable {m:Nat} {ds:List RD} {r v:Nat->Rat}
theorem Sv.of (o:Nof m ds)(z:v 0=0)(hp:∀x,1<=x->x < m->nt v m ds x=r x)(hh:∀x,m<=x->x<=wd m ds->hw v m ds x=r x):Sv m ds r v:=by
 refine⟨z,fun i hi=>?_⟩;have m1:=o.m1;have c:∀j,j < wd m ds->eqM m ds (i+1) (j+1)*v (j+1)=v (j+1)*eqM m ds (j+1) (i+1):=fun j _=>by rw[pD,Rat.mul_comm]
 rw[Mq.aK c,yX (m:=m) (u:=v) z (by unfold wd;omega) (i+1) ds m o.pt m1 (by unfold wd;omega)]
 by_cases h:i+1 < m
 ·rw[hp (i+1) (by omega) h,Cu ds m h];grind
 ·rw[uQ ds m o.pt (by omega),hh (i+1) (by omega) (by omega)];grind
theorem Ml (k:Rat)(u:Nat->Rat)(d:RD)(h:Nat):fw (fun x=>k*u x) d h=k*fw u d h:=by
 unfold fw
 cases d.1<;>dsimp only<;>grind
theorem Lg (k:Rat)(u:Nat->Rat)(p:Nat):∀(ds:List RD) (h:Nat),nt (fun x=>k*u x) h ds p=k*nt u h ds p
 | [],_=>by show (0:Rat)=k*0;grind
 |d :: ds,h=>by
  show fw (fun x=>k*u x) d h*_+nt (fun x=>k*u x) (h+bN d.1) ds p=k*(fw u d h*_+nt u (h+bN d.1) ds p)
  rw[Lg k u p ds,Ml];grind
theorem Ov (k:Rat)(u:Nat->Rat)(y:Nat):∀(ds:List RD) (h:Nat),hw (fun x=>k*u x) h ds y=k*hw u h ds y
 | [],_=>by show (0:Rat)=k*0;grind
 |d :: ds,h=>by
  show (if d.1=.ho/\h=y then _ else _)+hw (fun x=>k*u x) (h+bN d.1) ds y=k*((if d.1=.ho/\h=y then _ else _)+hw u (h+bN d.1) ds y)
  rw[Ov k u y ds]
  by_cases c:d.1=.ho/\h=y
  ·rw[if_pos c,if_pos c];grind
  ·rw[if_neg c,if_neg c];grind
theorem zZ (u:Nat->Rat)(y:Nat){d:RD}(hk:d.1≠.ho):∀(ds:List RD) (h:Nat),hw u h (ds++[d]) y=hw u h ds y
 | [],h=>by
  show (if d.1=.ho/\h=y then _ else _)+(0:Rat)=0;rw[if_neg (fun z=>hk z.1)];grind
 |e :: ds,h=>by
  show _+hw u (h+bN e.1) (ds++[d]) y=_+hw u (h+bN e.1) ds y;rw[zZ u y hk ds]
variable {a b:Nat}
theorem dD.beside {s:Mq.Q2}(o:Nof m ds)(o':Nof m (ds++[(.pc,(b:Int),(a:Int),s)]))(h:dD m ds a b v)(ha:a < m)(hb:b < m)(s0:0 < Mq.val s):dD m (ds++[(.pc,(b:Int),(a:Int),s)]) a b (fun x=>Mq.val s*(1 / (v a - v b+Mq.val s))*v x):=by
 have nn:=h.nn o ha hb;have hol:=h.holds o ha hb;have al:=h.all o ha hb;have hhs:bQ (ds++[(.pc,(b:Int),(a:Int),s)])=bQ ds:=by rw[iN];rfl
 refine Sv.of o' (by rw[h.z];grind) (fun x x1 xm=>?_) (fun x xm xw=>?_)
 ·rw[pT,Lg,al x xm,Ml];show _+_*((v ((b:Int)).toNat - v ((a:Int)).toNat)*(1 / Mq.val s))*dl ((b:Int)).toNat ((a:Int)).toNat x=_;rw[Int.toNat_natCast,Int.toNat_natCast];have d1:dl b a x=- (un a x - un b x):=by
   unfold dl un
   by_cases c:b=x<;>by_cases d:a=x
   ·rw[if_pos c,if_pos d,if_pos d.symm,if_pos c.symm];grind
   ·rw[if_pos c,if_neg d,if_neg (fun z=>d z.symm),if_pos c.symm];grind
   ·rw[if_neg c,if_pos d,if_pos d.symm,if_neg (fun z=>c z.symm)];grind
   ·rw[if_neg c,if_neg d,if_neg (fun z=>d z.symm),if_neg (fun z=>c z.symm)];grind
  rw[d1];generalize un a x - un b x=w;generalize v a=p at nn;generalize v b=q at nn;generalize Mq.val s=t at s0 nn;have t0:t≠0:=fun z=>by rw[z] at s0;exact absurd s0 (by decide)
  have t1:p - q+t≠0:=by grind
  grind
 ·rw[Ov,zZ _ _ (fun z=>by cases z)];have:hw v m ds x=un a x - un b x:=h.hold o xm (by unfold wd at xw ⊢;rw[hhs] at xw;exact xw);rw[this];unfold un;rw[if_neg (by omega),if_neg (by omega)];grind
end
section
variable {m:Nat} {u w:Nat->Rat}
theorem Sf (hp:∀x,x < m->w x=u x)(hh:∀y,m<=y->w (y+1)=u y){d:RD}(pt:dA (m:Int) d.2.1 d.2.2.1){h:Nat}(hm:m<=h):fw w d (h+1)=fw u d h:=by
 obtain⟨i0,i1,j0,j1⟩:=pt;unfold fw
 cases d.1 with
 |pc=>dsimp only;rw[hp _ (by omega),hp _ (by omega)]
 |pu=>rfl
 |ho=>exact hh h hm
theorem Gs (hp:∀x,x < m->w x=u x)(hh:∀y,m<=y->w (y+1)=u y)(p:Nat):∀(ds:List RD) (h:Nat),(∀d∈ds,dA (m:Int) d.2.1 d.2.2.1)->m<=h->nt w (h+1) ds p=nt u h ds p
 | [],_,_,_=>rfl
 |d :: ds,h,pt,hm=>by
  show fw w d (h+1)*_+nt w (h+1+bN d.1) ds p=fw u d h*_+nt u (h+bN d.1) ds p;rw[Sf hp hh (pt d (by simp)) hm,show h+1+bN d.1=h+bN d.1+1 by omega,Gs hp hh p ds (h+bN d.1) (fun e he=>pt e (List.mem_cons_of_mem _ he)) (by omega)]
theorem Fo (hp:∀x,x < m->w x=u x)(y:Nat):∀(ds:List RD) (h:Nat),(∀d∈ds,dA (m:Int) d.2.1 d.2.2.1)->hw w (h+1) ds (y+1)=hw u h ds y
 | [],_,_=>rfl
 |d :: ds,h,pt=>by
  obtain⟨i0,i1,j0,j1⟩:=pt d (by simp);show (if d.1=.ho/\h+1=y+1 then _ else _)+hw w (h+1+bN d.1) ds (y+1)=(if d.1=.ho/\h=y then _ else _)+hw u (h+bN d.1) ds y;rw[show h+1+bN d.1=h+bN d.1+1 by omega,Fo hp y ds (h+bN d.1) (fun e he=>pt e (List.mem_cons_of_mem _ he)),hp _ (by omega),hp _ (by omega)];congr 1
  by_cases c:d.1=.ho/\h=y
  ·rw[if_pos c,if_pos ⟨c.1,by omega⟩]
  ·rw[if_neg c,if_neg (fun z=>c ⟨z.1,by omega⟩)]
end
section
variable {m:Nat} {ds:List RD} {a b:Nat} {v:Nat->Rat}
def lft (m:Nat)(v:Nat->Rat)(q:Rat)(x:Nat):Rat:=if x < m then v x else if x=m then q else v (x - 1)
theorem nV {q:Rat}{x:Nat}(h:x < m):lft m v q x=v x:=if_pos h
theorem Kx {q:Rat}:lft m v q m=q:=by unfold lft;rw[if_neg (by omega),if_pos rfl]
theorem Wx {q:Rat}{y:Nat}(h:m<=y):lft m v q (y+1)=v y:=by unfold lft;rw[if_neg (by omega),if_neg (by omega),Nat.add_sub_cancel]
theorem dD.led {s:Mq.Q2}(o:Nof m ds)(o':Nof (m+1) (ds++[(.pc,(b:Int),(m:Int),s)]))(h:dD m ds a b v)(ha:a < m)(hb:b < m)(s0:0 < Mq.val s)(c:Rat):Sv (m+1) (ds++[(.pc,(b:Int),(m:Int),s)]) (fun x=>un a x - (1 - c)*un b x - c*un m x) (lft m v (v b - c*Mq.val s)):=by
 have m1:=o.m1;have hol:=h.holds o ha hb;have al:=h.all o ha hb;have hhs:bQ (ds++[(.pc,(b:Int),(m:Int),s)])=bQ ds:=by rw[iN];rfl
 have t0:Mq.val s≠0:=fun z=>by rw[z] at s0;exact absurd s0 (by decide)
 refine Sv.of o' (by rw[nV (by omega)];exact h.z) (fun x x1 xm=>?_) (fun x xm xw=>?_)
 ·rw[pT,Gs (m:=m) (u:=v) (fun _ h=>nV h) (fun _ h=>Wx h) x ds m o.pt (Nat.le_refl _)];have f:fw (lft m v (v b - c*Mq.val s)) (.pc,(b:Int),(m:Int),s) (m+1+bQ ds)=c:=by
   show (lft m v (v b - c*Mq.val s) ((b:Int)).toNat - lft m v (v b - c*Mq.val s) ((m:Int)).toNat)*(1 / Mq.val s)=c;rw[Int.toNat_natCast,Int.toNat_natCast,nV hb,Kx];generalize Mq.val s=t at t0;grind
  rw[f];show nt v m ds x+c*dl ((b:Int)).toNat ((m:Int)).toNat x=_;rw[Int.toNat_natCast,Int.toNat_natCast]
  by_cases e:x=m
  ·subst e;rw[uQ ds x o.pt (Nat.le_refl _)];unfold dl un;rw[if_neg (by omega),if_pos rfl,if_neg (by omega),if_neg (by omega)];grind
  ·rw[al x (by omega)];have d1:dl b m x=un b x:=by
    unfold dl un;rw[if_neg (show ¬m=x from fun z=>e z.symm)]
    by_cases c:b=x
    ·rw[if_pos c,if_pos c.symm];grind
    ·rw[if_neg c,if_neg (fun z=>c z.symm)];grind
   have d2:un m x=0:=if_neg e;rw[d1,d2];grind
 ·obtain⟨y,rfl⟩:∃y,x=y+1:=⟨x - 1,by omega⟩
  rw[zZ _ _ (fun z=>by cases z),Fo (m:=m) (u:=v) (fun _ h=>nV h) y ds m o.pt];have:hw v m ds y=un a y - un b y:=h.hold o (by omega) (by unfold wd at xw ⊢;rw[hhs] at xw;omega);rw[this];unfold un;rw[if_neg (by omega),if_neg (by omega),if_neg (by omega),if_neg (by omega),if_neg (by omega)];grind
end
def jH (d:RD):Rat:=if d.1=.pc then Mq.val d.2.2.2 else 0
inductive vD (ds:List RD) (a:Nat):Nat->Rat->Prop where
 |here:vD ds a a 0
 |go {p:Nat} {x:Rat} {d:RD} (r:vD ds a p x) (hd:d∈ds) (hk:d.1≠.pu) (e:d.2.1.toNat=p):vD ds a d.2.2.1.toNat (x+jH d)
 |back {p:Nat} {x:Rat} {d:RD} (r:vD ds a p x) (hd:d∈ds) (hk:d.1≠.pu) (e:d.2.2.1.toNat=p):vD ds a d.2.1.toNat (x+jH d)
section
variable {m:Nat} {ds:List RD} {a b:Nat} {v:Nat->Rat}
theorem Po (o:Nof m ds){d:RD}(hd:d∈ds)(hk:d.1≠.pu)(h:dD m ds d.2.1.toNat d.2.2.1.toNat v):v d.2.1.toNat - v d.2.2.1.toNat<=jH d:=by
 obtain⟨i0,i1,j0,j1⟩:=o.pt d hd;unfold jH
 cases k:d.1 with
 |pu=>exact absurd k hk
 |ho=>
  rw[if_neg (fun z=>by cases z),h.held o (by omega) (by omega) (.row (List.mem_filter.mpr ⟨hd,decide_eq_true k⟩) hk)];grind
 |pc=>
  rw[if_pos rfl];have p:=o.pos d hd k;obtain⟨A,B,rfl⟩:=List.append_of_mem hd;obtain⟨_,le,_⟩:=Pf o k h;generalize v d.2.1.toNat - v d.2.2.1.toNat=x at le;generalize Mq.val d.2.2.2=y at p le;have y0:y≠0:=fun z=>by rw[z] at p;exact absurd p (by decide)
  have n:=Rat.mul_nonneg (show 0<=1 - x*(1 / y) by grind) (Rat.le_of_lt p);have e:(1 - x*(1 / y))*y=y - x:=by clear n le;grind
  rw[e] at n;clear h o;grind
theorem vD.le (o:Nof m ds)(ha:a < m){x:Rat}(r:vD ds a b x):b < m/\∀v,dD m ds a b v->v a - v b<=x:=by
 induction r with
 |here=>exact⟨ha,fun v _=>by grind⟩
 | @go p x d r hd hk e ih=>
  obtain⟨hp,ih⟩:=ih;obtain⟨i0,i1,j0,j1⟩:=o.pt d hd;refine⟨by omega,fun v h=>?_⟩;obtain⟨f,hf⟩:=o.ex (fun x=>un a x - un p x);obtain⟨g,hg⟩:=o.ex (fun x=>un p x - un d.2.2.1.toNat x);have t:=dD.tri o h hf hg ha (by omega) hp;have l1:=ih f hf;have l2:=Po o hd hk (v:=g) (by rw[e];exact hg);rw[e] at l2;grind
 | @back p x d r hd hk e ih=>
  obtain⟨hp,ih⟩:=ih;obtain⟨i0,i1,j0,j1⟩:=o.pt d hd;refine⟨by omega,fun v h=>?_⟩;obtain⟨f,hf⟩:=o.ex (fun x=>un a x - un p x);obtain⟨g,hg⟩:=o.ex (fun x=>un p x - un d.2.1.toNat x);have t:=dD.tri o h hf hg ha (by omega) hp;have l1:=ih f hf;have hg':dD m ds p d.2.1.toNat g:=hg;have l2:=Po o hd hk (v:=fun x=>- g x) (by rw[e];exact hg'.turn);rw[e] at l2;grind
end
structure Nsq (u:HO):Prop where
 l:∀xs,u≠.lst xs
 fl:∀o xs,u≠.frz o (.lst xs)
 t:∀xs,u≠.tup xs
 ft:∀o xs,u≠.frz o (.tup xs)
theorem Nsq.dk (kvs:List (Key × V)):Nsq (.dK kvs):=⟨(fun _ z=>by cases z),(fun _ _ z=>by cases z),(fun _ z=>by cases z),(fun _ _ z=>by cases z)⟩
section
variable {K:Frag} {H H':Hp} {d:Addr} {u:HO}
theorem dI.sqT (hd:H d=some u)(n:Nsq u)(e:dI d H H'){a:Addr}{xs:List V}(h:SqT K H a xs):SqT K H' a xs:=by
 rcases h with (h | ⟨o,h⟩) | h
 ·exact .inl (.inl (e _ _ h fun z=>by rw[z,hd] at h;exact n.t _ (Option.some.inj h)))
 ·exact .inl (.inr ⟨o,e _ _ h fun z=>by rw[z,hd] at h;exact n.ft _ _ (Option.some.inj h)⟩)
 ·exact .inr h
theorem Sts.x (hd:H d=some u)(n:Nsq u)(e:dI d H H'):∀{xs:List V} {st:List Stp},Sts K H xs st->Sts K H' xs st
 |_,_,.nil=>.nil
 |_,_,.cons h q=>.cons (dI.sqT hd n e h) (Sts.x hd n e q)
theorem Sds.x (hd:H d=some u)(n:Nsq u)(e:dI d H H'):∀{xs:List V} {st:List (Stp × Nat)},Sds K H xs st->Sds K H' xs st
 |_,_,.nil=>.nil
 |_,_,.cons h g q=>.cons (dI.sqT hd n e h) (dI.sqT hd n e g) (Sds.x hd n e q)
end
abbrev En:=Nat × Mq.Q2 × List Stp
inductive dE (K:Frag) (H:Hp):List (Key × V)->List En->Prop where
 |nil:dE K H [] []
 |cons {t lr rr:Addr} {e:En} {ws:List V} {kvs:List (Key × V)} {es:List En} (ht:SqT K H t [.ref lr,.ref rr]) (fl:Fq K H lr e.2.1) (hr:H rr=some (.lst ws)) (sw:Sts K H ws e.2.2) (q:dE K H kvs es):dE K H ((.inl (e.1:Int),.ref t) :: kvs) (e :: es)
def rB (K:Frag)(H:Hp)(v:V)(e:En):Prop:=∃t lr rr ws,v=.ref t/\SqT K H t [.ref lr,.ref rr]/\Fq K H lr e.2.1/\H rr=some (.lst ws)/\Sts K H ws e.2.2
abbrev eks (es:List En):List Nat:=es.map (·.1)
section
variable {K:Frag} {H H':Hp} {d:Addr} {u:HO}
theorem rB.same (s:bF H H'){v:V}{e:En}(h:rB K H v e):rB K H' v e:=by
 obtain⟨t,lr,rr,ws,a,b,c,f,g⟩:=h;exact⟨t,lr,rr,ws,a,s.seqT b,s.fq c,s _ _ f,g.same s⟩
theorem rB.x (hd:H d=some u)(n:Nsq u)(s:dI d H H'){v:V}{e:En}(h:rB K H v e):rB K H' v e:=by
 obtain⟨t,lr,rr,ws,a,b,c,f,g⟩:=h;exact⟨t,lr,rr,ws,a,dI.sqT hd n s b,dI.sqT hd n s c,s _ _ f (fun z=>by rw[z,hd] at f;exact n.l _ (Option.some.inj f)),g.x hd n s⟩
theorem dE.snoc:∀{kvs:List (Key × V)} {es:List En} {v:V} {e:En},dE K H kvs es->rB K H v e->dE K H (kvs++[(.inl (e.1:Int),v)]) (es++[e])
 |_,_,_,_,.nil,⟨_,_,_,_,rfl,b,c,f,g⟩=>.cons b c f g .nil
 |_,_,_,_,.cons ht fl hr sw q,h=>.cons ht fl hr sw (q.snoc h)
theorem dE.same (s:bF H H'):∀{kvs:List (Key × V)} {es:List En},dE K H kvs es->dE K H' kvs es
 |_,_,.nil=>.nil
 |_,_,.cons ht fl hr sw q=>.cons (s.seqT ht) (s.fq fl) (s _ _ hr) (sw.same s) (dE.same s q)
theorem dE.x (hd:H d=some u)(n:Nsq u)(s:dI d H H'):∀{kvs:List (Key × V)} {es:List En},dE K H kvs es->dE K H' kvs es
 |_,_,.nil=>.nil
 |_,_,.cons ht fl hr sw q=>.cons (dI.sqT hd n s ht) (dI.sqT hd n s fl) (s _ _ hr (fun z=>by rw[z,hd] at hr;exact n.l _ (Option.some.inj hr))) (sw.x hd n s) (dE.x hd n s q)
theorem dE.length:∀{kvs:List (Key × V)} {es:List En},dE K H kvs es->kvs.length=es.length
 |_,_,.nil=>rfl
 |_,_,.cons _ _ _ _ q=>congrArg (· + 1) q.length
theorem dE.at:∀{kvs:List (Key × V)} {es:List En} {i:Nat} {kv:Key × V},dE K H kvs es->kvs[i]?=some kv->∃e,es[i]?=some e/\kv.1=.inl (e.1:Int)
 |_,_,0,_,.cons (e:=e) _ _ _ _ _,h=>by cases h;exact⟨e,rfl,rfl⟩
 |_,_,i+1,_,.cons _ _ _ _ q,h=>q.at (i:=i) h
theorem xL {k:Key}{kv:Key × V}{kvs:List (Key × V)}:jF (kv :: kvs) k=if kv.1=k then some kv.2 else jF kvs k:=by
 unfold jF;rw[List.find?_cons]
 by_cases c:kv.1=k
 ·rw[decide_eq_true c,if_pos c];rfl
 ·rw[decide_eq_false c,if_neg c]
theorem hJ {a b:Nat}:((.inl (a:Int):Key)=.inl (b:Int))↔a=b:=⟨fun h=>by injection h with h;omega,fun h=>by rw[h]⟩
theorem dE.find:∀{kvs:List (Key × V)} {es:List En} {k:Nat},dE K H kvs es->k∈eks es->∃v e,e∈es/\e.1=k/\jF kvs (.inl (k:Int))=some v/\rB K H v e
 |_,_,k,.cons (t:=t) (e:=e) ht fl hr sw q,h=>by
  rw[xL]
  by_cases c:e.1=k
  ·exact⟨.ref t,e,List.mem_cons_self ..,c,by rw[if_pos (hJ.mpr c)],t,_,_,_,rfl,ht,fl,hr,sw⟩
  ·rcases List.mem_cons.mp h with z | z
   ·exact absurd z.symm c
   ·obtain⟨v,e',m,a,b,f⟩:=q.find z;exact⟨v,e',List.mem_cons_of_mem _ m,a,by rw[if_neg (fun z=>c (hJ.mp z))];exact b,f⟩
theorem dE.lack:∀{kvs:List (Key × V)} {es:List En} {k:Nat},dE K H kvs es->k∉eks es->jF kvs (.inl (k:Int))=none
 |_,_,_,.nil,_=>rfl
 |_,_,k,.cons (e:=e) ht fl hr sw q,h=>by
  rw[xL,if_neg (fun z=>h (by rw[<- hJ.mp z];exact List.mem_cons_self ..))];exact q.lack fun z=>h (List.mem_cons_of_mem _ z)
theorem dE.one:∀{es:List En} {e e':En},(eks es).Nodup->e∈es->e'∈es->e.1=e'.1->e=e'
 |x :: es,e,e',nd,h,h',ee=>by
  obtain⟨n1,n2⟩:=List.nodup_cons.mp (show (x.1 :: eks es).Nodup from nd);rcases List.mem_cons.mp h with z | z<;>rcases List.mem_cons.mp h' with z' | z'
  ·rw[z,z']
  ·exact absurd (List.mem_map.mpr ⟨e',z',by rw[<- ee,z]⟩) n1
  ·exact absurd (List.mem_map.mpr ⟨e,z,by rw[ee,z']⟩) n1
  ·exact dE.one n2 z z' ee
def rR (es:List En)(k:Nat):List En:=es.filter fun e=>decide (e.1≠k)
theorem dE.drop {k:Nat}:∀{kvs:List (Key × V)} {es:List En},dE K H kvs es->dE K H (jW kvs (.inl (k:Int))) (rR es k)
 |_,_,.nil=>.nil
 |_,_,.cons (e:=e) ht fl hr sw q=>by
  unfold jW rR
  by_cases c:e.1=k
  ·rw[List.filter_cons_of_neg (by simpa using hJ.mpr c),List.filter_cons_of_neg (by simpa using c)];exact q.drop
  ·rw[List.filter_cons_of_pos (by simpa using fun z=>c (hJ.mp z)),List.filter_cons_of_pos (by simpa using c)];exact .cons ht fl hr sw q.drop
def nX (es:List En)(e:En):List En:=if e.1∈eks es then es.map (fun x=>if x.1=e.1 then e else x) else es++[e]
theorem dE.put {kvs:List (Key × V)}{es:List En}{v:V}{e:En}(h:dE K H kvs es)(w:rB K H v e):dE K H (gQ kvs (.inl (e.1:Int)) v) (nX es e):=by
 have an:∀{kvs:List (Key × V)} {es:List En},dE K H kvs es->(kvs.any fun kv=>decide (kv.1=.inl (e.1:Int)))=decide (e.1∈eks es):=fun {kvs es} h=>by
  induction h with
  |nil=>rfl
  |cons ht fl hr sw q ih=>
   rename_i x ws kvs es
   rw[List.any_cons,ih];show _=decide (e.1∈x.1 :: eks es)
   by_cases c:x.1=e.1
   ·rw[decide_eq_true (hJ.mpr c),Bool.true_or,decide_eq_true (show e.1∈x.1 :: eks es from by rw[c];exact List.mem_cons_self ..)]
   ·rw[decide_eq_false (fun z=>c (hJ.mp z)),Bool.false_or]
    by_cases m:e.1∈eks es
    ·rw[decide_eq_true m,decide_eq_true (List.mem_cons_of_mem _ m)]
    ·rw[decide_eq_false m,decide_eq_false (fun z=>(List.mem_cons.mp z).elim (fun z=>c z.symm) m)]
 unfold gQ nX;rw[an h]
 by_cases m:e.1∈eks es
 ·rw[if_pos (decide_eq_true m),if_pos m];clear m an
  induction h with
  |nil=>exact .nil
  |cons ht fl hr sw q ih=>
   rename_i t lr rr x ws kvs es
   rw[List.map_cons,List.map_cons]
   by_cases c:x.1=e.1
   ·rw[if_pos (hJ.mpr c),if_pos c];obtain⟨t,lr,rr,ws,rfl,b,c',f,g⟩:=w;dsimp only;rw[hJ.mpr c];exact .cons b c' f g ih
   ·rw[if_neg (fun z=>c (hJ.mp z)),if_neg c];exact .cons ht fl hr sw ih
 ·rw[if_neg (by rw[decide_eq_false m];decide),if_neg m];exact h.snoc w
end
theorem zR {p q:Mq.Q2}(hp:1<=p.2)(hq:1<=q.2):p.1*q.2 < q.1*p.2↔Mq.val p < Mq.val q:=by
 have a:=Mq.oO hp;have b:=Mq.oO hq;have a0:(0:Rat) < (p.2:Rat):=by exact_mod_cast (show 0 < p.2 by omega)
 have b0:(0:Rat) < (q.2:Rat):=by exact_mod_cast (show 0 < q.2 by omega)
 have e:(Mq.val q - Mq.val p)*((p.2:Rat)*(q.2:Rat))=((q.1*p.2 - p.1*q.2:Int):Rat):=by
  unfold Mq.val;rw[Rat.intCast_sub,Rat.intCast_mul,Rat.intCast_mul];grind
 have m0:=Rat.mul_pos a0 b0;constructor
 ·intro h;have h0:(0:Rat) < ((q.1*p.2 - p.1*q.2:Int):Rat):=by exact_mod_cast (show 0 < q.1*p.2 - p.1*q.2 by omega)
  rw[<- e] at h0;rcases Rat.le_total (a:=Mq.val q) (b:=Mq.val p) with c | c
  ·exfalso
   have:=Rat.mul_nonneg (show 0<=Mq.val p - Mq.val q by grind) (Rat.le_of_lt m0);grind
  ·refine Rat.lt_of_le_of_ne c fun z=>?_;rw[z] at h0;grind
 ·intro h;have h1:(0:Rat) < (Mq.val q - Mq.val p)*((p.2:Rat)*(q.2:Rat)):=Rat.mul_pos (by grind) m0;rw[e] at h1;have:0 < q.1*p.2 - p.1*q.2:=by exact_mod_cast h1
  omega
def Hh (K:Frag):Sp:=fun vs H Q _=>∃(d:Addr) (kvs:List (Key × V)) (es:List En),vs=[.ref d]/\H d=some (.dK kvs)/\dE K H kvs es/\es≠[]/\(eks es).Nodup/\(∀e∈es,Mq.Low e.2.1/\Mq.Bd 4000 e.2.1)/\
 ∀(e:En) (o:Obj) (H':Hp),e∈es->(∀x∈es,Mq.val e.2.1<=Mq.val x.2.1)->dI d H H'->H' d=some (.frz o (.dK kvs))->Q (.int (e.1:Int)) H'
def Me (K:Frag):Sp:=fun vs H Q _=>∃(d:Addr) (kvs:List (Key × V)) (es:List En),vs=[.ref d]/\H d=some (.dK kvs)/\dE K H kvs es/\es≠[]/\(eks es).Nodup/\(∀e∈es,Mq.Low e.2.1/\Mq.Bd 4000 e.2.1)/\
 ∀(e:En) (H':Hp),e∈es->(∀x∈es,Mq.val e.2.1<=Mq.val x.2.1)->bF H H'->Q (.int (e.1:Int)) H'
theorem Jq {P:Program}{w:World}{K:Frag}{mg:Str->Option Value}{base:Heap}{CX:CXT}{k:Nat}{f:Addr}{fd:FuncData}{ps:List Str}(F:aM P w K mg base CX k f fd ps (Hh K)):aM P w K mg base CX k f fd ps (Me K):=
 F.thaw fun vs H Q E ⟨d,kvs,es,hv,hd,he,h0,nd,hb,q⟩=>⟨d,kvs,hd,d,kvs,es,hv,hd,he,h0,nd,hb,fun e o H' me mi sx ef=>⟨o,ef,q e _ me mi fun b u hb=>by
  by_cases c:b=d
  ·rw[c,aD,<- hd,<- c,hb]
  ·rw[aV c];exact sx b u hb c⟩⟩
def Ly (K:Frag)(CK:Kd->Addr):Sp:=fun vs H Q _=>∃(x z:Addr) (k:Kd) (i j:Int) (p:Mq.Q2),vs=[.ref x]/\Rw CK H x k (.int i) (.int j) (.ref z)/\Fq K H z p/\∀r,Fq K H r (if k=.pc then p else (0,1))->Q (.ref r) H
end L2
namespace K67
open PySem L2 Shp
section
variable {P:Program} {w:World} {K:Frag} {mg:Str->Option Value} {base:Heap} {f g1 g2 g3 g4 g5 g6 g7 g8:Addr} {fd gd1 gd2 gd3 gd4 gd5 gd6 gd7 gd8:FuncData} {CX:CXT}
variable {CR:Addr} {CK:Kd->Addr} {fW fJ fT fS:Kd->Addr} {fdW fdJ fdT fdS:Kd->FuncData}
abbrev yB:Stmt:=top 75
theorem zT:aT ["waiting","best","point"] ["waiting"] (aE yB):=sK9 rfl rfl rfl rfl (by decide +kernel)
theorem Ro {dV:Value}(F:bZ K "nearest" "nearest" yB dV f fd)(G1:aM P w K mg base CX0 1 g1 gd1 ["one","other"] (tG K))(b1:aQ K gd1 ["one","other"] [])(k1:kI9 K g1)(m1:mI9 mg "under" g1) :
  aM P w K mg base CX 2 f fd ["waiting"] (Hh K):=by
 refine F.ok zT (fun vs H Q E h=>?_) fun cdv A outer s H vs Q E hr h=>?_
 ·obtain⟨_,_,_,rfl,_⟩:=h;rfl
 obtain⟨d,kvs,es,rfl,hd,HE,h0,nd,hb,q⟩:=h;have hu:=hr.units;refine⟨_,(aC (aS (i:=1) zT.nd rfl (Or.inl rfl) Dq)
  (aC (gA PassesOwn.never rfl (Qj (pv 0)) (bL (i:=2) zT.nd rfl (Or.inl rfl))
   (aH (cK (PW.pt (jJ (lT (zK (pv 1))) (jG (cY (aG G1 hr rfl m1 k1 b1 .nil aL (aA (aU aX (jB (jA hr) (pv 0) (pv 2) (fun _ _=>rfl)) aF (fun _ _=>rfl)) (aA (aU aX (jB (jA hr) (pv 0) (pv 1) (fun _ _=>rfl)) aF (fun _ _=>rfl)) aB))))))) (aH (aS (i:=1) zT.nd rfl (Or.inl rfl) (pv 2))) bK)))
  (aH (aZ (pv 1))))),?_⟩
 refine⟨_,rfl,d,kvs,rfl,hd,fun o=>?_⟩;have sx:dI d H (upd H d (.frz o (.dK kvs))):=fun b u h n=>by rw[aV n];exact h
 have HF:=HE.x hd (Nsq.dk kvs) sx;have ef:upd H d (.frz o (.dK kvs)) d=some (.frz o (.dK kvs)):=aD;generalize upd H d (.frz o (.dK kvs))=Hf at sx HF ef ⊢;have ll:=HF.length;refine Ku (fun i σ H'=>H'=Hf/\((i=0/\∃z,σ=[some (.ref d),some .non,z])\/∃(e:En) (z:Option V),e∈es/\(∀x∈es.take i,Mq.val e.2.1<=Mq.val x.2.1)/\σ=[some (.ref d),some (.int (e.1:Int)),z])) ⟨rfl,.inl ⟨rfl,none,rfl⟩⟩ (fun i σ H' h=>by rw[h.1];exact ef) ?_ ?_
 ·rintro i ⟨k,v⟩ σ H' hk ⟨rfl,h⟩;obtain⟨e,he,ek⟩:=HF.at hk;have ek:k=.inl (e.1:Int):=ek;subst ek;have me:=List.mem_of_getElem? he;have tk:es.take (i+1)=es.take i++[e]:=by rw[List.take_add_one,he];rfl
  rw[tk];rcases h with ⟨rfl,z,rfl⟩ | ⟨e0,z,me0,mi,rfl⟩
  ·refine⟨_,rfl,_,rfl,fM (fM ⟨_,rfl,rfl,.inr ⟨e,_,me,fun x hx=>?_,rfl⟩⟩)⟩;have:x=e:=by simpa using hx
   rw[this];exact Rat.le_refl
  ·obtain⟨v1,e1,m1',k1',hv1,t1,lr1,rr1,ws1,rfl,ht1,fl1,_⟩:=HF.find (k:=e.1) (List.mem_map.mpr ⟨e,me,rfl⟩);obtain⟨v2,e2,m2,k2,hv2,t2,lr2,rr2,ws2,rfl,ht2,fl2,_⟩:=HF.find (k:=e0.1) (List.mem_map.mpr ⟨e0,me0,rfl⟩);have x1:=dE.one nd m1' me k1';have x2:=dE.one nd m2 me0 k2;subst x1 x2;have l1:=hb e1 me;have l2:=hb e2 me0;refine⟨_,rfl,_,rfl,dX ⟨_,rfl,_,rfl,d,_,rfl,.inl ⟨kvs,_,.inr ⟨o,ef⟩,rfl,hv1.symm⟩,t1,_,_,_,rfl,rfl,ht1,rfl,_,rfl,_,rfl,d,_,rfl,.inl ⟨kvs,_,.inr ⟨o,ef⟩,rfl,hv2.symm⟩,t2,_,_,_,rfl,rfl,ht2,rfl,?_⟩⟩;refine⟨lr1,lr2,_,_,4000,4000,rfl,fl1,fl2,l1.2,l2.2,by omega,_,rfl,?_⟩;have vl:=zR l1.1.pos l2.1.pos
   by_cases c:e1.2.1.1*e2.2.1.2 < e2.2.1.1*e1.2.1.2
   ·rw[decide_eq_true c];refine fM ⟨_,rfl,rfl,.inr ⟨e1,_,me,fun x hx=>?_,rfl⟩⟩;have lt:=vl.mp c;rcases List.mem_append.mp hx with y | y
    ·have:=mi x y;grind
    ·have:x=e1:=by simpa using y
     rw[this];exact Rat.le_refl
   ·rw[decide_eq_false c];refine dX ⟨rfl,.inr ⟨e2,_,me0,fun x hx=>?_,rfl⟩⟩;rcases List.mem_append.mp hx with y | y
    ·exact mi x y
    ·have:x=e1:=by simpa using y
     rw[this];have nlt:=fun z=>c (vl.mpr z);rcases Rat.le_total (a:=Mq.val e2.2.1) (b:=Mq.val e1.2.1) with q1 | q1
     ·exact q1
     ·by_cases q2:Mq.val e1.2.1=Mq.val e2.2.1
      ·rw[q2];exact Rat.le_refl
      ·exact absurd (Rat.lt_of_le_of_ne q1 q2) nlt
 ·rintro σ H' ⟨rfl,h⟩;rcases h with ⟨z,_⟩ | ⟨e0,z,me0,mi,rfl⟩
  ·exact absurd (List.eq_nil_of_length_eq_zero (by omega)) h0
  ·rw[ll,List.take_length] at mi;exact⟨_,rfl,q e0 o _ me0 mi sx ef⟩
abbrev xF:Stmt:=top 73
theorem Xq:aT ["row"] ["row"] (aE xF):=sK9 rfl rfl rfl rfl (by decide +kernel)
theorem Qo {dV:Value}(F:bZ K "length_of" "length_of" xF dV f fd)(T:RT K mg CR CK){aN:Addr}(fN:∀H,Fq K H aN (0,1))(mNO:mI9 mg "NOUGHT" aN)(GW:∀k,aM P w K mg base CX0 1 (fW k) (fdW k) ["self"] (kP k))(bW:∀k,aQ K (fdW k) ["self"] [])(mW:∀k,iB K (CK k) "word" (fW k)) :
  aM P w K mg base CX 2 f fd ["row"] (Ly K CK):=by
 refine F.ok Xq (fun vs H Q E h=>?_) fun cdv A outer s H vs Q E hr h=>?_
 ·obtain⟨_,_,_,_,_,_,rfl,_⟩:=h;rfl
 obtain⟨x,z,k,i,j,p,rfl,rw,fz,q⟩:=h;refine⟨_,(aH (aZ (kO (bM gH (fZ (pv 0) T.cl mW GW hr bW .nil aL) cW (bO _)) (cN (pv 0) rfl) (dG (v:=.ref aN) rfl mNO rfl)))),?_⟩;obtain⟨dx,hx⟩:=id rw;refine⟨_,rfl,k,x,dx,_,rfl,hx,(fC _ _ _ (by decide +kernel) (by decide +kernel) (by decide +kernel)),_,rfl,rfl,_,rfl,?_⟩
 by_cases hk:k=.pc
 ·refine L2.ifT (by show decide (V.str k.wd=V.str Kd.pc.wd)=true;rw[eY];exact decide_eq_true hk) ?_;refine⟨_,rfl,x,CK _,_,_,_,rfl,hx,T.cl _,T.nZ _,gR _ _ _,?_⟩;rw[if_pos hk] at q;exact q z fz
 ·refine L2.ifF (by show decide (V.str k.wd=V.str Kd.pc.wd)=false;rw[eY];exact decide_eq_false hk) ?_;rw[if_neg hk] at q;exact q aN (fN _)
end
end K67
namespace L2
open PySem PySem.Spec PyProof.Rows Shp
inductive Rds (ds:List RD) (a:Nat):Nat->Rat->List Stp->Prop where
 |here:Rds ds a a 0 []
 |go {x:Rat} {st:List Stp} {i:Nat} {d:RD} {p q:Nat} (r:Rds ds a p x st) (hd:ds[i]?=some d) (hk:d.1≠.pu) (e:d.2.1.toNat=p) (f:d.2.2.1.toNat=q):Rds ds a q (x+jH d) (st++[(i,1)])
 |back {x:Rat} {st:List Stp} {i:Nat} {d:RD} {p q:Nat} (r:Rds ds a p x st) (hd:ds[i]?=some d) (hk:d.1≠.pu) (e:d.2.2.1.toNat=p) (f:d.2.1.toNat=q):Rds ds a q (x+jH d) (st++[(i,-1)])
theorem Rds.road {ds:List RD}{a b:Nat}{x:Rat}{st:List Stp}(h:Rds ds a b x st):vD ds a b x:=by
 induction h with
 |here=>exact .here
 |go r hd hk e f ih=>rw[<- f];exact .go ih (List.mem_of_getElem? hd) hk e
 |back r hd hk e f ih=>rw[<- f];exact .back ih (List.mem_of_getElem? hd) hk e
def brF (ds:List RD):List Br:=(List.range ds.length).filterMap fun i=>match ds[i]? with
 |some d=>if d.1=.pu then none else some (i,d.2.1.toNat,d.2.2.1.toNat)
 |none=>none
theorem Fx {ds:List RD}{e:Br}(h:e∈brF ds):∃d,ds[e.1]?=some d/\d.1≠.pu/\e.2.1=d.2.1.toNat/\e.2.2=d.2.2.1.toNat:=by
 obtain⟨i,hi,he⟩:=List.mem_filterMap.mp h
 cases hd:ds[i]? with
 |none=>rw[hd] at he;cases he
 |some d=>
  rw[hd] at he;dsimp only at he;split at he
  ·cases he
  ·rename_i c
   cases he
   exact⟨d,hd,c,rfl,rfl⟩
theorem Gv {ds:List RD}{i:Nat}{d:RD}(h:ds[i]?=some d)(hk:d.1≠.pu):(i,d.2.1.toNat,d.2.2.1.toNat)∈brF ds:=
 List.mem_filterMap.mpr ⟨i,List.mem_range.mpr (List.getElem?_eq_some_iff.mp h).1,by rw[h];dsimp only;rw[if_neg hk]⟩
theorem Wm {m:Nat}{ds:List RD}(pt:∀d∈ds,dA (m:Int) d.2.1 d.2.2.1):Tw ds (brF ds):=fun e he=>by
 obtain⟨d,hd,_,a,b⟩:=Fx he;obtain⟨p1,p2,p3,p4⟩:=pt d (List.mem_of_getElem? hd);exact⟨d,hd,by rw[a];omega,by rw[b];omega⟩
theorem Hj (ds:List RD):(brF ds).length<=ds.length:=by
 unfold brF;refine Nat.le_trans (List.length_filterMap_le _ _) ?_;rw[List.length_range];exact Nat.le_refl _
theorem Qv {ds:List RD}{p:Nat}{x:Stp × Nat}(h:x∈stF (brF ds) p):∃d,ds[x.1.1]?=some d/\d.1≠.pu/\((x.1.2=1/\d.2.1.toNat=p/\d.2.2.1.toNat=x.2)\/(x.1.2=-1/\d.2.2.1.toNat=p/\d.2.1.toNat=x.2)):=by
 obtain⟨e,he,hx⟩:=List.mem_filterMap.mp h;obtain⟨d,hd,hk,a,b⟩:=Fx he;split at hx
 ·rename_i c
  cases hx
  exact⟨d,hd,hk,.inl ⟨rfl,by rw[<- a];exact c,b.symm⟩⟩
 ·split at hx
  ·rename_i c
   cases hx
   exact⟨d,hd,hk,.inr ⟨rfl,by rw[<- b];exact c,a.symm⟩⟩
  ·cases hx
theorem Qc {ds:List RD}{p i:Nat}{d:RD}(h:ds[i]?=some d)(hk:d.1≠.pu):(d.2.1.toNat=p->((i,1),d.2.2.1.toNat)∈stF (brF ds) p)/\(d.2.2.1.toNat=p->d.2.1.toNat≠p->((i,-1),d.2.1.toNat)∈stF (brF ds) p):=by
 constructor
 ·intro e;exact List.mem_filterMap.mpr ⟨_,Gv h hk,by dsimp only;rw[if_pos e]⟩
 ·intro e n;exact List.mem_filterMap.mpr ⟨_,Gv h hk,by dsimp only;rw[if_neg n,if_pos e]⟩
structure Ho (m kb:Nat) (ds:List RD) (a n:Nat) (e:En):Prop where
 lt:e.1 < m
 lo:Mq.Low e.2.1
 bd:Mq.Bd (1+(kb+2)*e.2.2.length) e.2.1
 st:e.2.2.length<=n
 rd:Rds ds a e.1 (Mq.val e.2.1) e.2.2
theorem Ho.mono {m kb a n n':Nat}{ds:List RD}{e:En}(h:Ho m kb ds a n e)(l:n<=n'):Ho m kb ds a n' e:=⟨h.lt,h.lo,h.bd,Nat.le_trans h.st l,h.rd⟩
def Kn (L:List En)(q:Nat)(x:Rat):Prop:=∃e∈L,e.1=q/\Mq.val e.2.1<=x
def Adj (ds:List RD)(L:List En)(e:En):Prop:=∀d∈ds,d.1≠.pu->(d.2.1.toNat=e.1->Kn L d.2.2.1.toNat (Mq.val e.2.1+jH d))/\(d.2.2.1.toNat=e.1->Kn L d.2.1.toNat (Mq.val e.2.1+jH d))
structure Dj (m kb:Nat) (ds:List RD) (a:Nat) (W S:List En):Prop where
 nd:(eks W++eks S).Nodup
 ia:∃e∈W++S,e.1=a
 en:∀e∈W++S,Ho m kb ds a S.length e
 or:∀s∈S,∀w∈W,Mq.val s.2.1<=Mq.val w.2.1
 cm:∀e∈S,Adj ds (W++S) e
structure vI (m kb:Nat) (ds:List RD):Prop where
 pt:∀d∈ds,dA (m:Int) d.2.1 d.2.2.1
 pos:∀d∈ds,d.1=.pc->0 < Mq.val d.2.2.2
 low:∀d∈ds,Mq.Low d.2.2.2
 bd:∀d∈ds,Mq.Bd kb d.2.2.2
 k1:1<=kb
 k100:kb<=100
 m20:m<=20
 len:ds.length<=100
def nU (d:RD):Mq.Q2:=if d.1=.pc then d.2.2.2 else (0,1)
theorem Ak {m kb:Nat}{ds:List RD}(h:vI m kb ds){d:RD}(hd:d∈ds):Mq.Low (nU d)/\Mq.Bd kb (nU d)/\Mq.val (nU d)=jH d/\0<=jH d:=by
 unfold nU jH
 by_cases c:d.1=.pc
 ·rw[if_pos c,if_pos c];exact⟨h.low d hd,h.bd d hd,rfl,Rat.le_of_lt (h.pos d hd c)⟩
 ·rw[if_neg c,if_neg c];have k1:=h.k1;exact⟨⟨by decide,by decide⟩,⟨Nat.two_pow_pos _,Nat.one_lt_two_pow (by omega)⟩,Mq.pF,Rat.le_refl⟩
section
variable {m kb a:Nat} {ds:List RD} {W S:List En}
theorem Ou (es:List En)(k:Nat):eks (rR es k)=(eks es).filter fun x=>decide (x≠k):=by
 unfold eks rR;rw[List.filter_map];rfl
theorem Dj.start (h:vI m kb ds)(ha:a < m):Dj m kb ds a [(a,(0,1),[])] []:=by
 refine⟨by simp,⟨_,List.mem_cons_self ..,rfl⟩,fun e he=>?_,(fun s hs=>by cases hs),(fun e he=>by cases he)⟩;have:e=(a,(0,1),[]):=by simpa using he
 subst this;exact⟨ha,(⟨by decide,by decide⟩:Mq.Low (0,1)),⟨Nat.two_pow_pos _,Nat.one_lt_two_pow (by omega)⟩,Nat.le_refl _,by rw[Mq.pF];exact .here⟩
structure Dk (m kb:Nat) (ds:List RD) (a:Nat) (W S:List En) (h:En) (L:List (Stp × Nat)):Prop where
 nd:(eks W++eks (S++[h])).Nodup
 ia:∃e∈W++(S++[h]),e.1=a
 en:∀e∈W++(S++[h]),Ho m kb ds a (S++[h]).length e
 hs:h.2.2.length<=S.length
 sh:∀s∈S,Mq.val s.2.1<=Mq.val h.2.1
 or:∀s∈S++[h],∀w∈W,Mq.val s.2.1<=Mq.val w.2.1
 cm:∀e∈S,Adj ds (W++(S++[h])) e
 mi:∀x∈L,∀d,ds[x.1.1]?=some d->Kn (W++(S++[h])) x.2 (Mq.val h.2.1+jH d)
theorem Dj.take (j:Dj m kb ds a W S){h:En}(hm:h∈W)(mi:∀x∈W,Mq.val h.2.1<=Mq.val x.2.1):Dk m kb ds a (rR W h.1) S h []:=by
 have nW:(eks W).Nodup:=(List.nodup_append.mp j.nd).1;have sub:∀{e:En},e∈W++S->e∈rR W h.1++(S++[h]):=fun {e} he=>by
  rcases List.mem_append.mp he with z | z
  ·by_cases c:e.1=h.1
   ·rw[dE.one nW z hm c];simp
   ·exact List.mem_append_left _ (List.mem_filter.mpr ⟨z,decide_eq_true c⟩)
  ·exact List.mem_append_right _ (List.mem_append_left _ z)
 have sup:∀{e:En},e∈rR W h.1++(S++[h])->e∈W++S:=fun {e} he=>by
  rcases List.mem_append.mp he with z | z
  ·exact List.mem_append_left _ (List.mem_filter.mp z).1
  ·rcases List.mem_append.mp z with z | z
   ·exact List.mem_append_right _ z
   ·have:e=h:=by simpa using z
    rw[this];exact List.mem_append_left _ hm
 refine⟨?_,?_,fun e he=>(j.en e (sup he)).mono (by simp),(j.en h (List.mem_append_left _ hm)).st,(fun s hs=>j.or s hs h hm),fun s hs w hw=>?_,fun e he d hd hk=>?_,(fun x hx=>by cases hx)⟩
 ·obtain⟨n1,n2,n3⟩:=List.nodup_append.mp j.nd;rw[Ou,show eks (S++[h])=eks S++[h.1] from by unfold eks;rw[List.map_append];rfl];refine List.nodup_append.mpr ⟨n1.filter _,List.nodup_append.mpr ⟨n2,by simp,fun x hx y hy=>?_⟩,fun x hx y hy=>?_⟩
  ·have:y=h.1:=by simpa using hy
   rw[this];exact fun z=>n3 h.1 (List.mem_map.mpr ⟨h,hm,rfl⟩) x hx z.symm
  ·obtain⟨hx1,hx2⟩:=List.mem_filter.mp hx;rcases List.mem_append.mp hy with z | z
   ·exact n3 x hx1 y z
   ·have:y=h.1:=by simpa using z
    rw[this];simpa using hx2
 ·obtain⟨e,he,ea⟩:=j.ia;exact⟨e,sub he,ea⟩
 ·have hw:=(List.mem_filter.mp hw).1;rcases List.mem_append.mp hs with z | z
  ·exact j.or s z w hw
  ·have:s=h:=by simpa using z
   rw[this];exact mi w hw
 ·obtain⟨c1,c2⟩:=j.cm e he d hd hk;exact⟨fun q=>by obtain⟨x,hx,r⟩:=c1 q;exact⟨x,sub hx,r⟩,fun q=>by obtain⟨x,hx,r⟩:=c2 q;exact⟨x,sub hx,r⟩⟩
theorem Dk.done {h:En}(k:Dk m kb ds a W S h (stF (brF ds) h.1))(ok:vI m kb ds):Dj m kb ds a W (S++[h]):=by
 refine⟨k.nd,k.ia,k.en,k.or,fun e he d hd hk=>?_⟩;rcases List.mem_append.mp he with z | z
 ·exact k.cm e z d hd hk
 ·have:e=h:=by simpa using z
  subst this;obtain⟨i,hi⟩:=List.getElem?_of_mem hd;obtain⟨s1,s2⟩:=Qc (p:=e.1) hi hk;refine⟨fun q=>k.mi _ (s1 q) d hi,fun q=>?_⟩
  by_cases c:d.2.1.toNat=e.1
  ·refine⟨e,by simp,c.symm,?_⟩;have:=(Ak ok hd).2.2.2;grind
  ·exact k.mi _ (s2 q c) d hi
theorem Kn.mono {L L':List En}{q:Nat}{x:Rat}(h:Kn L q x)(s:∀e∈L,∃e'∈L',e'.1=e.1/\Mq.val e'.2.1<=Mq.val e.2.1):Kn L' q x:=by
 obtain⟨e,he,a,b⟩:=h;obtain⟨e',he',a',b'⟩:=s e he;exact⟨e',he',by rw[a',a],Rat.le_trans b' b⟩
theorem Dk.skip {h:En}{L:List (Stp × Nat)}{x:Stp × Nat}(k:Dk m kb ds a W S h L)(kn:∀d,ds[x.1.1]?=some d->Kn (W++(S++[h])) x.2 (Mq.val h.2.1+jH d)):Dk m kb ds a W S h (L++[x]):=by
 refine⟨k.nd,k.ia,k.en,k.hs,k.sh,k.or,k.cm,fun y hy d hd=>?_⟩;rcases List.mem_append.mp hy with z | z
 ·exact k.mi y z d hd
 ·have:y=x:=by simpa using z
  subst this;exact kn d hd
theorem Ar {es:List En}{e y:En}(h:y∈nX es e):y=e\/(y∈es/\y.1≠e.1):=by
 unfold nX at h;split at h
 ·obtain⟨x,hx,ex⟩:=List.mem_map.mp h;split at ex
  ·exact .inl ex.symm
  ·rename_i c
   subst ex;exact .inr ⟨hx,c⟩
 ·rename_i c
  rcases List.mem_append.mp h with z | z
  ·exact .inr ⟨z,fun q=>c (by rw[<- q];exact List.mem_map.mpr ⟨y,z,rfl⟩)⟩
  ·exact .inl (by simpa using z)
theorem Bs (es:List En)(e:En):e∈nX es e:=by
 unfold nX;split
 ·rename_i c
  obtain⟨x,hx,ex⟩:=List.mem_map.mp c;exact List.mem_map.mpr ⟨x,hx,if_pos ex⟩
 ·simp
theorem Jl {es:List En}{e y:En}(h:y∈es)(n:y.1≠e.1):y∈nX es e:=by
 unfold nX;split
 ·exact List.mem_map.mpr ⟨y,h,if_neg n⟩
 ·exact List.mem_append_left _ h
theorem Sb (es:List En)(e:En):eks (nX es e)=if e.1∈eks es then eks es else eks es++[e.1]:=by
 unfold nX
 by_cases c:e.1∈eks es
 ·rw[if_pos c,if_pos c];unfold eks;rw[List.map_map];refine List.map_congr_left fun x _=>?_;show (if x.1=e.1 then e else x).1=x.1;split
  ·rename_i q;exact q.symm
  ·rfl
 ·rw[if_neg c,if_neg c];unfold eks;rw[List.map_append];rfl
theorem Dk.more {h:En}{L:List (Stp × Nat)}{x:Stp × Nat}{d:RD}(k:Dk m kb ds a W S h L)(ok:vI m kb ds)(hd:ds[x.1.1]?=some d)(hk:d.1≠.pu)(wy:(x.1.2=1/\d.2.1.toNat=h.1/\d.2.2.1.toNat=x.2)\/(x.1.2=-1/\d.2.2.1.toNat=h.1/\d.2.1.toNat=x.2))(ns:x.2∉eks (S++[h]))(nw:∀e∈W,e.1=x.2->Mq.val h.2.1+jH d<=Mq.val e.2.1):Dk m kb ds a (nX W (x.2,Mq.fL h.2.1 (nU d),h.2.2++[x.1])) S h (L++[x]):=by
 obtain⟨e0,he0⟩:∃e0:En,e0=(x.2,Mq.fL h.2.1 (nU d),h.2.2++[x.1]):=⟨_,rfl⟩
 rw[<- he0];have f1:e0.1=x.2:=by rw[he0]
 have f2:e0.2.1=Mq.fL h.2.1 (nU d):=by rw[he0]
 have f3:e0.2.2=h.2.2++[x.1]:=by rw[he0]
 clear he0;have hh:h∈W++(S++[h]):=by simp
 have oh:=k.en h hh;have md:=List.mem_of_getElem? hd;obtain⟨lq,bq,vq,nn⟩:=Ak ok md;obtain⟨p1,p2,p3,p4⟩:=ok.pt d md;have ve:Mq.val e0.2.1=Mq.val h.2.1+jH d:=by rw[f2,Mq.jN oh.lo.pos lq.pos,vq]
 have oe:Ho m kb ds a (S++[h]).length e0:=by
  refine⟨?_,by rw[f2];exact Mq.jM oh.lo.pos lq.pos,?_,?_,?_⟩
  ·rw[f1];rcases wy with ⟨_,_,q⟩ | ⟨_,_,q⟩<;>omega
  ·rw[f2,f3,List.length_append];refine(Mq.mD oh.bd bq oh.lo.pos lq.pos).mono ?_;show _<=1+(kb+2)*(h.2.2.length+1)
   rw[Nat.mul_succ];omega
  ·rw[f3,List.length_append,List.length_append];have:=k.hs;simp only[List.length_cons,List.length_nil];omega
  ·rw[ve,f1,f3];rcases wy with ⟨w,b,c⟩ | ⟨w,b,c⟩
   ·have:=Rds.go oh.rd hd hk b c;rw[show x.1=(x.1.1,(1:Int)) from by rw[<- w]];exact this
   ·have:=Rds.back oh.rd hd hk b c;rw[show x.1=(x.1.1,(-1:Int)) from by rw[<- w]];exact this
 have up:∀e∈W++(S++[h]),∃e'∈nX W e0++(S++[h]),e'.1=e.1/\Mq.val e'.2.1<=Mq.val e.2.1:=fun e he=>by
  rcases List.mem_append.mp he with z | z
  ·by_cases c:e.1=x.2
   ·exact⟨e0,List.mem_append_left _ (Bs W e0),by rw[f1,c],by rw[ve];exact nw e z c⟩
   ·exact⟨e,List.mem_append_left _ (Jl z (by rw[f1];exact c)),rfl,Rat.le_refl⟩
  ·exact⟨e,List.mem_append_right _ z,rfl,Rat.le_refl⟩
 refine⟨?_,?_,fun e he=>?_,k.hs,k.sh,fun s hs w hw=>?_,fun e he d' hd' hk'=>?_,fun y hy d' hd'=>?_⟩
 ·rw[Sb,f1];split
  ·exact k.nd
  ·rename_i c
   obtain⟨n1,n2,n3⟩:=List.nodup_append.mp k.nd;refine List.nodup_append.mpr ⟨List.nodup_append.mpr ⟨n1,by simp,fun u hu v hv=>?_⟩,n2,fun u hu v hv=>?_⟩
   ·have:v=x.2:=by simpa using hv
    rw[this];exact fun z=>c (by rw[<- z];exact hu)
   ·rcases List.mem_append.mp hu with z | z
    ·exact n3 u z v hv
    ·have:u=x.2:=by simpa using z
     rw[this];exact fun z=>ns (by rw[z];exact hv)
 ·obtain⟨e,he,ea⟩:=k.ia;obtain⟨e',he',b,_⟩:=up e he;exact⟨e',he',by rw[b,ea]⟩
 ·rcases List.mem_append.mp he with z | z
  ·rcases Ar z with z | z
   ·rw[z];exact oe
   ·exact k.en e (List.mem_append_left _ z.1)
  ·exact k.en e (List.mem_append_right _ z)
 ·rcases Ar hw with z | z
  ·rw[z,ve];rcases List.mem_append.mp hs with y | y
   ·have:=k.sh s y;grind
   ·have:s=h:=by simpa using y
    rw[this];grind
  ·exact k.or s hs w z.1
 ·obtain⟨c1,c2⟩:=k.cm e he d' hd' hk';exact⟨fun q=>(c1 q).mono up,fun q=>(c2 q).mono up⟩
 ·rcases List.mem_append.mp hy with z | z
  ·exact(k.mi y z d' hd').mono up
  ·have:y=x:=by simpa using z
   subst this;have:d'=d:=by rw[hd] at hd';exact(Option.some.inj hd').symm
   subst this;exact⟨e0,List.mem_append_left _ (Bs W e0),f1,by rw[ve];exact Rat.le_refl⟩
end
end L2
namespace K67
open PySem L2 Shp
section
variable {P:Program} {w:World} {K:Frag} {mg:Str->Option Value} {base:Heap} {f g1 g2 g3 g4 g5 g6 g7 g8:Addr} {fd gd1 gd2 gd3 gd4 gd5 gd6 gd7 gd8:FuncData} {CX:CXT}
variable {CR:Addr} {CK:Kd->Addr} {fW fJ fT fS:Kd->Addr} {fdW fdJ fdT fdS:Kd->FuncData}
def brT (ds:List RD)(i:Nat):List Br:=(List.range i).filterMap fun i=>match ds[i]? with
 |some d=>if d.1=.pu then none else some (i,d.2.1.toNat,d.2.2.1.toNat)
 |none=>none
theorem Le {ds:List RD}{i:Nat}{d:RD}(h:ds[i]?=some d):brT ds (i+1)=brT ds i++(if d.1=.pu then [] else [(i,d.2.1.toNat,d.2.2.1.toNat)]):=by
 unfold brT;rw[List.range_succ,List.filterMap_append];congr 1;rw[List.filterMap_cons,List.filterMap_nil,h]
 by_cases c:d.1=.pu
 ·dsimp only;rw[if_pos c,if_pos c]
 ·dsimp only;rw[if_neg c,if_neg c]
theorem Rv (ds:List RD)(i:Nat):(brT ds i).length<=i:=by
 unfold brT;refine Nat.le_trans (List.length_filterMap_le _ _) ?_;rw[List.length_range];exact Nat.le_refl _
theorem Eh {m kb a:Nat}{ds:List RD}{W S:List En}(h:Dj m kb ds a W S):S.length<=m:=by
 have:=uB (m:=m) (S:=eks S) (List.nodup_append.mp h.nd).2.1 fun p hp=>by
  obtain⟨e,he,rfl⟩:=List.mem_map.mp hp;exact(h.en e (List.mem_append_right _ he)).lt
 rwa [List.length_map] at this
theorem Wr {m kb a:Nat}{ds:List RD}{W S:List En}{h:En}{L:List (Stp × Nat)}(k:Dk m kb ds a W S h L):W.length<=m/\S.length < m:=by
 have n:=List.nodup_append.mp k.nd;have a1:=uB (m:=m) (S:=eks W) n.1 fun p hp=>by
  obtain⟨e,he,rfl⟩:=List.mem_map.mp hp;exact(k.en e (List.mem_append_left _ he)).lt
 have a2:=uB (m:=m) (S:=eks (S++[h])) n.2.1 fun p hp=>by
  obtain⟨e,he,rfl⟩:=List.mem_map.mp hp;exact(k.en e (List.mem_append_right _ he)).lt
 rw[List.length_map] at a1 a2;rw[List.length_append] at a2;simp only[List.length_cons,List.length_nil] at a2;exact⟨a1,by omega⟩
theorem tD {kb n:Nat}(hk:kb<=100)(hn:n<=20):1+(kb+2)*n<=2041:=by
 have:(kb+2)*n<=102*20:=Nat.mul_le_mul (by omega) hn;omega
def Fc (CN:Addr)(K:Frag):Sp:=fun vs H Q _=>∃(n l:Addr) (m kb a:Nat) (ds:List RD),vs=[.ref n,.int (a:Int)]/\fY CN K H n l (m:Int) ds/\vI m kb ds/\a < m/\
 ∀sd kvs S H',bF H H'->H sd=none->H' sd=some (.dK kvs)->dE K H' kvs S->Dj m kb ds a [] S->Q (.ref sd) H'
theorem nE:(["number","row"]:List Str).Nodup:=by decide +kernel
abbrev qR:Stmt:=top 74
theorem hG:aT ["net","a","rows","joining","waiting","settled","point","here","step","end","length"] ["net","a"] (aE qR):=sK9 rfl rfl rfl rfl (by decide +kernel)
theorem Lz {dV:Value}(F:bZ K "least_from" "least_from" qR dV f fd){CN:Addr}(men:mg "enumerate"=none)(ml:mg "len"=none)(NTx:NT K mg CN)(T:RT K mg CR CK){aN:Addr}(fN:∀H,Fq K H aN (0,1))(mNO:mI9 mg "NOUGHT" aN)(GJ:∀k,aM P w K mg base CX0 1 (fJ k) (fdJ k) ["self"] (mQ k))(bJ:∀k,aQ K (fdJ k) ["self"] [])(mJ:∀k,iB K (CK k) "joins" (fJ k)){gRo:Addr}{gdRo:FuncData}(GRo:aM P w K mg base CX0 4 gRo gdRo ["self"] (vO CN K CK))(bRo:aQ K gdRo ["self"] [])(mRo:iB K CN "rows" gRo)(G1:aM P w K mg base CX0 2 g1 gd1 ["waiting"] (Me K))(b1:aQ K gd1 ["waiting"] [])(k1:kI9 K g1)(m1:mI9 mg "nearest" g1)(G2:aM P w K mg base CX0 1 g2 gd2 ["rows","numbers","point"] (yZ K CK))(b2:aQ K gd2 ["rows","numbers","point"] [])(k2:kI9 K g2)(m2:mI9 mg "steps_from" g2)(G3:aM P w K mg base CX0 3 g3 gd3 ["one","other"] (iV K Mq.fL))(b3:aQ K gd3 ["one","other"] [])(k3:kI9 K g3)(m3:mI9 mg "plus" g3)(G4:aM P w K mg base CX0 2 g4 gd4 ["row"] (Ly K CK))(b4:aQ K gd4 ["row"] [])(k4:kI9 K g4)(m4:mI9 mg "length_of" g4)(G5:aM P w K mg base CX0 1 g5 gd5 ["one","other"] (tG K))(b5:aQ K gd5 ["one","other"] [])(k5:kI9 K g5)(m5:mI9 mg "under" g5) :
  aM P w K mg base CX 5 f fd ["net","a"] (Fc CN K):=by
 refine F.ok hG (fun vs H Q E h=>?_) fun cdv A outer s H vs Q E hr h=>?_
 ·obtain⟨_,_,_,_,_,_,rfl,_⟩:=h;rfl
 obtain⟨n,l,m,kb,a,ds,rfl,nt,ok,ha,q⟩:=h;have r1:=hr.mono (show 1<=4 by omega);have r2:=hr.mono (show 2<=4 by omega);have r3:=hr.mono (show 3<=4 by omega);refine⟨_,(aC (aS (i:=2) hG.nd rfl (Or.inl rfl) (gB (pv 0) NTx.cl mRo GRo hr bRo .nil aL))
  (aC (tT (i:=3) (nl:=2) (fr:=[]) (Nc:=["number","row"]) (cl:=[]) (g:=(Ju K 2 (lL (jL 0) (lL (jL 1) Ir)))) hG.nd rfl rfl rfl ⟨rfl,rfl,by decide +kernel,by decide +kernel,fun x c h=>(by cases h),gD rfl,rfl,fun i n h=>(by simp at h)⟩
    (tN rfl men rfl (aA (pv 2) aB)) (fun C s3 H3 fp pins=>(lF rfl (dC (bL (i:=0) nE rfl (Or.inl rfl)) (dC (bL (i:=1) nE rfl (Or.inl rfl)) iY)))) (fun C s3 H3 fp pins=>(tU (cY (fZ (pv 1) T.cl mJ GJ r1 bJ .nil aL))))
    (fun C s3 H3 fp pins=>(pv 0)) rfl)
  (aC (aS (i:=4) hG.nd rfl (Or.inl rfl) (zV (jU (pv 1) (dM (aA (dG (v:=.ref aN) rfl mNO rfl) (aA (cX aB) aB))) Ae) rfl rfl (by simp) (by decide)))
  (aC (aS (i:=5) hG.nd rfl (Or.inl rfl) Nk)
  (aC (oW PassesOwn.never (bM Be (cL Ip rfl ml PySem.boot_len (aA (pv 4) aB)) aF (bO _)) (aC (aS (i:=6) hG.nd rfl (Or.inl rfl) (aG G1 r2 rfl m1 k1 b1 .nil aL (aA (pv 4) aB)))
  (aC (aS (i:=7) hG.nd rfl (Or.inl rfl) (Kr (pv 4) (pv 6) ⟨rfl,rfl,rfl,rfl⟩))
  (aC (Ag (jA hr) (pv 5) (pv 6) (pv 7) rfl)
  (aH (gA PassesOwn.never rfl (fB (aG G2 r1 rfl m2 k2 b2 .nil aL (aA (pv 2) (aA (pv 3) (aA (pv 6) aB))))) (lF rfl (dC (bL (i:=8) hG.nd rfl (Or.inl rfl)) (dC (bL (i:=9) hG.nd rfl (Or.inl rfl)) iY)))
   (aC (aS (i:=10) hG.nd rfl (Or.inl rfl) (aG G3 r3 rfl m3 k3 b3 .nil aL (aA (aU aX (pv 7) aF (fun _ _=>rfl)) (aA (aG G4 r2 rfl m4 k4 b4 .nil aL (aA (aU bY (pv 2) (aU aX (pv 8) aF (fun _ _=>rfl)) (fun _ _=>rfl)) aB)) aB))))
  (aH (cK (PW.pt (uO (lT (qU (jA hr) (pv 9) (pv 5))) (oV (PW.pt (jJ (lT (qU (jA hr) (pv 9) (pv 4))) (jG (cY (aG G5 r1 rfl m5 k5 b5 .nil aL (aA (pv 10) (aA (aU aX (jB (jA hr) (pv 4) (pv 9) (fun _ _=>rfl)) aF (fun _ _=>rfl)) aB)))))))))) (aH (Ag (jA hr) (pv 4) (pv 9) (dM (aA (pv 10) (aA (aY nH (aU aX (pv 7) aF (fun _ _=>rfl)) (cX (aA (pv 8) aB))) aB))) rfl)) bK)))))))))
  (aH (aZ (pv 5)))))))),?_⟩
 have len:=ok.len;have m20:=ok.m20;have k100:=ok.k100;obtain⟨dx,hn⟩:=nt.ob;refine⟨_,rfl,n,dx,_,rfl,hn,eT _ _ (by decide +kernel) (by decide +kernel),n,l,_,ds,rfl,nt,len,fun ra xs H1 s1 na ea Rb=>?_⟩;have lxs:=Rb.length;refine⟨_,rfl,ra,rfl,⟨_,SqL.of ea⟩,fun D hD=>?_⟩;have sD:=aI hD (.lst []);refine qZ (xs:=xs) (fun i zs H'=>bF H1 H'/\H' D=some (.lst zs)/\zs=(brT ds i).map fun e=>V.int (e.1:Int)) ⟨sD,aD,rfl⟩ (fun i zs H' h=>h.2.1) (fun i zs H' _ h=>h.1.seq (SqL.of ea)) ?_ ?_
 ·rintro i zs x H2 T2 hx ⟨s2,e2,ez⟩ hT C hC;have hi:i < ds.length:=by
   have:=(List.getElem?_eq_some_iff.mp hx).1;omega
  obtain⟨⟨k,u,v,p⟩,hd⟩:∃d,ds[i]?=some d:=⟨_,List.getElem?_eq_getElem hi⟩
  obtain⟨y,z',ey,rw,fz⟩:=Rb.at hd;have ex:x=.ref y:=by rw[ey] at hx;exact(Option.some.inj hx).symm
  subst ex;have lz:zs.length<=100:=by rw[ez,List.length_map];have:=Rv ds i;omega
  have sT:=aI hT (.tup [.int (i:Int),.ref y]);refine⟨T2,_,rfl,SqT.of aD,rfl,_,_,rfl,_,_,rfl,rfl,mZ.1,mZ.2,?_⟩;generalize upd H2 T2 (.tup [.int (i:Int),.ref y])=H3 at sT ⊢;obtain⟨dr,hy⟩:=id (rw.same (s2.trans sT));have e3:=sT _ _ e2;have bs:=Le hd;refine⟨_,rfl,k,y,dr,_,rfl,hy,(fC _ _ _ (by decide +kernel) (by decide +kernel) (by decide +kernel)),_,rfl,_,rfl,?_⟩
  by_cases hk:k=.pu
  ·rw[if_pos hk] at bs;refine L2.ifF (decide_eq_false (fun z=>z hk)) (hC _ _ ⟨s2.trans sT,e3,?_⟩);rw[ez,bs,List.append_nil]
  ·rw[if_neg hk] at bs;refine L2.ifT (decide_eq_true hk) ⟨_,rfl,e3,bH (by omega),hC _ _ ⟨(s2.trans sT).change hD,aD,?_⟩⟩;rw[ez,bs,List.map_append];rfl
 rintro zs H2 ⟨s2,eJ,rfl⟩;rw[lxs,show brT ds ds.length=brF ds from rfl] at eJ;have ea2:=s2 _ _ ea;have Rb2:=Rb.same s2;have s02:=s1.trans s2;refine fun Wd hWd=>?_;have nWd:=hWd;have s3:=aI hWd (.dK []);have e3:upd H2 Wd (.dK []) Wd=some (.dK []):=aD;generalize upd H2 Wd (.dK [])=H3 at s3 e3 ⊢;refine⟨_,rfl,zl9 0,fun l4 hl4=>?_⟩;have s4:=aI hl4 (.lst []);have e4:upd H3 l4 (.lst []) l4=some (.lst []):=aD;generalize upd H3 l4 (.lst [])=H4 at s4 e4 ⊢;refine⟨zl9 2,fun t5 ht5=>?_⟩;have s5:=aI ht5 (.tup [.ref aN,.ref l4]);have e5:upd H4 t5 (.tup [.ref aN,.ref l4]) t5=some (.tup [.ref aN,.ref l4]):=aD;generalize upd H4 t5 (.tup [.ref aN,.ref l4])=H5 at s5 e5 ⊢;have e3':=(s4.trans s5) _ _ e3;refine⟨e3',[(.inl (a:Int),.ref t5)],rfl,by show 1<=15;decide,?_⟩;have sx6:dI Wd H5 (upd H5 Wd (.dK (gC [] [(.inl (a:Int),.ref t5)]))):=fun b u h n=>by rw[aV n];exact h
 have e6:upd H5 Wd (.dK (gC [] [(.inl (a:Int),.ref t5)])) Wd=some (.dK [(.inl (a:Int),.ref t5)]):=aD;have s26:bF H2 (upd H5 Wd (.dK (gC [] [(.inl (a:Int),.ref t5)]))):=(s3.trans (s4.trans s5)).change nWd;have EW:dE K (upd H5 Wd (.dK (gC [] [(.inl (a:Int),.ref t5)]))) [(.inl (a:Int),.ref t5)] [(a,(0,1),[])]:=dE.x e3' (Nsq.dk _) sx6 (.cons (e:=(a,(0,1),[])) (SqT.of e5) (fN _) (s5 _ _ e4) .nil .nil);generalize upd H5 Wd (.dK (gC [] [(.inl (a:Int),.ref t5)]))=H6 at sx6 e6 s26 EW ⊢;refine fun Sd hSd=>?_;have nSd:=s26.free hSd;have nWS:Wd≠Sd:=bC e6 hSd;have s7:=aI hSd (.dK []);have e7:upd H6 Sd (.dK []) Sd=some (.dK []):=aD;generalize upd H6 Sd (.dK [])=H7 at s7 e7 ⊢;have s27:=s26.trans s7;refine⟨fun mm σ H'=>bF H2 H'/\∃(kvW kvS:List (Key × V)) (Wl Sl:List En) (z6 z7 z8 z9 z10:Option V),σ=[some (.ref n),some (.int (a:Int)),some (.ref ra),some (.ref D),some (.ref Wd),some (.ref Sd),z6,z7,z8,z9,z10]/\mm=m - Sl.length/\H' Wd=some (.dK kvW)/\H' Sd=some (.dK kvS)/\dE K H' kvW Wl/\dE K H' kvS Sl/\Dj m kb ds a Wl Sl,⟨m,s27,_,[],_,[],none,none,none,none,none,rfl,rfl,s7 _ _ e6,e7,EW.same s7,.nil,Dj.start ok ha⟩,?_⟩;rintro mm σ H8 ⟨s8,kvW,kvS,Wl,Sl,z6,z7,z8,z9,z10,rfl,rfl,hW,hS,EW,ES,DJ⟩;have lW:=EW.length;have lS:=ES.length;refine⟨_,rfl,Wd,kvW,rfl,hW,_,_,rfl,rfl,_,rfl,?_⟩
 by_cases c0:Wl=[]
 ·subst c0;refine L2.ifF (decide_eq_false (by show ¬((0:Int) < (kvW.length:Int));rw[lW];decide)) ?_;exact⟨_,rfl,q Sd kvS Sl H8 (s02.trans s8) (s02.free nSd) hS ES DJ⟩
 have l1:1<=Wl.length:=by cases Wl with | nil=>exact absurd rfl c0 | cons=>simp
 refine L2.ifT (decide_eq_true (by show (0:Int) < (kvW.length:Int);omega)) ?_;refine⟨fun σ' H'=>∃m',m' < m - Sl.length/\(bF H2 H'/\∃(kvW kvS:List (Key × V)) (Wl Sl:List En) (z6 z7 z8 z9 z10:Option V),σ'=[some (.ref n),some (.int (a:Int)),some (.ref ra),some (.ref D),some (.ref Wd),some (.ref Sd),z6,z7,z8,z9,z10]/\m'=m - Sl.length/\H' Wd=some (.dK kvW)/\H' Sd=some (.dK kvS)/\dE K H' kvW Wl/\dE K H' kvS Sl/\Dj m kb ds a Wl Sl),fun _ _ h=>h,?_⟩;have ndW:(eks Wl).Nodup:=(List.nodup_append.mp DJ.nd).1;have sl:=Eh DJ;refine⟨_,rfl,Wd,kvW,Wl,rfl,hW,EW,c0,ndW,fun e he=>?_,fun h H9 mh mi s9=>?_⟩
 ·have oe:=DJ.en e (List.mem_append_left _ he);exact⟨oe.lo,oe.bd.mono (Nat.le_trans (tD k100 (by have:=oe.st;omega)) (by decide))⟩
 have hW9:=s9 _ _ hW;have hS9:=s9 _ _ hS;obtain⟨v,e0,m0,k0,hv,EA⟩:=(EW.same s9).find (k:=h.1) (List.mem_map.mpr ⟨h,mh,rfl⟩);have:=dE.one ndW m0 mh k0;subst this;refine⟨_,rfl,Wd,rfl,.inl ⟨kvW,.inl hW9⟩,_,rfl,kvW,.inl (e0.1:Int),v,hW9,rfl,hv,?_⟩;have sxA:dI Wd H9 (upd H9 Wd (.dK (jW kvW (.inl (e0.1:Int))))):=fun b u h n=>by rw[aV n];exact h
 have hWA:upd H9 Wd (.dK (jW kvW (.inl (e0.1:Int)))) Wd=some (.dK (jW kvW (.inl (e0.1:Int)))):=aD;have s2A:bF H2 (upd H9 Wd (.dK (jW kvW (.inl (e0.1:Int))))):=(s8.trans s9).change nWd;have hSA:=sxA _ _ hS9 (Ne.symm nWS);have EWA:=((EW.same s9).drop (k:=e0.1)).x hW9 (Nsq.dk _) sxA;have ESA:=(ES.same s9).x hW9 (Nsq.dk _) sxA;have EAA:=EA.x hW9 (Nsq.dk _) sxA;generalize upd H9 Wd (.dK (jW kvW (.inl (e0.1:Int))))=HA at sxA hWA s2A hSA EWA ESA EAA ⊢;have DK0:=DJ.take mh mi;have nS:e0.1∉eks Sl:=fun z=>(List.nodup_append.mp DJ.nd).2.2 e0.1 (List.mem_map.mpr ⟨e0,mh,rfl⟩) e0.1 z rfl;have pS:nX Sl e0=Sl++[e0]:=by unfold nX;rw[if_neg nS]
 refine⟨_,rfl,_,rfl,_,rfl,Sd,_,rfl,Cl.k (k:=.inl (e0.1:Int)) hSA (bH (by omega)),?_⟩;have sxB:dI Sd HA (upd HA Sd (.dK (gQ kvS (.inl (e0.1:Int)) v))):=fun b u h n=>by rw[aV n];exact h
 have hSB:upd HA Sd (.dK (gQ kvS (.inl (e0.1:Int)) v)) Sd=some (.dK (gQ kvS (.inl (e0.1:Int)) v)):=aD;have s2B:bF H2 (upd HA Sd (.dK (gQ kvS (.inl (e0.1:Int)) v))):=s2A.change nSd;have hWB:=sxB _ _ hWA nWS;have EWB:=EWA.x hSA (Nsq.dk _) sxB;have ESB:=(ESA.put EAA).x hSA (Nsq.dk _) sxB;have EAB:=EAA.x hSA (Nsq.dk _) sxB;rw[pS] at ESB;generalize upd HA Sd (.dK (gQ kvS (.inl (e0.1:Int)) v))=HB at sxB hSB s2B hWB EWB ESB EAB ⊢;generalize gQ kvS (.inl (e0.1:Int)) v=kvS' at hSB ESB;generalize jW kvW (.inl (e0.1:Int))=kvW' at hWB EWB;generalize rR Wl e0.1=Wl' at EWB DK0;clear sxA hWA s2A hSA EWA ESA EAA sxB hS9 hW9 EA hv m0 k0 EW hW hS ES mi;have st0:=(DJ.en e0 (List.mem_append_left _ mh)).st;clear DJ mh ndW lW lS l1 c0 nS pS;obtain⟨h,eh⟩:∃h,h=e0:=⟨_,rfl⟩
 subst eh;refine⟨_,rfl,_,rfl,_,rfl,ra,D,xs,ds,brF ds,h.1,rfl,SqL.of (s2B _ _ ea2),Rb2.same s2B,SqL.of (s2B _ _ eJ),Wm ok.pt,Nat.le_trans (Hj ds) len,fun Lp ys HC sC nLp eLp SD=>?_⟩;have lys:=SD.length;have lsf:(stF (brF ds) h.1).length<=100:=Nat.le_trans (List.length_filterMap_le _ _) (Nat.le_trans (Hj ds) len);have nLW:Lp≠Wd:=fun z=>by rw[z] at nLp;rw[nLp] at hWB;cases hWB
 refine⟨Lp,rfl,⟨_,SqL.of eLp⟩,?_⟩;refine hV (xs:=ys) (fun j σ H'=>bF H2 H'/\H' Lp=some (.lst ys)/\Sds K H' ys (stF (brF ds) h.1)/\∃(kvW:List (Key × V)) (Wl:List En) (z8 z9 z10:Option V),σ=[some (.ref n),some (.int (a:Int)),some (.ref ra),some (.ref D),some (.ref Wd),some (.ref Sd),some (.int (h.1:Int)),some v,z8,z9,z10]/\H' Wd=some (.dK kvW)/\H' Sd=some (.dK kvS')/\dE K H' kvW Wl/\dE K H' kvS' (Sl++[h])/\rB K H' v h/\Dk m kb ds a Wl Sl h ((stF (brF ds) h.1).take j)) ⟨s2B.trans sC,eLp,SD,kvW',Wl',z8,z9,z10,rfl,sC _ _ hWB,sC _ _ hSB,EWB.same sC,ESB.same sC,EAB.same sC,DK0⟩ (fun j σ H' _ h=>SqL.of h.2.1) ?_ ?_
 ·rintro j x σ HD hx ⟨sD2,eL,SD,kvW,Wl,z8,z9,z10,rfl,hW,hS,EW,ES,EA,DK⟩;obtain⟨t,u,y,rfl,hy,ht,hu'⟩:=SD.get hx;have tk:(stF (brF ds) h.1).take (j+1)=(stF (brF ds) h.1).take j++[y]:=by rw[List.take_add_one,hy];rfl
  rw[tk];have my:=List.mem_of_getElem? hy;obtain⟨d,hd,hk,wy⟩:=Qv my;have md:=List.mem_of_getElem? hd;obtain⟨lq,bq,vq,nn⟩:=Ak ok md;obtain⟨dW,dS⟩:=Wr DK;have oh:=DK.en h (by simp);have bh:=oh.bd.mono (tD k100 (by omega));obtain⟨t0,lr,rr,ws,rfl,ht0,fl,hr0,sw⟩:=EA;obtain⟨yr,zr,ey,rwr,fzr⟩:=(Rb2.same sD2).at hd;refine⟨t,_,rfl,ht,rfl,_,_,rfl,_,_,rfl,rfl,?_⟩;refine⟨_,rfl,t0,_,_,_,rfl,rfl,ht0,rfl,_,rfl,_,rfl,u,_,_,_,rfl,rfl,hu',rfl,ra,xs,_,_,rfl,rfl,SqL.of (sD2 _ _ ea2),cI ey,?_⟩;refine⟨yr,zr,_,_,_,_,rfl,rwr,fzr,fun rl frl=>?_⟩;have frl:Fq K HD rl (nU d):=frl;refine⟨lr,rl,_,_,2041,100,rfl,fl,frl,oh.lo.pos,lq.pos,bh,bq.mono k100,by omega,fun pl HE sE eE=>?_⟩;have fpl:Fq K HE pl (Mq.fL h.2.1 (nU d)):=Fq.of eE;have lpl:=Mq.jM oh.lo.pos lq.pos;have bpl:Mq.Bd 2200 (Mq.fL h.2.1 (nU d)):=(Mq.mD bh (bq.mono k100) oh.lo.pos lq.pos).mono (by omega);have vpl:Mq.val (Mq.fL h.2.1 (nU d))=Mq.val h.2.1+jH d:=by rw[Mq.jN oh.lo.pos lq.pos,vq]
  have s2E:=sD2.trans sE;have hWE:=sE _ _ hW;have hSE:=sE _ _ hS;have EWE:=EW.same sE;have ESE:=ES.same sE;have lws:=sw.length;have hst:=oh.st;have lkw:=EW.length;have KEEP:rB K HE (.ref t0) h:=⟨t0,lr,rr,ws,rfl,sE.seqT ht0,sE.fq fl,sE _ _ hr0,sw.same sE⟩
  by_cases c1:y.2∈eks (Sl++[h])
  ·obtain⟨v1,e1,m1',k1',hv1,_⟩:=ESE.find c1;refine⟨_,rfl,_,rfl,Sd,_,rfl,gY.k (k:=.inl (y.2:Int)) hSE,?_⟩;rw[hv1];refine⟨_,rfl,dX (dX ⟨s2E,sE _ _ eL,SD.same sE,kvW,Wl,_,_,_,rfl,hWE,hSE,EWE,ESE,KEEP,DK.skip fun d' hd'=>?_⟩)⟩;have:d'=d:=by rw[hd] at hd';exact(Option.some.inj hd').symm
   subst this;refine⟨e1,List.mem_append_right _ m1',k1',?_⟩;rcases List.mem_append.mp m1' with z | z
   ·have:=DK.sh e1 z;grind
   ·have:e1=h:=by simpa using z
    rw[this];grind
  ·have hn1:=ESE.lack c1;refine⟨_,rfl,_,rfl,Sd,_,rfl,gY.k (k:=.inl (y.2:Int)) hSE,?_⟩;rw[hn1];refine⟨_,rfl,fM ?_⟩;have PUT:∀(nw:∀e∈Wl,e.1=y.2->Mq.val h.2.1+jH d<=Mq.val e.2.1) (X:St->Hp->Prop),(∀σ' H',(bF H2 H'/\H' Lp=some (.lst ys)/\Sds K H' ys (stF (brF ds) h.1)/\∃(kvW:List (Key × V)) (Wl:List En) (z8 z9 z10:Option V),σ'=[some (.ref n),some (.int (a:Int)),some (.ref ra),some (.ref D),some (.ref Wd),some (.ref Sd),some (.int (h.1:Int)),some (.ref t0),z8,z9,z10]/\H' Wd=some (.dK kvW)/\H' Sd=some (.dK kvS')/\dE K H' kvW Wl/\dE K H' kvS' (Sl++[h])/\rB K H' (.ref t0) h/\Dk m kb ds a Wl Sl h ((stF (brF ds) h.1).take j++[y]))->X σ' H')->∀(l1 l2 t9:Addr),HE l1=none->upd HE l1 (.lst [.ref u]) l2=none->upd (upd HE l1 (.lst [.ref u])) l2 (.lst (ws++[.ref u])) t9=none->X [some (.ref n),some (.int (a:Int)),some (.ref ra),some (.ref D),some (.ref Wd),some (.ref Sd),some (.int (h.1:Int)),some (.ref t0),some (.ref u),some (.int (y.2:Int)),some (.ref pl)] (upd (upd (upd (upd HE l1 (.lst [.ref u])) l2 (.lst (ws++[.ref u]))) t9 (.tup [.ref pl,.ref l2])) Wd (.dK (gQ kvW (.inl (y.2:Int)) (.ref t9)))):=by
    intro nw X hX l1 l2 t9 hl1 hl2 ht9;have sF:=aI hl1 (.lst [.ref u]);have sG:=aI hl2 (.lst (ws++[.ref u]));have eG:upd (upd HE l1 (.lst [.ref u])) l2 (.lst (ws++[.ref u])) l2=some (.lst (ws++[.ref u])):=aD;have sH:=aI ht9 (.tup [.ref pl,.ref l2]);have eH:upd (upd (upd HE l1 (.lst [.ref u])) l2 (.lst (ws++[.ref u]))) t9 (.tup [.ref pl,.ref l2]) t9=some (.tup [.ref pl,.ref l2]):=aD;generalize upd HE l1 (.lst [.ref u])=HF at sF sG eG sH eH ⊢;generalize upd HF l2 (.lst (ws++[.ref u]))=HG at sG eG sH eH ⊢;generalize upd HG t9 (.tup [.ref pl,.ref l2])=HH at sH eH ⊢;have sEH:=sF.trans (sG.trans sH);have hWH:=sEH _ _ hWE;have sx:dI Wd HH (upd HH Wd (.dK (gQ kvW (.inl (y.2:Int)) (.ref t9)))):=fun b u h n=>by rw[aV n];exact h
    have stu:Sts K HH [.ref u] [y.1]:=.cons (n:=y.1.1) (w:=y.1.2) ((sE.trans sEH).seqT hu') .nil;have EN:rB K HH (.ref t9) (y.2,Mq.fL h.2.1 (nU d),h.2.2++[y.1]):=⟨t9,pl,l2,_,rfl,SqT.of eH,sEH.fq fpl,sH _ _ eG,(sw.same (sE.trans sEH)).app stu⟩
    refine hX _ _ ⟨(s2E.trans sEH).change nWd,sx _ _ ((sE.trans sEH) _ _ eL) nLW,(SD.same (sE.trans sEH)).x hWH (Nsq.dk _) sx,_,nX Wl (y.2,Mq.fL h.2.1 (nU d),h.2.2++[y.1]),_,_,_,rfl,aD,sx _ _ (sEH _ _ hSE) (Ne.symm nWS),((EWE.same sEH).put EN).x hWH (Nsq.dk _) sx,(ESE.same sEH).x hWH (Nsq.dk _) sx,(KEEP.same sEH).x hWH (Nsq.dk _) sx,DK.more ok hd hk wy c1 nw⟩
   by_cases c2:y.2∈eks Wl
   ·obtain⟨v2,e2,m2',k2',hv2,t2,lr2,rr2,ws2,rfl,ht2,fl2,_⟩:=EWE.find c2;have o2:=DK.en e2 (List.mem_append_left _ m2');have b2:=o2.bd.mono (tD k100 (by have:=o2.st;rw[List.length_append] at this;simp only[List.length_cons,List.length_nil] at this;omega));have vl:=zR lpl.pos o2.lo.pos;rw[vpl] at vl;refine⟨_,rfl,_,rfl,Wd,_,rfl,gY.k (k:=.inl (y.2:Int)) hWE,?_⟩;rw[hv2];refine⟨_,rfl,dX ⟨_,rfl,_,rfl,_,rfl,Wd,_,rfl,.inl ⟨kvW,_,.inl hWE,rfl,hv2.symm⟩,t2,_,_,_,rfl,rfl,ht2,rfl,?_⟩⟩;refine⟨pl,lr2,_,_,2200,2041,rfl,fpl,fl2,bpl,b2,by omega,_,rfl,?_⟩
    by_cases c3:(Mq.fL h.2.1 (nU d)).1*e2.2.1.2 < e2.2.1.1*(Mq.fL h.2.1 (nU d)).2
    ·rw[decide_eq_true c3];have lt:=vl.mp c3;have nw:∀e∈Wl,e.1=y.2->Mq.val h.2.1+jH d<=Mq.val e.2.1:=fun e he ke=>by
      rw[dE.one (List.nodup_append.mp DK.nd).1 he m2' (ke.trans k2'.symm)];exact Rat.le_of_lt lt
     refine fM ?_;refine⟨_,rfl,_,rfl,t0,_,_,_,rfl,rfl,sE.seqT ht0,rfl,_,rfl,zl9 1,fun l1 hl1=>?_⟩;refine⟨rr,l1,_,_,rfl,rfl,(sE.trans (aI hl1 _)) _ _ hr0,aD,Nat.le_of_lt (bH (by rw[lws];simp only[List.length_cons,List.length_nil];omega)),fun l2 hl2=>?_⟩;refine⟨zl9 2,fun t9 ht9=>?_⟩;refine⟨_,rfl,_,rfl,Wd,_,rfl,Cl.k (k:=.inl (y.2:Int)) (((aI hl1 _).trans ((aI hl2 _).trans (aI ht9 _))) _ _ hWE) (bH (by rw[lkw];omega)),?_⟩;exact PUT nw _ (fun _ _ h=>h) l1 l2 t9 hl1 hl2 ht9
    ·rw[decide_eq_false c3];refine dX ⟨s2E,sE _ _ eL,SD.same sE,kvW,Wl,_,_,_,rfl,hWE,hSE,EWE,ESE,KEEP,DK.skip fun d' hd'=>?_⟩;have:d'=d:=by rw[hd] at hd';exact(Option.some.inj hd').symm
     subst this;refine⟨e2,List.mem_append_left _ m2',k2',?_⟩;have nlt:=fun z=>c3 (vl.mpr z);rcases Rat.le_total (a:=Mq.val e2.2.1) (b:=Mq.val h.2.1+jH d') with q1 | q1
     ·exact q1
     ·by_cases q2:Mq.val h.2.1+jH d'=Mq.val e2.2.1
      ·rw[q2];exact Rat.le_refl
      ·exact absurd (Rat.lt_of_le_of_ne q1 q2) nlt
   ·have hn2:=EWE.lack c2;have nw:∀e∈Wl,e.1=y.2->Mq.val h.2.1+jH d<=Mq.val e.2.1:=fun e he ke=>absurd (by rw[<- ke];exact List.mem_map.mpr ⟨e,he,rfl⟩) c2;refine⟨_,rfl,_,rfl,Wd,_,rfl,gY.k (k:=.inl (y.2:Int)) hWE,?_⟩;rw[hn2];refine⟨_,rfl,fM (fM ?_)⟩;refine⟨_,rfl,_,rfl,t0,_,_,_,rfl,rfl,sE.seqT ht0,rfl,_,rfl,zl9 1,fun l1 hl1=>?_⟩;refine⟨rr,l1,_,_,rfl,rfl,(sE.trans (aI hl1 _)) _ _ hr0,aD,Nat.le_of_lt (bH (by rw[lws];simp only[List.length_cons,List.length_nil];omega)),fun l2 hl2=>?_⟩;refine⟨zl9 2,fun t9 ht9=>?_⟩;refine⟨_,rfl,_,rfl,Wd,_,rfl,Cl.k (k:=.inl (y.2:Int)) (((aI hl1 _).trans ((aI hl2 _).trans (aI ht9 _))) _ _ hWE) (bH (by rw[lkw];omega)),?_⟩;exact PUT nw _ (fun _ _ h=>h) l1 l2 t9 hl1 hl2 ht9
 ·rintro σ HD ⟨sD2,eL,SD,kvW,Wl,z8,z9,z10,rfl,hW,hS,EW,ES,EA,DK⟩;rw[lys,List.take_length] at DK;have DJ':=DK.done ok;have:=Eh DJ';rw[List.length_append] at this;simp only[List.length_cons,List.length_nil] at this;exact⟨m - (Sl++[h]).length,by rw[List.length_append];simp only[List.length_cons,List.length_nil];omega,sD2,kvW,kvS',Wl,Sl++[h],_,_,_,_,_,rfl,rfl,hW,hS,EW,ES,DJ'⟩
def Nw (K:Frag):Sp:=fun vs H Q _=>∃(l:Addr) (ns:List Int) (m:Int),vs=[.ref l,.int m]/\SqL K H l (ns.map V.int)/\ns.length<=100/\(∀x∈ns,0<=x/\x < m)/\∀H',bF H H'->Q .non H'
theorem Xo {dV:Value}(F:bZ K "refuse_points" "refuse_points" sRP dV f fd)(ma:mg "all"=none)(G1:aM P w K mg base CX0 2 g1 gd1 ["thing","bound"] Wk)(b1:aQ K gd1 ["thing","bound"] [])(k1:kI9 K g1)(m1:mI9 mg "is_number_below" g1) :
  aM P w K mg base CX 3 f fd ["some","many"] (Nw K):=by
 refine F.ok qe6 (fun vs H Q E h=>?_) fun cdv A outer s H vs Q E hr h=>?_
 ·obtain⟨_,_,_,rfl,_⟩:=h;rfl
 obtain⟨l,ns,m,rfl,hl,h100,hn,q⟩:=h;refine⟨_,(aH (cK (eU (cY (cL (Nt rfl) rfl ma PyProof.Rows.boot_all (aA (gL (nl:=1) (fr:=[1]) (Nc:=["point","many"]) (cl:=[("many",s.heap.objs.size+1)]) rfl ⟨rfl,rfl,by decide +kernel,by decide +kernel,fun x c h=>h,gD rfl,rfl,fun i n h=>match i,h with | 0,h=>by cases h;exact⟨1,rfl,rfl,rfl,rfl,.inl rfl⟩ | k+1,h=>by rw[show 1+(k+1)=k+2 by omega] at h;cases h⟩
    (fB (pv 0)) (fun C s3 H3 fp pins=>(bL (i:=0) wG rfl (Or.inl rfl))) (fun C s3 H3 fp pins=>gK)
    (fun C s3 H3 fp pins=>(aG G1 hr rfl m1 k1 b1 .nil aL (aA (pv 0) (aA (pv 1) aB))))) aB)))) (aH fR) bK)),?_⟩
 refine⟨_,rfl,l,rfl,⟨_,hl⟩,fun D hD=>?_⟩;have sD:=aI hD (.lst []);refine gV (xs:=ns.map V.int) (fun k zs H'=>bF H H'/\H' D=some (.lst zs)/\zs=(List.replicate k true).map V.bl) ⟨sD,aD,rfl⟩ (fun k zs H' h=>h.2.1) (fun k zs H' _ h=>h.1.seq hl) ?_ ?_
 ·rintro k zs x H1 hx ⟨s1,e1,rfl⟩ C hC;have hk:k < ns.length:=by have:=(List.getElem?_eq_some_iff.mp hx).1;rwa [List.length_map] at this
  obtain⟨y,rfl,y0,y1⟩:∃y,x=.int y/\0<=y/\y < m:=by
   obtain⟨y,hy,ey⟩:=List.mem_map.mp (List.mem_of_getElem? hx);exact⟨y,ey.symm,hn y hy⟩
  refine⟨gG.1,gG.2,fM ?_⟩;refine⟨_,rfl,_,rfl,y,m,rfl,y0,y1,e1,bH (by rw[List.length_map,List.length_replicate];omega),hC _ _ ⟨s1.change hD,aD,?_⟩⟩;rw[List.replicate_succ',List.map_append];rfl
 ·rintro zs H1 ⟨s1,e1,rfl⟩;refine⟨D,_,rfl,SqL.of e1,_,rfl,L2.ifF ?_ ?_⟩
  ·simp
  ·exact q _ s1
theorem Lr {f:Addr}{fd:FuncData}(F:aM P w K mg base CX 3 f fd ["some","many"] (Nw K)):aM P w K mg base CX 3 f fd ["some","many"] (Wi K):=
 F.imp fun vs H Q E ⟨l,i,j,m,hv,hl,i0,i1,j0,j1,q⟩=>⟨l,[i,j],m,hv,hl,by show 2<=100;decide,fun x hx=>by
  rcases List.mem_cons.mp hx with z | z
  ·rw[z];exact⟨i0,i1⟩
  ·have:x=j:=by simpa using z
   rw[this];exact⟨j0,j1⟩,q⟩
theorem Wv {m kb a:Nat}{ds:List RD}{S:List En}(h:Dj m kb ds a [] S){p:Nat}(c:Cn ds a p):p∈eks S:=by
 have st:∀{q:Nat} {x:Rat},Kn ([]++S) q x->q∈eks S:=fun {q x} ⟨e,he,k,_⟩=>by rw[<- k];exact List.mem_map.mpr ⟨e,he,rfl⟩
 have key:=Cn.ind (R:=fun p q=>p∈eks S↔q∈eks S) (fun _=>Iff.rfl) (fun _ _=>Iff.symm) (fun _ _ _=>Iff.trans) (fun d hd hk=>⟨fun z=>?_,fun z=>?_⟩) c
 ·obtain⟨e,he,ea⟩:=h.ia;exact key.mp (by rw[<- ea];exact List.mem_map.mpr ⟨e,he,rfl⟩)
 ·obtain⟨e,he,ke⟩:=List.mem_map.mp z;exact st ((h.cm e he d hd hk).1 ke.symm)
 ·obtain⟨e,he,ke⟩:=List.mem_map.mp z;exact st ((h.cm e he d hd hk).2 ke.symm)
def Ko (CN:Addr)(K:Frag):Sp:=fun vs H Q _=>∃(n l:Addr) (m kb a:Nat) (ds:List RD),vs=[.ref n,.int (a:Int)]/\fY CN K H n l (m:Int) ds/\vI m kb ds/\a < m/\(∀p,p < m->Cn ds a p)/\
 ∀t zs ps H',bF H H'->H' t=some (.lst zs)->Fqs K H' zs ps->ps.length=m->(∀p,p < m->Mq.Low (ps.getD p (0,1))/\Mq.Bd 2041 (ps.getD p (0,1))/\vD ds a p (Mq.val (ps.getD p (0,1))))->Q (.ref t) H'
theorem qW:(["point","reached"]:List Str).Nodup:=by decide +kernel
abbrev yD:Stmt:=top 72
theorem Kk:aT ["net","a","reached"] ["net","a"] (aE yD):=sK9 rfl rfl rfl rfl (by decide +kernel)
theorem Rq {dV:Value}(F:bZ K "distances" "distances" yD dV f fd){CN:Addr}(NTx:NT K mg CN)(mr:mg "range"=none){gMa:Addr}{gdMa:FuncData}(GMa:aM P w K mg base CX0 1 gMa gdMa ["self"] (rC CN K))(bMa:aQ K gdMa ["self"] [])(mMa:iB K CN "many" gMa)(G1:aM P w K mg base CX0 3 g1 gd1 ["some","many"] (Nw K))(b1:aQ K gd1 ["some","many"] [])(k1:kI9 K g1)(m1:mI9 mg "refuse_points" g1)(G2:aM P w K mg base CX0 5 g2 gd2 ["net","a"] (Fc CN K))(b2:aQ K gd2 ["net","a"] [])(k2:kI9 K g2)(m2:mI9 mg "least_from" g2) :
  aM P w K mg base CX 6 f fd ["net","a"] (Ko CN K):=by
 refine F.ok Kk (fun vs H Q E h=>?_) fun cdv A outer s H vs Q E hr h=>?_
 ·obtain⟨_,_,_,_,_,_,rfl,_⟩:=h;rfl
 obtain⟨n,l,m,kb,a,ds,rfl,nt,ok,ha,cn,q⟩:=h;have r1:=hr.mono (show 1<=5 by omega);have r3:=hr.mono (show 3<=5 by omega);refine⟨_,(aC (bU (aG G1 r3 rfl m1 k1 b1 .nil aL (aA (cX (aA (pv 1) aB)) (aA (gB (pv 0) NTx.cl mMa GMa r1 bMa .nil aL) aB))))
  (aC (aS (i:=2) Kk.nd rfl (Or.inr rfl) (aG G2 hr rfl m2 k2 b2 .nil aL (aA (pv 0) (aA (pv 1) aB))))
  (aH (aZ (gL (nl:=1) (fr:=[2]) (Nc:=["point","reached"]) (cl:=[("reached",s.heap.objs.size+1)]) rfl ⟨rfl,rfl,by decide +kernel,by decide +kernel,fun x c h=>h,gD rfl,rfl,fun i n h=>match i,h with | 0,h=>by cases h;exact⟨2,rfl,rfl,rfl,rfl,.inl rfl⟩ | k+1,h=>by rw[show 1+(k+1)=k+2 by omega] at h;cases h⟩
    (iK rfl mr (aA (gB (pv 0) NTx.cl mMa GMa r1 bMa .nil aL) aB)) (fun C s3 H3 fp pins=>(bL (i:=0) qW rfl (Or.inl rfl))) (fun C s3 H3 fp pins=>gK)
    (fun C s3 H3 fp pins=>(kO (lT (Vm (jA hr) (pv 0) (pv 1))) (aU (oQ (K:=K) rfl) (jB (jA hr) (pv 1) (pv 0) (fun _ _=>rfl)) aF (fun _ _=>rfl)) Dq))))))),?_⟩
 have m20:=ok.m20;have k100:=ok.k100;refine⟨_,rfl,zl9 1,fun L1 hL1=>?_⟩;have s1:=aI hL1 (.lst [.int (a:Int)]);have e1:upd H L1 (.lst [.int (a:Int)]) L1=some (.lst [.int (a:Int)]):=aD;generalize upd H L1 (.lst [.int (a:Int)])=H1 at s1 e1 ⊢;obtain⟨dn,hn⟩:=(nt.same s1).ob;refine⟨_,rfl,n,dn,_,rfl,hn,eT _ _ (by decide +kernel) (by decide +kernel),n,l,_,ds,rfl,nt.same s1,?_⟩;refine⟨L1,[(a:Int)],_,rfl,SqL.of e1,by show 1<=100;decide,fun x hx=>?_,fun H2 s2=>?_⟩
 ·have:x=(a:Int):=by simpa using hx
  rw[this];omega
 have s02:=s1.trans s2;refine⟨_,rfl,_,rfl,n,l,m,kb,a,ds,rfl,nt.same s02,ok,ha,fun sd kvs S H3 s3 nsd esd ES DJ=>?_⟩;have s03:=s02.trans s3;obtain⟨dn3,hn3⟩:=(nt.same s03).ob;refine⟨_,rfl,n,dn3,_,rfl,hn3,eT _ _ (by decide +kernel) (by decide +kernel),n,l,_,ds,rfl,nt.same s03,(m:Int),rfl,by omega,by omega,fun D hD=>?_⟩;rw[Int.toNat_natCast];have sD:=aI hD (.lst []);refine nT (n:=m) (fun i zs H'=>bF H3 H'/\H' D=some (.lst zs)/\∃ps,Fqs K H' zs ps/\ps.length=i/\∀p,p < i->Mq.Low (ps.getD p (0,1))/\Mq.Bd 2041 (ps.getD p (0,1))/\vD ds a p (Mq.val (ps.getD p (0,1)))) ⟨sD,aD,[],.nil,rfl,(fun p hp=>by omega)⟩ (fun i zs H' h=>h.2.1) ?_ ?_
 ·rintro i zs H4 hi ⟨s4,e4,ps,FP,lp,hp⟩ C hC;rw[Int.zero_add];obtain⟨v,e,me,ke,hv,t,lr,rr,ws,rfl,ht,fl,_⟩:=(ES.same s4).find (k:=i) (Wv DJ (cn i hi));have oe:=DJ.en e me;have sl:=Eh DJ;have lz:=FP.length;refine⟨gG.1,gG.2,fM ?_⟩;refine⟨_,rfl,_,rfl,sd,_,rfl,gY.k (k:=.inl (i:Int)) (s4 _ _ esd),_,rfl,?_⟩;rw[hv];refine fM ⟨_,rfl,_,rfl,sd,_,rfl,.inl ⟨kvs,.inl (i:Int),.inl (s4 _ _ esd),rfl,hv.symm⟩,t,_,_,_,rfl,rfl,ht,rfl,?_⟩;refine⟨e4,bH (by omega),hC _ _ ⟨s4.change hD,aD,ps++[e.2.1],(FP.app (.cons fl .nil)).upd e4,by rw[List.length_append,lp];rfl,fun p hpp=>?_⟩⟩;rw[List.getD_eq_getElem?_getD]
  by_cases c:p < i
  ·rw[List.getElem?_append_left (by omega),<- List.getD_eq_getElem?_getD];exact hp p c
  ·have:p=i:=by omega
   subst this;rw[List.getElem?_append_right (by omega),lp,Nat.sub_self];refine⟨oe.lo,oe.bd.mono (tD k100 (by have:=oe.st;omega)),?_⟩;have:=oe.rd.road;rw[ke] at this;exact this
 rintro zs H4 ⟨s4,e4,ps,FP,lp,hp⟩;exact q D zs ps H4 (s03.trans s4) e4 FP lp hp
abbrev yL:Stmt:=top 77
theorem Oh:aT ["_law_script","_law_k","_law_found"] ["_law_script","_law_k"] (aE yL):=sK9 rfl rfl rfl rfl (by decide +kernel)
def Eo (K:Frag):Sp:=fun vs H Q _=>∃(a:Addr) (ns:List Int) (j:Int) (k:Nat),vs=[.ref a,.int j]/\j=(k:Int)/\SqL K H a (ns.map V.int)/\ns.length<=63/\∀i H',bF H H'->Q (.int i) H'
theorem Qf {dV:Value}(F:bZ K "_law_draw" "_law_draw" yL dV f fd) :
  aM P w K mg base CX 1 f fd ["_law_script","_law_k"] (Eo K):=by
 refine F.ok Oh (fun vs H Q E h=>?_) fun cdv A outer s H vs Q E hr h=>?_
 ·obtain⟨_,_,_,_,rfl,_⟩:=h;rfl
 obtain⟨a,ns,j,k,rfl,hj,hS,h63,q⟩:=h;have hu:=hr.units;refine⟨_,(aC (aS (i:=2) Oh.nd rfl (Or.inl rfl) (iS jZ (pv 0) (iE (pv 1)) (iE (aY dP (pv 1) aF))))
  (aC (cK (bM (zL hu) (pv 2) (cX aB) (bO _)) (aH (aZ aF)) bK)
  (aH (aZ (aU bY (pv 2) aF (fun _ _=>rfl)))))),?_⟩
 refine⟨_,rfl,_,rfl,j,rfl,_,rfl,_,_,rfl,rfl,j+1,rfl,a,_,rfl,hS,fun l hl=>?_⟩;have s1:=aI hl (.lst (mV (ns.map V.int) (some j) (some (j+1))));have e1:upd H l (.lst (mV (ns.map V.int) (some j) (some (j+1)))) l=some (.lst (mV (ns.map V.int) (some j) (some (j+1)))):=aD;obtain⟨ms,em,lm⟩:=Cd ns (some j) (some (j+1));rw[em] at e1 s1 ⊢;generalize upd H l (.lst (ms.map V.int))=H1 at e1 s1 ⊢;refine⟨_,rfl,zl9 0,fun e he=>?_⟩;have s2:=aI he (.lst []);refine Bb (s2.seq (SqL.of e1)) (SqL.of aD) ⟨_,rfl,?_⟩;rcases ms with _ | ⟨m,ms⟩
 ·exact fM (q 0 _ (s1.trans s2))
 ·refine dX ⟨_,rfl,l,_,_,_,rfl,rfl,s2.seq (SqL.of e1),cI (j:=0) rfl,q m _ (s1.trans s2)⟩
abbrev sU:Stmt:=top 78
theorem uV:aT ["_law_cell","_law_turn","_law_many","_law_left","_law_k","_law_by_here","_law_prime","_law_x"] ["_law_cell","_law_turn","_law_many"] (aE sU):=sK9 rfl rfl rfl rfl (by decide +kernel)
def xM:Sp:=fun vs H Q _=>∃c t m:Int,vs=[.int c,.int t,.int m]/\0<=t/\t<=9/\0 < m/\∀r H',0<=r->r < m->bF H H'->Q (.int r) H'
theorem Zs {a0 a1 a2 a3 a4 a5 a6 a7 a8 a9:Int}(hp:0 < a0/\0 < a1/\0 < a2/\0 < a3/\0 < a4/\0 < a5/\0 < a6/\0 < a7/\0 < a8/\0 < a9)(hm:a0 < 1000000/\a1 < 1000000/\a2 < 1000000/\a3 < 1000000/\a4 < 1000000/\a5 < 1000000/\a6 < 1000000/\a7 < 1000000/\a8 < 1000000/\a9 < 1000000){t:Int}(h0:0<=t)(h9:t<=9) :
  ∃v,atI [V.int a0,.int a1,.int a2,.int a3,.int a4,.int a5,.int a6,.int a7,.int a8,.int a9] t=some (.int v)/\0 < v/\v < 1000000:=by
 have:t=0\/t=1\/t=2\/t=3\/t=4\/t=5\/t=6\/t=7\/t=8\/t=9:=by omega
 rcases this with rfl | rfl | rfl | rfl | rfl | rfl | rfl | rfl | rfl | rfl
 all_goals exact⟨_,rfl,by omega,by omega⟩
abbrev l48:List Int:=[48271,69621,16807,40692,39373,30269,27183,60013,51749,35969]
abbrev l99:List Int:=[999983,999979,999961,999959,999953,999931,999917,999907,999883,999863]
@[irreducible] def md1:Stmt:=(aP sU).getD 1 (.Pass ⟨0,0,0,0⟩)
@[irreducible] def md2:Stmt:=(aP sU).getD 2 (.Pass ⟨0,0,0,0⟩)
def md0:Stmt:=(aP sU).getD 0 (.Pass ⟨0,0,0,0⟩)
def md3:Stmt:=(aP sU).getD 3 (.Pass ⟨0,0,0,0⟩)
def md4:Stmt:=(aP sU).getD 4 (.Pass ⟨0,0,0,0⟩)
theorem Zq:aP sU=[md0,md1,md2,md3,md4]:=by unfold md1 md2;rfl
theorem Xd:∃(q q2 p2 p3 p:Pos) (l:List (Int × _ × Pos)),md1=.Assign [.Name "_law_by_here" q] (.Subscript (.List (l.map fun q=>Expr.Constant (.int q.1) q.2.1 q.2.2) p2) (.Name "_law_turn" q2) p3) p/\l.map (fun q=>V.int q.1)=l48.map V.int:=by
 unfold md1;exact⟨_,_,_,_,_,[(48271,_,_),(69621,_,_),(16807,_,_),(40692,_,_),(39373,_,_),(30269,_,_),(27183,_,_),(60013,_,_),(51749,_,_),(35969,_,_)],rfl,rfl⟩
theorem Wa:∃(q q2 p2 p3 p:Pos) (l:List (Int × _ × Pos)),md2=.Assign [.Name "_law_prime" q] (.Subscript (.List (l.map fun q=>Expr.Constant (.int q.1) q.2.1 q.2.2) p2) (.Name "_law_turn" q2) p3) p/\l.map (fun q=>V.int q.1)=l99.map V.int:=by
 unfold md2;exact⟨_,_,_,_,_,[(999983,_,_),(999979,_,_),(999961,_,_),(999959,_,_),(999953,_,_),(999931,_,_),(999917,_,_),(999907,_,_),(999883,_,_),(999863,_,_)],rfl,rfl⟩
theorem Wo {dV:Value}(F:bZ K "_law_mix" "_law_mix" sU dV f fd)(mr:mg "range"=none) :
  aM P w K mg base CX 1 f fd ["_law_cell","_law_turn","_law_many"] xM:=by
 refine F.ok uV (fun vs H Q E h=>?_) fun cdv A outer s H vs Q E hr h=>?_
 ·obtain⟨_,_,_,rfl,_⟩:=h;rfl
 obtain⟨c,t,m,rfl,h0,h9,hm,q⟩:=h;rw[Zq];obtain⟨q1,q2,q3,q4,q5,l1,e1,eo1⟩:=Xd;obtain⟨r1,r2,r3,r4,r5,l2,e2,eo2⟩:=Wa;rw[e1,e2];refine⟨_,(aC (cK (bM gH (aY lP (pv 0) aF) aF (bO _)) (aC (aS (i:=3) uV.nd rfl (Or.inl rfl) (aY oU (pv 0) aF))
  (aC (gA PassesOwn.never rfl (iK rfl mr (aA (pv 1) aB)) (bL (i:=4) uV.nd rfl (Or.inl rfl))
   (aH (aS (i:=3) uV.nd rfl (Or.inl rfl) (aY oU (pv 3) (aY lQ aF aF)))))
  (aH (aZ (aY kA (pv 3) (pv 2)))))) bK)
  (aC (aS (i:=5) uV.nd rfl (Or.inl rfl) (aU bY (cX (zD _ l1)) (pv 1) (fun _ _=>rfl)))
  (aC (aS (i:=6) uV.nd rfl (Or.inl rfl) (aU bY (cX (zD _ l2)) (pv 1) (fun _ _=>rfl)))
  (aC (aS (i:=7) uV.nd rfl (Or.inl rfl) (aY lP (pv 0) aF))
  (aH (aZ (aY kA (aY oU (aY kA (aY dP (aY dP (aY cQ (aY uF aF (pv 7)) (pv 7)) (aY cQ (pv 5) (pv 7))) (aY uF aF (aY dP (pv 1) aF))) (pv 6)) aF) (pv 2)))))))),?_⟩
 rw[eo1,eo2];have hf:∀u:Int,0<=u.fmod m/\u.fmod m < m:=fun u=>⟨Int.fmod_nonneg_of_pos u hm,Int.fmod_lt_of_pos u hm⟩
 have m0:m≠0:=by omega
 refine⟨_,rfl,_,_,rfl,rfl,(show (0:Int) < 2 by decide),rfl,_,rfl,sR (fun _=>?_) (fun _=>?_)⟩
 ·refine⟨_,rfl,_,_,rfl,rfl,⟨by decide,by decide⟩,?_⟩;refine⟨_,rfl,t,rfl,by omega,by omega,?_⟩;refine jX (n:=t.toNat) (fun i σ H'=>H'=H/\∃u z,σ=[some (.int c),some (.int t),some (.int m),some (.int u),z,none,none,none]) ⟨rfl,_,none,rfl⟩ ?_ ?_
  ·rintro i σ H' hi ⟨rfl,u,z,rfl⟩;exact⟨_,rfl,_,_,rfl,rfl,⟨by decide,by decide,by decide⟩,_,_,rfl,rfl,⟨by decide,by decide⟩,rfl,_,_,rfl⟩
  ·rintro σ H' ⟨rfl,u,z,rfl⟩;exact⟨_,rfl,_,rfl,_,_,rfl,rfl,m0,q _ _ (hf u).1 (hf u).2 (bF.refl _)⟩
 ·refine⟨zl9 10,fun l1 hl1=>?_⟩;obtain⟨by_,eb,b1,b2⟩:=Zs (a0:=48271) (a1:=69621) (a2:=16807) (a3:=40692) (a4:=39373) (a5:=30269) (a6:=27183) (a7:=60013) (a8:=51749) (a9:=35969) (by decide) (by decide) h0 h9;have s1:=aI hl1 (.lst (l48.map V.int));have g1:upd H l1 (.lst (l48.map V.int)) l1=some (.lst (l48.map V.int)):=aD;generalize upd H l1 (.lst (l48.map V.int))=H1 at s1 g1 ⊢;refine⟨_,rfl,l1,_,_,_,rfl,rfl,SqL.of g1,eb,?_⟩;refine⟨zl9 10,fun l2 hl2=>?_⟩;obtain⟨pr,ep,p1,p2⟩:=Zs (a0:=999983) (a1:=999979) (a2:=999961) (a3:=999959) (a4:=999953) (a5:=999931) (a6:=999917) (a7:=999907) (a8:=999883) (a9:=999863) (by decide) (by decide) h0 h9;have s2:=aI hl2 (.lst (l99.map V.int));have g2:upd H1 l2 (.lst (l99.map V.int)) l2=some (.lst (l99.map V.int)):=aD;generalize upd H1 l2 (.lst (l99.map V.int))=H2 at s2 g2 ⊢;refine⟨_,rfl,l2,_,_,_,rfl,rfl,SqL.of g2,ep,?_⟩;refine⟨_,rfl,_,_,rfl,rfl,(show (0:Int) < 2147483647 by decide),?_⟩;have x1:=Int.emod_nonneg c (show (2147483647:Int)≠0 by decide);have x2:=Int.emod_lt_of_pos c (show (0:Int) < 2147483647 by decide);generalize c % 2147483647=x at x1 x2 ⊢;refine⟨_,rfl,_,_,rfl,rfl,Or.inl ⟨by decide,by decide⟩,_,rfl,cO (n:=40) (m:=40) (vV (by omega) (by omega)) (vV (by omega) (by omega)) (by omega) (by omega) ?_⟩;refine⟨_,rfl,_,rfl,cO (n:=40) (m:=40) (vV (by omega) (by omega)) (vV (by omega) (by omega)) (by omega) (by omega) ⟨_,_,rfl,rfl,?_⟩⟩;refine⟨_,rfl,_,_,rfl,rfl,_,_,rfl,rfl,Or.inl ⟨by decide,by decide⟩,_,_,rfl,rfl,_,rfl,_,_,rfl,rfl,by omega,_,_,rfl,rfl,⟨by decide,by decide⟩,_,rfl,_,_,rfl,rfl,m0,?_⟩;exact q _ _ (hf _).1 (hf _).2 (s1.trans s2)
abbrev Jf:Stmt:=top 79
theorem Fy:aT ["_law_cell","_law_turn","_law_left","_law_k"] ["_law_cell","_law_turn"] (aE Jf):=sK9 rfl rfl rfl rfl (by decide +kernel)
def Ur:Sp:=fun vs H Q _=>∃c t:Int,vs=[.int c,.int t]/\0<=t/\t<=9/\∀r:Int,-1000000000000<=r->r<=1000000000000->Q (.int r) H
theorem p12:(10:Int) ^ (12:Int).toNat=1000000000000:=by decide
theorem Xj {dV:Value}(F:bZ K "_law_far" "_law_far" Jf dV f fd)(mr:mg "range"=none) :
  aM P w K mg base CX 1 f fd ["_law_cell","_law_turn"] Ur:=by
 refine F.ok Fy (fun vs H Q E h=>?_) fun cdv A outer s H vs Q E hr h=>?_
 ·obtain⟨_,_,rfl,_⟩:=h;rfl
 obtain⟨c,t,rfl,h0,h9,q⟩:=h;refine⟨_,(aC (cK (bM gH (aY lP (pv 0) aF) aF (bO _)) (aC (aS (i:=2) Fy.nd rfl (Or.inl rfl) (aY oU (pv 0) aF))
  (aC (gA PassesOwn.never rfl (iK rfl mr (aA aF aB)) (bL (i:=3) Fy.nd rfl (Or.inl rfl))
   (aH (aS (i:=2) Fy.nd rfl (Or.inl rfl) (aY oU (pv 2) (aY lQ aF aF)))))
  (aH (aZ (aY kU (aY lP (pv 2) (aY dP (aY uF aF (aY lQ aF aF)) aF)) (aY lQ aF aF)))))) bK)
  (aH (aZ (aY kU (aY lP (aY cQ (aY lP (pv 0) (aY lQ aF aF)) (aY dP (aY uF aF (pv 1)) aF)) (aY dP (aY uF aF (aY lQ aF aF)) aF)) (aY lQ aF aF))))),?_⟩
 have fin:∀u:Int,Q (.int (u % (2*10 ^ (12:Int).toNat+1) - 10 ^ (12:Int).toNat)) H:=fun u=>by
  rw[p12];have x1:=Int.emod_nonneg u (show (2*1000000000000+1:Int)≠0 by decide);have x2:=Int.emod_lt_of_pos u (show (0:Int) < 2*1000000000000+1 by decide);exact q _ (by omega) (by omega)
 refine⟨_,rfl,_,_,rfl,rfl,(show (0:Int) < 2 by decide),rfl,_,rfl,sR (fun _=>?_) (fun _=>?_)⟩
 ·refine⟨_,rfl,_,_,rfl,rfl,⟨by decide,by decide⟩,?_⟩;refine⟨_,rfl,by omega,by omega,?_⟩;refine jX (n:=10) (fun i σ H'=>H'=H/\∃u z,σ=[some (.int c),some (.int t),some (.int u),z]) ⟨rfl,_,none,rfl⟩ ?_ ?_
  ·rintro i σ H' hi ⟨rfl,u,z,rfl⟩;exact⟨_,rfl,_,_,rfl,rfl,⟨by decide,by decide,by decide⟩,_,_,rfl,rfl,⟨by decide,by decide⟩,rfl,_,_,rfl⟩
  ·rintro σ H' ⟨rfl,u,z,rfl⟩;exact⟨_,rfl,_,_,rfl,rfl,⟨by decide,by decide,by decide⟩,_,_,rfl,rfl,Or.inl ⟨by decide,by decide⟩,_,_,rfl,rfl,_,_,rfl,rfl,(show (0:Int) < 2*10 ^ (12:Int).toNat+1 by decide),_,_,rfl,rfl,⟨by decide,by decide,by decide⟩,_,_,rfl,rfl,fin u⟩
 ·refine⟨_,rfl,_,_,rfl,rfl,⟨by decide,by decide,by decide⟩,_,_,rfl,rfl,(show (0:Int) < 10 ^ (12:Int).toNat by decide),?_⟩;have x1:=Int.emod_nonneg c (show (10 ^ (12:Int).toNat:Int)≠0 by decide);have x2:=Int.emod_lt_of_pos c (show (0:Int) < 10 ^ (12:Int).toNat by decide);rw[p12] at x1 x2;refine⟨_,rfl,_,_,rfl,rfl,Or.inl ⟨by decide,by decide⟩,_,_,rfl,rfl,cO (n:=40) (m:=40) (vV (by rw[p12];omega) (by rw[p12];omega)) (vV (by omega) (by omega)) (by omega) (by omega) ?_⟩;exact⟨_,_,rfl,rfl,⟨by decide,by decide,by decide⟩,_,_,rfl,rfl,Or.inl ⟨by decide,by decide⟩,_,_,rfl,rfl,_,_,rfl,rfl,(show (0:Int) < 2*10 ^ (12:Int).toNat+1 by decide),_,_,rfl,rfl,⟨by decide,by decide,by decide⟩,_,_,rfl,rfl,fin _⟩
abbrev mC:Stmt:=top 80
theorem oZ:aT ["_law_top","_law_bottom","_law_one","_law_other"] ["_law_top","_law_bottom"] (aE mC):=sK9 rfl rfl rfl rfl (by decide +kernel)
theorem Js {dV:Value}(F:bZ K "_law_lowest" "_law_lowest" mC dV f fd)(b:Bl mg) :
  aM P w K mg base CX 1 f fd ["_law_top","_law_bottom"] iO:=by
 refine F.ok oZ (fun vs H Q E h=>?_) fun cdv A outer s H vs Q E hr h=>?_
 ·obtain⟨_,_,_,rfl,_⟩:=h;rfl
 obtain⟨t,b',n,rfl,hb,hB,hn,q⟩:=h;refine⟨_,(aC (Nx (i:=2) (j:=3) rfl oZ.nd rfl rfl (by decide) rfl rfl (aA (cL vJ rfl b.abs PyProof.Rows.boot_abs (aA (pv 0) aB)) (aA (cL vJ rfl b.abs PyProof.Rows.boot_abs (aA (pv 1) aB)) aB)) rfl)
  (aC (oW PassesOwn.never (bM rW (pv 3) aF (bO _)) (aH (Nx (i:=2) (j:=3) rfl oZ.nd rfl rfl (by decide) rfl rfl (aA (pv 3) (aA (aY kA (pv 2) (pv 3)) aB)) rfl)))
  (aC (cK (bM yC (pv 1) aF (bO _)) (aH (aS (i:=2) oZ.nd rfl (Or.inl rfl) (aY kU aF (pv 2)))) bK)
  (aH (aZ (dM (aA (aY iL (pv 0) (pv 2)) (aA (aY iL (pv 1) (pv 2)) aB)))))))),?_⟩
 refine⟨_,rfl,_,rfl,_,rfl,_,rfl,_,_,rfl,?_⟩;have g0:=Mq.Xr t b';have n0:0<=(if t < 0 then -t else t):=by split<;>omega
 have n1:0<=(if b' < 0 then -b' else b'):=by split<;>omega
 generalize (if t < 0 then -t else t)=x' at *
 generalize (if b' < 0 then -b' else b')=y' at *
 have hd:=Mq.qC (t:=t) hb;have hdB:Mq.B n (Mq.dvr t b'):=hB.le (Mq.Ef hb);refine vH (fun σ H'=>H'=H/\∃u v,σ=[some (.int t),some (.int b'),some (.int u),some (.int v)]/\Mq.gc u v=Mq.gc t b'/\0<=u/\0<=v) (fun σ _=>match σ with | [_,_,_,some (.int v)]=>v.natAbs | _=>0) ⟨rfl,x',y',rfl,g0,n0,n1⟩ ?_ ?_
 ·rintro σ H' ⟨rfl,u,v,rfl,e,hu,hv0⟩;refine⟨_,rfl,rfl,_,rfl,?_⟩;refine sR (fun c=>?_) (fun c=>?_)
  ·have hv:v≠0:=by intro q;subst q;simp at c
   refine⟨_,rfl,_,rfl,_,rfl,_,_,rfl,rfl,hv,_,_,rfl,⟨rfl,v,Int.fmod u v,rfl,(Mq.He u v).trans e,hv0,Int.fmod_nonneg_of_pos u (by omega)⟩,Mq.xK hv⟩
  ·have hv:v=0:=by
    simp at c;exact c
   subst hv;have eu:u=Mq.gc t b':=by rw[<- e,Mq.Gz,if_neg (by omega)]
   subst eu;refine⟨_,rfl,_,_,rfl,rfl,_,rfl,sR (fun c=>?_) (fun c=>?_)⟩
   ·have hlt:b' < 0:=of_decide_eq_true c;have e:Mq.dvr t b'=0 - Mq.gc t b':=by unfold Mq.dvr;rw[if_pos hlt];omega
    rw[e] at hd hdB;have q':sQ H' Q (t.fdiv (0 - Mq.gc t b'),b'.fdiv (0 - Mq.gc t b')):=by
     have z:=q;unfold Mq.red at z;rw[e] at z;exact z
    refine⟨_,rfl,_,_,rfl,rfl,?_⟩;refine⟨_,rfl,_,rfl,fP hd hdB hn ⟨_,rfl,_,rfl,fP hd hdB hn ⟨zl9 2,fun p hp=>?_⟩⟩⟩;exact q' p _ (aI hp _) aD
   ·have hlt:¬b' < 0:=fun z=>c (decide_eq_true z);have e:Mq.dvr t b'=Mq.gc t b':=by unfold Mq.dvr;rw[if_neg hlt]
    rw[e] at hd hdB;have q':sQ H' Q (t.fdiv (Mq.gc t b'),b'.fdiv (Mq.gc t b')):=by
     have z:=q;unfold Mq.red at z;rw[e] at z;exact z
    refine⟨_,rfl,_,rfl,fP hd hdB hn ⟨_,rfl,_,rfl,fP hd hdB hn ⟨zl9 2,fun p hp=>?_⟩⟩⟩;exact q' p _ (aI hp _) aD
 ·rintro σ H Q Q' m ⟨v,h1,h2,k,h3,h4⟩;exact⟨v,h1,h2,k,h3,m _ _ h4⟩
abbrev rD:Stmt:=top 81
theorem Tc:aT ["_law_one","_law_other"] ["_law_one","_law_other"] (aE rD):=sK9 rfl rfl rfl rfl (by decide +kernel)
theorem Nn {dV:Value}(F:bZ K "_law_plus" "_law_plus" rD dV f fd)(G1:aM P w K mg base CX0 1 g1 gd1 ["_law_top","_law_bottom"] iO)(b1:aQ K gd1 ["_law_top","_law_bottom"] [])(k1:kI9 K g1)(m1:mI9 mg "_law_lowest" g1) :
  aM P w K mg base CX 2 f fd ["_law_one","_law_other"] (iV K Mq.fL):=by
 refine F.ok Tc (fun vs H Q E h=>?_) fun cdv A outer s H vs Q E hr h=>?_
 ·obtain⟨_,_,_,_,_,_,rfl,_⟩:=h;rfl
 obtain⟨a,b,p,q,n,m,rfl,fa,fb,hp,hq,bp,bq,hnm,z⟩:=h;refine⟨_,(aH (aZ (aG G1 hr rfl m1 k1 b1 .nil aL (aA (aY dP (aY cQ (aU aX (pv 0) aF (fun _ _=>rfl)) (aU aX (pv 1) aF (fun _ _=>rfl))) (aY cQ (aU aX (pv 1) aF (fun _ _=>rfl)) (aU aX (pv 0) aF (fun _ _=>rfl)))) (aA (aY cQ (aU aX (pv 0) aF (fun _ _=>rfl)) (aU aX (pv 1) aF (fun _ _=>rfl))) aB))))),?_⟩;refine dU rfl fa (cT rfl fb (cO bp.a bq.b (by omega) (by omega) ?_));refine dU rfl fb (cT rfl fa (cO bq.a bp.b (by omega) (by omega) ⟨_,_,rfl,rfl,?_⟩));refine cT rfl fa (cT rfl fb (cO bp.b bq.b (by omega) (by omega) ?_));exact⟨_,_,n+m,rfl,Mq.gE hp hq,bp.b.mul bq.b,by omega,z⟩
theorem sQ.same {H H':Hp}{Q:VK}{p:Mq.Q2}(s:bF H H')(h:sQ H Q p):sQ H' Q p:=fun a H2 s2 e=>h a H2 (s.trans s2) e
abbrev mH:Stmt:=top 82
theorem Lw:aT ["_law_one","_law_other"] ["_law_one","_law_other"] (aE mH):=sK9 rfl rfl rfl rfl (by decide +kernel)
theorem Ib {dV:Value}(F:bZ K "_law_times" "_law_times" mH dV f fd)(G1:aM P w K mg base CX0 1 g1 gd1 ["_law_top","_law_bottom"] iO)(b1:aQ K gd1 ["_law_top","_law_bottom"] [])(k1:kI9 K g1)(m1:mI9 mg "_law_lowest" g1) :
  aM P w K mg base CX 2 f fd ["_law_one","_law_other"] (iV K Mq.gM):=by
 refine F.ok Lw (fun vs H Q E h=>?_) fun cdv A outer s H vs Q E hr h=>?_
 ·obtain⟨_,_,_,_,_,_,rfl,_⟩:=h;rfl
 obtain⟨a,b,p,q,n,m,rfl,fa,fb,hp,hq,bp,bq,hnm,z⟩:=h;refine⟨_,(aH (aZ (aG G1 hr rfl m1 k1 b1 .nil aL (aA (aY cQ (aU aX (pv 0) aF (fun _ _=>rfl)) (aU aX (pv 1) aF (fun _ _=>rfl))) (aA (aY cQ (aU aX (pv 0) aF (fun _ _=>rfl)) (aU aX (pv 1) aF (fun _ _=>rfl))) aB))))),?_⟩;refine dU rfl fa (dU rfl fb (cO bp.a bq.a (by omega) (by omega) ?_));refine cT rfl fa (cT rfl fb (cO bp.b bq.b (by omega) (by omega) ?_));exact⟨_,_,n+m,rfl,Mq.gE hp hq,bp.b.mul bq.b,by omega,z⟩
abbrev Kj:Stmt:=top 83
theorem Yp:aT ["_law_one","_law_other"] ["_law_one","_law_other"] (aE Kj):=sK9 rfl rfl rfl rfl (by decide +kernel)
theorem Xm {dV:Value}(F:bZ K "_law_by" "_law_by" Kj dV f fd)(G1:aM P w K mg base CX0 1 g1 gd1 ["_law_top","_law_bottom"] iO)(b1:aQ K gd1 ["_law_top","_law_bottom"] [])(k1:kI9 K g1)(m1:mI9 mg "_law_lowest" g1) :
  aM P w K mg base CX 2 f fd ["_law_one","_law_other"] (zB K):=by
 refine F.ok Yp (fun vs H Q E h=>?_) fun cdv A outer s H vs Q E hr h=>?_
 ·obtain⟨_,_,_,_,_,_,rfl,_⟩:=h;rfl
 obtain⟨a,b,p,q,n,m,rfl,fa,fb,hp,hq,h0,bp,bq,hnm,z⟩:=h;refine⟨_,(aH (aZ (aG G1 hr rfl m1 k1 b1 .nil aL (aA (aY cQ (aU aX (pv 0) aF (fun _ _=>rfl)) (aU aX (pv 1) aF (fun _ _=>rfl))) (aA (aY cQ (aU aX (pv 0) aF (fun _ _=>rfl)) (aU aX (pv 1) aF (fun _ _=>rfl))) aB))))),?_⟩;refine dU rfl fa (cT rfl fb (cO bp.a bq.b (by omega) (by omega) ?_));refine cT rfl fa (dU rfl fb (cO bp.b bq.a (by omega) (by omega) ?_));exact⟨_,_,n+m,rfl,Mq.pL hp (by omega),bp.b.mul bq.a,by omega,z⟩
abbrev yH:Stmt:=top 84
theorem Mi:aT ["_law_found","_law_due","_law_number"] ["_law_found","_law_due"] (aE yH):=sK9 rfl rfl rfl rfl (by decide +kernel)
def zA (K:Frag):Sp:=fun vs H Q _=>∃(a b:Addr) (p:Mq.Q2),vs=[.ref a,.ref b]/\Fq K H a p/\Fq K H b p/\Q (.bl true) H
theorem Sg {dV:Value}(F:bZ K "_law_told" "_law_told" yH dV f fd)(b:Bl mg)(ml:mg "len"=none)(mt:mg "tuple"=none) :
  aM P w K mg base CX 1 f fd ["_law_found","_law_due"] (zA K):=by
 refine F.ok Mi (fun vs H Q E h=>?_) fun cdv A outer s H vs Q E hr h=>?_
 ·obtain⟨_,_,_,rfl,_⟩:=h;rfl
 obtain⟨a,d,p,rfl,fa,fd',q⟩:=h;have hu:=hr.units;refine⟨_,(aC (cK (PW.pt (jJ (eU (cY (iG (i:=0) rfl (Or.inl rfl) b.isi mt rfl rfl PyProof.Rows.boot_tuple))) (jG (bM rW (cL bS rfl ml PySem.boot_len (aA (pv 0) aB)) aF (bO _))))) (aH (aZ jV)) bK)
  (aC (gA PassesOwn.never rfl (Vg (pv 0)) (bL (i:=2) Mi.nd rfl (Or.inl rfl))
   (aH (cK (PW.pt (jJ (eU (cY (iG (i:=2) rfl (Or.inl rfl) b.isi b.int rfl rfl PyProof.Rows.boot_int))) (jG (cY (iG (i:=2) rfl (Or.inl rfl) b.isi b.bool rfl rfl PyProof.Rows.boot_bool))))) (aH (aZ jV)) bK)))
  (aH (aZ (jC (zL hu) (pv 0) (pv 1) (bO _)))))),?_⟩
 refine⟨_,_,true,rfl,.tup fa,rfl,_,rfl,dX ⟨_,rfl,a,_,rfl,.inr fa,rfl,_,rfl,dX ?_⟩⟩;refine⟨_,rfl,a,rfl,⟨_,fa⟩,?_⟩;refine Ts (xs:=[.int p.1,.int p.2]) (fun i σ H'=>H'=H/\∃z,σ=[some (.ref a),some (.ref d),z]) ⟨rfl,none,rfl⟩ (fun i σ H' _ h=>by rw[h.1];exact fa) ?_ ?_
 ·rintro i x σ H' hx ⟨rfl,z,rfl⟩;have hint:∃j,x=.int j:=by
   match i,hx with
   |0,h=>exact⟨p.1,by simpa using h.symm⟩
   |1,h=>exact⟨p.2,by simpa using h.symm⟩
   |n+2,h=>simp at h
  obtain⟨j,rfl⟩:=hint;refine⟨_,_,true,rfl,.of (.int j),rfl,_,rfl,dX ⟨_,_,false,rfl,.of (.int j),(by with_unfolding_all rfl),_,rfl,dX ⟨rfl,_,rfl⟩⟩⟩
 ·rintro σ H' ⟨rfl,z,rfl⟩;refine⟨_,rfl,_,rfl,Pu fa fd' ?_⟩;show Q (.bl (decide (p=p))) H';rw[decide_eq_true rfl];exact q
def Dp:Sp:=fun vs H Q _=>∃c:Int,vs=[.int c]/\∀p,Mq.Low p/\0 < p.1/\Mq.Bd 4 p->sQ H Q p
abbrev wX:Stmt:=top 85
theorem Wu:aT ["_law_cell"] ["_law_cell"] (aE wX):=sK9 rfl rfl rfl rfl (by decide +kernel)
theorem Te {dV:Value}(F:bZ K "_law_size" "_law_size" wX dV f fd)(G1:aM P w K mg base CX0 1 g1 gd1 ["_law_cell","_law_turn","_law_many"] xM)(b1:aQ K gd1 ["_law_cell","_law_turn","_law_many"] [])(k1:kI9 K g1)(m1:mI9 mg "_law_mix" g1)(G3:aM P w K mg base CX0 1 g3 gd3 ["_law_top","_law_bottom"] iO)(b3:aQ K gd3 ["_law_top","_law_bottom"] [])(k3:kI9 K g3)(m3:mI9 mg "_law_lowest" g3) :
  aM P w K mg base CX 2 f fd ["_law_cell"] Dp:=by
 refine F.ok Wu (fun vs H Q E h=>?_) fun cdv A outer s H vs Q E hr h=>?_
 ·obtain⟨_,rfl,_⟩:=h;rfl
 obtain⟨c,rfl,q⟩:=h;refine⟨_,(aH (aZ (aG G3 hr rfl m3 k3 b3 .nil aL (aA (aY dP aF (aG G1 hr rfl m1 k1 b1 .nil aL (aA (pv 0) (aA aF (aA aF aB))))) (aA (aY dP aF (aG G1 hr rfl m1 k1 b1 .nil aL (aA (pv 0) (aA aF (aA aF aB))))) aB))))),?_⟩;refine⟨_,rfl,c,3,12,rfl,by decide,by decide,by decide,fun r H1 r1 r2 s1=>⟨_,_,rfl,rfl,?_⟩⟩;refine⟨_,rfl,c,4,6,rfl,by decide,by decide,by decide,fun b H3 b1 b2 s3=>⟨_,_,rfl,rfl,?_⟩⟩;have b0:1+b≠0:=by omega
 have le:=Mq.lK (t:=1+r) b0;have bT:Mq.B 4 (1+r):=vV (by omega) (by omega);have bB:Mq.B 4 (1+b):=vV (by omega) (by omega);exact⟨1+r,1+b,4,rfl,b0,bB,by omega,sQ.same (s1.trans s3) (q _ ⟨Mq.iF b0,Mq.Hc (by omega) (by omega),⟨bT.le le.1,bB.le le.2⟩⟩)⟩
def Aj (CN:Addr)(K:Frag):Sp:=fun vs H Q _=>∃(m:Int) (r:Addr) (us:List V) (ds:List RD),vs=[.int m,.ref r]/\1<=m/\m<=20/\SqL K H r us/\Rts K H us ds/\(∀d∈ds,Ht m d)/\ds.length<=40/\∀n l H',bF H H'->H l=none->fY CN K H' n l m ds->Q (.ref n) H'
abbrev qH:Stmt:=top 86
theorem yT:aT ["_law_many","_law_rows","_law_net_here","_law_row"] ["_law_many","_law_rows"] (aE qH):=sK9 rfl rfl rfl rfl (by decide +kernel)
theorem Ms {dV:Value}(F:bZ K "_law_net" "_law_net" qH dV f fd){CN:Addr}(NTx:NT K mg CN){gAd:Addr}{gdAd:FuncData}(GAd:aM P w K mg base CX0 5 gAd gdAd ["self","row"] (Uk CN K CK))(bAd:aQ K gdAd ["self","row"] [])(mAd:iB K CN "add" gAd){gNI:Addr}{gdNI:FuncData}(GNI:aM P w K mg base CX0 2 gNI gdNI ["self","many"] (Gy CN))(bNI:aQ K gdNI ["self","many"] [])(MN:Mk K CN gNI)(G1:aM P w K mg base CX0 3 g1 gd1 ["told"] (uK K CK))(b1:aQ K gd1 ["told"] [])(k1:kI9 K g1)(m1:mI9 mg "row_of" g1) :
  aM P w K mg base CX 6 f fd ["_law_many","_law_rows"] (Aj CN K):=by
 refine F.ok yT (fun vs H Q E h=>?_) fun cdv A outer s H vs Q E hr h=>?_
 ·obtain⟨_,_,_,_,rfl,_⟩:=h;rfl
 obtain⟨m,r,us,ds,rfl,hm1,hm20,hU,hR,hK,h40,q⟩:=h;have r3:=hr.mono (show 3<=5 by omega);refine⟨_,(aC (aS (i:=2) yT.nd rfl (Or.inl rfl) (oH MN GNI r3 rfl NTx.mN bNI .nil aL (aA (pv 0) aB)))
  (aC (gA PassesOwn.never rfl (fB (pv 1)) (bL (i:=3) yT.nd rfl (Or.inl rfl))
   (aH (bU (zP (pv 2) NTx.cl mAd GAd hr bAd .nil aL (aA (aG G1 r3 rfl m1 k1 b1 .nil aL (aA (pv 3) aB)) aB)))))
  (aH (aZ (pv 2))))),?_⟩
 have lus:=hR.length;refine⟨_,rfl,fun n dx h1 h2 ne=>⟨n,dx,m,rfl,aD,hm1,hm20,fun l H2 nl keep hn hl=>⟨rfl,?_⟩⟩⟩;have s2:bF H H2:=fun b o e=>keep b o (by rw[aV (bC e h1),aV (bC e h2)];exact e) (bC e h1);have hl0:H l=none:=by
  cases o:H l with
  |none=>rfl
  |some o'=>
   have:(upd (upd H dx (.own n)) n (.ins CN dx [])) l=some o':=by rw[aV (bC o h1),aV (bC o h2)];exact o
   rw[this] at nl;cases nl
 refine⟨_,rfl,r,rfl,⟨_,s2.seq hU⟩,?_⟩;refine hV (xs:=us) (fun i σ H'=>bF H H'/\fY CN K H' n l m (ds.take i)/\∃z,σ=[some (.int m),some (.ref r),some (.ref n),z]) ⟨s2,⟨⟨dx,hn⟩,[],hl,.nil⟩,none,rfl⟩ (fun i σ H' _ h=>h.1.seq hU) ?_ ?_
 ·rintro i x σ H3 hx ⟨s3,N3,z,rfl⟩;have hi:i < ds.length:=by
   have:=(List.getElem?_eq_some_iff.mp hx).1;omega
  obtain⟨⟨k,u,v,p⟩,hd⟩:∃d,ds[i]?=some d:=⟨_,List.getElem?_eq_getElem hi⟩
  obtain⟨t,z',et,hT,fz⟩:=hR.at hd;have ex:x=.ref t:=by rw[et] at hx;exact(Option.some.inj hx).symm
  subst ex;obtain⟨dn,hn3⟩:=N3.ob;have lt:(ds.take i).length<=ds.length:=by rw[List.length_take];omega
  refine⟨_,rfl,n,dn,_,rfl,hn3,eT _ _ (by decide +kernel) (by decide +kernel),_,rfl,t,_,_,_,_,rfl,s3.seqT hT,k,rfl,fun y H4 s4 ny rw=>?_⟩;refine⟨n,l,y,z',m,ds.take i,k,u,v,p,rfl,N3.same s4,rw,(s3.trans s4).fq fz,hK _ (List.mem_of_getElem? hd),by rw[List.length_take];omega,fun H5 x5 N5=>?_⟩;refine⟨fun b o e=>x5 _ _ ((s3.trans s4) _ _ e) (bC e hl0),?_,_,rfl⟩;rw[List.take_add_one,hd];exact N5
 ·rintro σ H3 ⟨s3,N3,z,rfl⟩;rw[lus,List.take_length] at N3;exact⟨_,rfl,q n l H3 s3 hl0 N3⟩
theorem Hg {α β:Type}(f:α->β)(l:List α)(i:Nat)(e:α):(l.take i++e :: l.drop i).map f=(l.map f).take i++f e :: (l.map f).drop i:=by
 rw[List.map_append,List.map_cons,List.map_take,List.map_drop]
theorem Rts.take {K:Frag}{H:Hp}:∀{xs:List V} {ds:List RD} (n:Nat),Rts K H xs ds->Rts K H (xs.take n) (ds.take n)
 |_,_,0,_=>.nil
 |_,_,_+1,.nil=>.nil
 |_,_,n+1,.cons h f q=>.cons h f (Rts.take n q)
theorem Rts.drop {K:Frag}{H:Hp}:∀{xs:List V} {ds:List RD} (n:Nat),Rts K H xs ds->Rts K H (xs.drop n) (ds.drop n)
 |_,_,0,h=>h
 |_,_,_+1,.nil=>.nil
 |_,_,n+1,.cons _ _ q=>Rts.drop n q
theorem Ge {α:Type}(l:List α)(i:Nat)(e:α):(l.take i++e :: l.drop i).length=l.length+1:=by
 rw[List.length_append,List.length_cons,List.length_take,List.length_drop];omega
theorem Gd (k:Kd):decide (V.str k.wd=V.str "piece")=decide (k=.pc):=eY k .pc
def Uh (K:Frag):Sp:=fun vs H Q _=>∃(r e:Addr) (c:Int) (k:Kd) (us:List V) (ds:List RD) (i j:Int),vs=[.ref r,.int c,.str k.wd,.ref e]/\H r=some (.lst us)/\Rts K H us ds/\ds.length<=60/\SqT K H e [.int i,.int j]/\
 ∀y t (d:RD) H' H'',y<=us.length->bF H H'->d.1=k->((d.2.1=i/\d.2.2.1=j)\/(d.2.1=j/\d.2.2.1=i))->Mq.Low d.2.2.2->Mq.Bd 7 d.2.2.2->(k=.pc->0 < d.2.2.2.1/\Mq.Bd 4 d.2.2.2)->H''=upd H' r (.lst (us.take y++.ref t :: us.drop y))->Rts K H'' (us.take y++.ref t :: us.drop y) (ds.take y++d :: ds.drop y)->Q .non H''
abbrev Jm:Stmt:=top 87
theorem Ex:aT ["_law_rows","_law_cell","_law_word","_law_ends","_law_size_here"] ["_law_rows","_law_cell","_law_word","_law_ends"] (aE Jm):=sK9 rfl rfl rfl rfl (by decide +kernel)
theorem Wq {dV:Value}(F:bZ K "_law_put" "_law_put" Jm dV f fd)(ml:mg "len"=none)(G1:aM P w K mg base CX0 1 g1 gd1 ["_law_cell","_law_turn","_law_many"] xM)(b1:aQ K gd1 ["_law_cell","_law_turn","_law_many"] [])(k1:kI9 K g1)(m1:mI9 mg "_law_mix" g1)(G2:aM P w K mg base CX0 1 g2 gd2 ["_law_top","_law_bottom"] iO)(b2:aQ K gd2 ["_law_top","_law_bottom"] [])(k2:kI9 K g2)(m2:mI9 mg "_law_lowest" g2)(G3:aM P w K mg base CX0 2 g3 gd3 ["_law_cell"] Dp)(b3:aQ K gd3 ["_law_cell"] [])(k3:kI9 K g3)(m3:mI9 mg "_law_size" g3) :
  aM P w K mg base CX 3 f fd ["_law_rows","_law_cell","_law_word","_law_ends"] (Uh K):=by
 refine F.ok Ex (fun vs H Q E h=>?_) fun cdv A outer s H vs Q E hr h=>?_
 ·obtain⟨_,_,_,_,_,_,_,_,rfl,_⟩:=h;rfl
 obtain⟨r,e,c,k,us,ds,i,j,rfl,er,hR,h60,he,q⟩:=h;have r1:=hr.mono (show 1<=2 by omega);refine⟨_,(aC (aS (i:=4) Ex.nd rfl (Or.inl rfl) (aG G3 hr rfl m3 k3 b3 .nil aL (aA (pv 1) aB)))
  (aC (cK (bM rW (pv 2) cW (bO _)) (aH (aS (i:=4) Ex.nd rfl (Or.inl rfl) (aG G2 r1 rfl m2 k2 b2 .nil aL (aA (aY kU (aG G1 r1 rfl m1 k1 b1 .nil aL (aA (pv 1) (aA aF (aA aF aB)))) aF) (aA (aY dP aF (aG G1 r1 rfl m1 k1 b1 .nil aL (aA (pv 1) (aA aF (aA aF aB))))) aB))))) bK)
  (aC (cK (bM gH (aG G1 r1 rfl m1 k1 b1 .nil aL (aA (pv 1) (aA aF (aA aF aB)))) aF (bO _)) (aH (aS (i:=3) Ex.nd rfl (Or.inl rfl) (dM (aA (aU aX (pv 3) aF (fun _ _=>rfl)) (aA (aU aX (pv 3) aF (fun _ _=>rfl)) aB))))) bK)
  (aH (bU (vT PySem.F.plainAttrs_list PySem.F.slot_list_insert PySem.F.type_list_insert Kc (pv 0) (aA (aG G1 r1 rfl m1 k1 b1 .nil aL (aA (pv 1) (aA aF (aA (aY dP (cL bS rfl ml PySem.boot_len (aA (pv 0) aB)) aF) aB)))) (aA (dM (aA (pv 2) (aA (aU aX (pv 3) aF (fun _ _=>rfl)) (aA (aU aX (pv 3) aF (fun _ _=>rfl)) (aA (pv 4) aB))))) aB)))))))),?_⟩
 have lu:=hR.length
 try dsimp only
 refine Zo (fun σ' H'=>bF H H'/\∃(z:Addr) (p:Mq.Q2),σ'=[some (.ref r),some (.int c),some (.str k.wd),some (.ref e),some (.ref z)]/\Fq K H' z p/\Mq.Low p/\Mq.Bd 7 p/\(k=.pc->0 < p.1/\Mq.Bd 4 p)) (fun X hX=>?_) ?_
 ·refine⟨_,rfl,c,rfl,fun p hp z H1 s1 e1=>?_⟩
  by_cases hk:k=.pc
  ·refine⟨_,rfl,rfl,_,rfl,L2.ifF (by show (!decide (V.str k.wd=V.str "piece"))=false;rw[Gd,decide_eq_true hk];rfl) ?_⟩;exact hX _ _ ⟨s1,z,p,rfl,Fq.of e1,hp.1,hp.2.2.mono (by omega),fun _=>⟨hp.2.1,hp.2.2⟩⟩
  ·refine⟨_,rfl,rfl,_,rfl,L2.ifT (by show (!decide (V.str k.wd=V.str "piece"))=true;rw[Gd,decide_eq_false hk];rfl) ?_⟩;refine⟨_,rfl,c,5,121,rfl,by decide,by decide,by decide,fun a H2 a1 a2 s2=>⟨_,_,rfl,rfl,?_⟩⟩;refine⟨_,rfl,c,6,12,rfl,by decide,by decide,by decide,fun b H3 b1 b2 s3=>⟨_,_,rfl,rfl,?_⟩⟩;have b0:1+b≠0:=by omega
   have le:=Mq.lK (t:=a - 60) b0;have bT:Mq.B 7 (a - 60):=vV (by omega) (by omega);have bB:Mq.B 7 (1+b):=vV (by omega) (by omega);exact⟨a - 60,1+b,7,rfl,b0,bB,by omega,fun z2 H4 s4 e4=>hX _ _ ⟨s1.trans (s2.trans (s3.trans s4)),z2,_,rfl,Fq.of e4,Mq.iF b0,⟨bT.le le.1,bB.le le.2⟩,fun h=>absurd h hk⟩⟩
 rintro σ1 H1 ⟨s1,z,p,rfl,fz,lp,bp,hpc⟩
 try dsimp only
 refine Pn (fun σ' H'=>bF H1 H'/\∃(e':Addr) (i' j':Int),σ'=[some (.ref r),some (.int c),some (.str k.wd),some (.ref e'),some (.ref z)]/\SqT K H' e' [.int i',.int j']/\((i'=i/\j'=j)\/(i'=j/\j'=i))) (fun X hX=>?_) ?_
 ·refine⟨_,rfl,c,2,2,rfl,by decide,by decide,by decide,fun a H2 a1 a2 s2=>⟨rfl,_,rfl,sR (fun _=>?_) (fun _=>?_)⟩⟩
  ·refine⟨_,rfl,e,_,_,_,rfl,rfl,(s1.trans s2).seqT he,rfl,_,rfl,e,_,_,_,rfl,rfl,(s1.trans s2).seqT he,rfl,zl9 2,fun e2 he2=>?_⟩;have s3:=aI he2 (.tup [.int j,.int i]);exact hX _ _ ⟨s2.trans s3,e2,j,i,rfl,SqT.of aD,.inr ⟨rfl,rfl⟩⟩
  ·exact hX _ _ ⟨s2,e,i,j,rfl,(s1.trans s2).seqT he,.inl ⟨rfl,rfl⟩⟩
 rintro σ2 H2 ⟨s2,e',i',j',rfl,he',hij⟩;have s02:=s1.trans s2;have er2:=s02 _ _ er;refine⟨_,rfl,.inl ⟨rfl,_,SqL.of er2⟩,_,rfl,_,rfl,r,us,rfl,.inl (SqL.of er2),_,_,rfl,rfl,c,8,(us.length:Int)+1,rfl,by decide,by decide,by omega,fun y' H3 y0 y1 s3=>?_⟩;obtain⟨y,rfl⟩:∃y:Nat,y'=(y:Int):=⟨y'.toNat,by omega⟩
 have he3:=s3.seqT he';refine⟨_,rfl,_,rfl,e',_,_,_,rfl,rfl,he3,rfl,_,rfl,e',_,_,_,rfl,rfl,he3,rfl,_,rfl,zl9 4,fun t4 ht4=>?_⟩;have s4:=aI ht4 (.tup [.str k.wd,.int i',.int j',.ref z]);have e4:upd H3 t4 (.tup [.str k.wd,.int i',.int j',.ref z]) t4=some (.tup [.str k.wd,.int i',.int j',.ref z]):=aD;generalize upd H3 t4 (.tup [.str k.wd,.int i',.int j',.ref z])=H4 at s4 e4 ⊢;have s04:=s02.trans (s3.trans s4);have er4:=s04 _ _ er;refine⟨r,us,y,_,.ref t4,rfl,rfl,rfl,by omega,er4,bH (by omega),?_⟩;refine q y t4 (k,i',j',p) H4 _ (by omega) s04 rfl hij lp bp hpc rfl ?_;exact Rts.upd er4 ((Rts.take y (hR.same s04)).app (.cons (SqT.of e4) ((s2.trans (s3.trans s4)).fq fz) (Rts.drop y (hR.same s04))))
def kws (ks:List Kd):List V:=ks.map fun k=>V.str k.wd
theorem Wf {ks:List Kd}{r:Int}(h0:0<=r)(h:r < (ks.length:Int)):∃k,k∈ks/\atI (kws ks) r=some (.str (Kd.wd k)):=by
 obtain⟨n,rfl⟩:∃n:Nat,r=(n:Int):=⟨r.toNat,by omega⟩
 have hn:n < ks.length:=by omega
 refine⟨ks[n],List.getElem_mem hn,cI ?_⟩;unfold kws;rw[List.getElem?_map,List.getElem?_eq_getElem hn];rfl
theorem Cb {m t k:Nat}(m1:1<=m):Int.fmod ((k:Int)+(t:Int)) (m:Int)=((rot m t k:Nat):Int):=by
 rw[Int.fmod_eq_emod_of_nonneg _ (by omega)];show ((k:Int)+(t:Int)) % (m:Int)=(((k+t) % m:Nat):Int)
 rw[Int.natCast_emod,Int.natCast_add]
theorem qc4 (xs:List V)(j:Nat):(mV xs (some 8) (some (8+(j:Int)))).length<=j:=by
 unfold mV;have h1:HT.sIx xs.length xs.length (some (8+(j:Int)))=min (8+j) xs.length:=by
  simp only[HT.sIx];split<;>omega
 have h2:HT.sIx xs.length 0 (some 8)=min 8 xs.length:=by simp[HT.sIx]
 rw[h1,h2,List.length_take,List.length_drop];omega
theorem Qs {m t k j:Nat}{d:RD}(m1:1<=m)(k1:1<=k)(km:k < m)(jk:j < k)(npu:d.1≠.pu)(lp:Mq.Low d.2.2.2)(bp:Mq.Bd 7 d.2.2.2)(hpc:d.1=.pc->0 < d.2.2.2.1/\Mq.Bd 4 d.2.2.2)(hij:(d.2.1=((rot m t k:Nat):Int)/\d.2.2.1=((rot m t j:Nat):Int))\/(d.2.1=((rot m t j:Nat):Int)/\d.2.2.1=((rot m t k:Nat):Int))):Mu m t (some (k,j),d):=by
 have a:=Ls (t:=t) m1 k;have b:=Ls (t:=t) m1 j;refine⟨?_,lp,bp,hpc,(fun _ z=>by cases z),fun k' j' e=>?_⟩
 ·rcases hij with ⟨x,y⟩ | ⟨x,y⟩<;>(show dA (m:Int) d.2.1 d.2.2.1;rw[x,y];exact⟨by omega,by omega,by omega,by omega⟩)
 ·have e:=Option.some.inj e;injection e with e1 e2
  subst e1 e2;exact⟨npu,k1,km,jk,hij⟩
theorem Tn {m t:Nat}{d:RD}(pt:dA (m:Int) d.2.1 d.2.2.1)(nho:d.1≠.ho)(lp:Mq.Low d.2.2.2)(bp:Mq.Bd 7 d.2.2.2)(hpc:d.1=.pc->0 < d.2.2.2.1/\Mq.Bd 4 d.2.2.2):Mu m t (none,d):=⟨pt,lp,bp,hpc,fun h=>absurd h nho,fun k j e=>by cases e⟩
def Os (K:Frag):Sp:=fun vs H Q _=>∃(a w:Addr) (ns:List Int) (m ms:Nat) (ks:List Kd),vs=[.ref a,.int (m:Int),.int (ms:Int),.ref w]/\SqL K H a (ns.map V.int)/\ns.length<=63/\1<=m/\m<=20/\ms<=20/\SqL K H w (kws ks)/\1<=ks.length/\(∀k∈ks,k≠.pu)/\
 ∀r us t E H',bF H H'->H r=none->H' r=some (.lst us)->Rts K H' us (rwH E)->Hng m t m E->E.length<=m - 1+ms->Q (.ref r) H'
abbrev xE:Stmt:=top 88
theorem kS:aT ["_law_script","_law_many","_law_most","_law_words","_law_rows","_law_turn","_law_k","_law_cell","_law_ends"] ["_law_script","_law_many","_law_most","_law_words"] (aE xE):=sK9 rfl rfl rfl rfl (by decide +kernel)
theorem Rl {dV:Value}(F:bZ K "_law_hanging" "_law_hanging" xE dV f fd)(mr:mg "range"=none)(ml:mg "len"=none)(G1:aM P w K mg base CX0 1 g1 gd1 ["_law_script","_law_k"] (Eo K))(b1:aQ K gd1 ["_law_script","_law_k"] [])(k1:kI9 K g1)(m1:mI9 mg "_law_draw" g1)(G2:aM P w K mg base CX0 1 g2 gd2 ["_law_cell","_law_turn","_law_many"] xM)(b2:aQ K gd2 ["_law_cell","_law_turn","_law_many"] [])(k2:kI9 K g2)(m2:mI9 mg "_law_mix" g2)(G3:aM P w K mg base CX0 3 g3 gd3 ["_law_rows","_law_cell","_law_word","_law_ends"] (Uh K))(b3:aQ K gd3 ["_law_rows","_law_cell","_law_word","_law_ends"] [])(k3:kI9 K g3)(m3:mI9 mg "_law_put" g3) :
  aM P w K mg base CX 4 f fd ["_law_script","_law_many","_law_most","_law_words"] (Os K):=by
 refine F.ok kS (fun vs H Q E h=>?_) fun cdv A outer s H vs Q E hr h=>?_
 ·obtain⟨_,_,_,_,_,_,rfl,_⟩:=h;rfl
 obtain⟨a,w,ns,m,ms,ks,rfl,hS,h63,hm1,hm20,hms,hW,hks1,hks,q⟩:=h;have r1:=hr.mono (show 1<=3 by omega);refine⟨_,(aC (aS (i:=4) kS.nd rfl (Or.inl rfl) (cX aB))
  (aC (aS (i:=5) kS.nd rfl (Or.inl rfl) (aG G2 r1 rfl m2 k2 b2 .nil aL (aA (aG G1 r1 rfl m1 k1 b1 .nil aL (aA (pv 0) (aA aF aB))) (aA aF (aA (pv 1) aB)))))
  (aC (gA PassesOwn.never rfl (xT rfl mr (aA aF (aA (pv 1) aB))) (bL (i:=6) kS.nd rfl (Or.inl rfl))
   (aC (aS (i:=7) kS.nd rfl (Or.inl rfl) (aG G1 r1 rfl m1 k1 b1 .nil aL (aA (pv 0) (aA (aY dP aF (pv 6)) aB))))
  (aC (aS (i:=8) kS.nd rfl (Or.inl rfl) (dM (aA (aY kA (aY dP (pv 6) (pv 5)) (pv 1)) (aA (aY kA (aY dP (aG G2 r1 rfl m2 k2 b2 .nil aL (aA (pv 7) (aA aF (aA (pv 6) aB)))) (pv 5)) (pv 1)) aB))))
  (aH (bU (aG G3 hr rfl m3 k3 b3 .nil aL (aA (pv 4) (aA (pv 7) (aA (aU bY (pv 3) (aG G2 r1 rfl m2 k2 b2 .nil aL (aA (pv 7) (aA aF (aA (cL bS rfl ml PySem.boot_len (aA (pv 3) aB)) aB)))) (fun _ _=>rfl)) (aA (pv 8) aB))))))))))
  (aC (gA PassesOwn.never rfl (fB (iS jZ (pv 0) (iE aF) (iE (aY dP aF (pv 2))))) (bL (i:=7) kS.nd rfl (Or.inl rfl))
   (aC (aS (i:=8) kS.nd rfl (Or.inl rfl) (dM (aA (aG G2 r1 rfl m2 k2 b2 .nil aL (aA (pv 7) (aA aF (aA (pv 1) aB)))) (aA (aG G2 r1 rfl m2 k2 b2 .nil aL (aA (pv 7) (aA aF (aA (pv 1) aB)))) aB))))
  (aH (bU (aG G3 hr rfl m3 k3 b3 .nil aL (aA (pv 4) (aA (pv 7) (aA (aU bY (cX (aA cW (aA cW (aA cW aB)))) (aG G2 r1 rfl m2 k2 b2 .nil aL (aA (pv 7) (aA aF (aA aF aB)))) (fun _ _=>rfl)) (aA (pv 8) aB)))))))))
  (aH (aZ (pv 4))))))),?_⟩
 refine⟨zl9 0,fun r hr0=>?_⟩;have s1:=aI hr0 (.lst []);have e1:upd H r (.lst []) r=some (.lst []):=aD;generalize upd H r (.lst [])=H1 at s1 e1 ⊢;refine⟨_,rfl,a,ns,2,2,rfl,rfl,s1.seq hS,h63,fun c0 H2 s2=>?_⟩;refine⟨_,rfl,c0,1,(m:Int),rfl,by decide,by decide,by omega,fun t' H3 t0 tm s3=>?_⟩;obtain⟨t,rfl⟩:∃t:Nat,t'=(t:Int):=⟨t'.toNat,by omega⟩
 have s03:=s1.trans (s2.trans s3);have e3:=(s2.trans s3) _ _ e1
 try dsimp only
 refine Pn (fun σ' H'=>bF H H'/\∃(us:List V) (E:List Hn) (z6 z7 z8:Option V),σ'=[some (.ref a),some (.int (m:Int)),some (.int (ms:Int)),some (.ref w),some (.ref r),some (.int (t:Int)),z6,z7,z8]/\H' r=some (.lst us)/\Rts K H' us (rwH E)/\Hng m t m E/\E.length=m - 1) (fun X hX=>?_) ?_
 ·refine⟨_,rfl,1,(m:Int),rfl,by omega,?_⟩;refine jX (lo:=1) (n:=((m:Int) - 1).toNat) (fun i σ H'=>bF H H'/\∃(us:List V) (E:List Hn) (z6 z7 z8:Option V),σ=[some (.ref a),some (.int (m:Int)),some (.int (ms:Int)),some (.ref w),some (.ref r),some (.int (t:Int)),z6,z7,z8]/\H' r=some (.lst us)/\Rts K H' us (rwH E)/\Hng m t (i+1) E/\E.length=i) ⟨s03,[],[],none,none,none,rfl,e3,.nil,⟨hm1,by omega,(fun e he=>by cases he),List.nodup_nil,(fun k a b=>by omega),(fun p hp=>by cases hp),rfl⟩,rfl⟩ ?_ ?_
  ·rintro i σ H4 hi ⟨s4,us,E,z6,z7,z8,rfl,er,hR,hg,le⟩;obtain⟨k,hk⟩:∃k:Nat,k=i+1:=⟨_,rfl⟩
   have ek:(1:Int)+(i:Int)=(k:Int):=by omega
   rw[ek];have lE:(rwH E).length=E.length:=List.length_map ..;refine⟨_,rfl,_,rfl,_,_,rfl,rfl,a,ns,_,2+k,rfl,by omega,s4.seq hS,h63,fun c H5 s5=>?_⟩;have s45:=s4.trans s5;refine⟨_,rfl,_,rfl,_,_,rfl,rfl,_,rfl,_,_,rfl,rfl,(show (m:Int)≠0 by omega),_,rfl,_,rfl,c,1,(k:Int),rfl,by decide,by decide,by omega,fun j' H6 j0 j1 s6=>?_⟩;obtain⟨j,rfl⟩:∃j:Nat,j'=(j:Int):=⟨j'.toNat,by omega⟩
   refine⟨_,rfl,_,_,rfl,rfl,_,rfl,_,_,rfl,rfl,(show (m:Int)≠0 by omega),zl9 2,fun e he=>?_⟩;have s7:=aI he (.tup [.int (Int.fmod ((k:Int)+(t:Int)) (m:Int)),.int (Int.fmod ((j:Int)+(t:Int)) (m:Int))]);have e7:upd H6 e (.tup [.int (Int.fmod ((k:Int)+(t:Int)) (m:Int)),.int (Int.fmod ((j:Int)+(t:Int)) (m:Int))]) e=some (.tup [.int (Int.fmod ((k:Int)+(t:Int)) (m:Int)),.int (Int.fmod ((j:Int)+(t:Int)) (m:Int))]):=aD;generalize upd H6 e (.tup [.int (Int.fmod ((k:Int)+(t:Int)) (m:Int)),.int (Int.fmod ((j:Int)+(t:Int)) (m:Int))])=H7 at s7 e7 ⊢;rw[Cb hm1,Cb hm1] at e7;have s47:=s5.trans (s6.trans s7);have s07:=s4.trans s47;have er7:=s47 _ _ er;refine⟨_,rfl,_,rfl,_,rfl,_,rfl,_,rfl,w,_,rfl,.inl (s07.seq hW),c,0,_,rfl,by decide,by decide,by unfold kws;rw[List.length_map];omega,fun x H8 x0 x1 s8=>?_⟩;have x1:x < (ks.length:Int):=by unfold kws at x1;rwa [List.length_map] at x1
   obtain⟨kd,hkd,ekd⟩:=Wf x0 x1;refine⟨w,_,_,_,rfl,rfl,(s07.trans s8).seq hW,ekd,_,rfl,?_⟩;have s48:=s47.trans s8;refine⟨r,e,c,kd,us,rwH E,_,_,rfl,s48 _ _ er,hR.same s48,by omega,SqT.of (s8 _ _ e7),fun y t9 d H9 H10 hy s9 dk hij lp bp hpc e10 R10=>?_⟩;subst e10;have ho:=Qs (m:=m) (t:=t) (k:=k) (j:=j) (d:=d) hm1 (by omega) (by omega) (by omega) (by rw[dk];exact hks kd hkd) lp bp (by rw[dk];exact hpc) hij;have hg':=Hng.tree hg ho (j:=j) (by rw[hk]) y;have ee:rwH (E.take y++(some (k,j),d) :: E.drop y)=(rwH E).take y++d :: (rwH E).drop y:=Hg ..;rw[<- ee] at R10;exact⟨((s4.trans s48).trans s9).change hr0,us.take y++.ref t9 :: us.drop y,E.take y++(some (k,j),d) :: E.drop y,some (.int (k:Int)),some (.int c),some (.ref e),rfl,aD,R10,hg',by rw[Ge,le]⟩
  ·rintro σ H4 ⟨s4,us,E,z6,z7,z8,rfl,er,hR,hg,le⟩;rw[show ((m:Int) - 1).toNat+1=m by omega] at hg;exact hX _ _ ⟨s4,us,E,z6,z7,z8,rfl,er,hR,hg,by omega⟩
 rintro σ2 H2 ⟨s2,us0,E0',z6,z7,z8,rfl,er0,hR0,hg0,le0⟩;refine⟨_,rfl,8,rfl,_,rfl,_,_,rfl,rfl,8+(ms:Int),rfl,a,_,rfl,s2.seq hS,fun C hC=>?_⟩;have cl:=qc4 (ns.map V.int) ms;obtain⟨cs,em,_⟩:=Cd ns (some 8) (some (8+(ms:Int)));rw[em] at cl ⊢;rw[List.length_map] at cl;have nCr:C≠r:=Ne.symm (bC er0 hC);have s3:=aI hC (.lst (cs.map V.int));have eC:upd H2 C (.lst (cs.map V.int)) C=some (.lst (cs.map V.int)):=aD;generalize upd H2 C (.lst (cs.map V.int))=H3 at s3 eC ⊢;refine⟨C,rfl,⟨_,SqL.of eC⟩,?_⟩;refine hV (xs:=cs.map V.int) (fun n σ H'=>bF H H'/\H' C=some (.lst (cs.map V.int))/\∃(us:List V) (E:List Hn) (z7 z8:Option V),σ=[some (.ref a),some (.int (m:Int)),some (.int (ms:Int)),some (.ref w),some (.ref r),some (.int (t:Int)),z6,z7,z8]/\H' r=some (.lst us)/\Rts K H' us (rwH E)/\Hng m t m E/\E.length=m - 1+n) ⟨s2.trans s3,eC,us0,E0',z7,z8,rfl,s3 _ _ er0,hR0.same s3,hg0,le0⟩ (fun n σ H' _ h=>SqL.of h.2.1) ?_ ?_
 ·rintro n x σ H4 hx ⟨s4,eC4,us,E,z7,z8,rfl,er,hR,hg,le⟩;have hn:n < cs.length:=by
   have:=(List.getElem?_eq_some_iff.mp hx).1
   rwa [List.length_map] at this
  obtain⟨c,rfl⟩:∃c,x=.int c:=by
   rw[List.getElem?_map] at hx
   cases hm:cs[n]? with
   |none=>rw[hm] at hx;cases hx
   |some c=>rw[hm] at hx;cases hx;exact⟨c,rfl⟩
  have lE:(rwH E).length=E.length:=List.length_map ..;refine⟨_,rfl,_,rfl,c,1,(m:Int),rfl,by decide,by decide,by omega,fun i H5 i0 i1 s5=>?_⟩;refine⟨_,rfl,_,rfl,c,9,(m:Int),rfl,by decide,by decide,by omega,fun j H6 j0 j1 s6=>?_⟩;refine⟨zl9 2,fun e he=>?_⟩;have s7:=aI he (.tup [.int i,.int j]);have e7:upd H6 e (.tup [.int i,.int j]) e=some (.tup [.int i,.int j]):=aD;generalize upd H6 e (.tup [.int i,.int j])=H7 at s7 e7 ⊢;have s47:=s5.trans (s6.trans s7);refine⟨_,rfl,_,rfl,zl9 3,fun W2 hW2=>?_⟩;have s8:=aI hW2 (.lst [.str "piece",.str "push",.str "piece"]);have e8:upd H7 W2 (.lst [.str "piece",.str "push",.str "piece"]) W2=some (.lst [.str "piece",.str "push",.str "piece"]):=aD;generalize upd H7 W2 (.lst [.str "piece",.str "push",.str "piece"])=H8 at s8 e8 ⊢;refine⟨_,rfl,c,0,3,rfl,by decide,by decide,by decide,fun x H9 x0 x1 s9=>?_⟩;obtain⟨kd,hkd,ekd⟩:∃k:Kd,k≠.ho/\atI [V.str "piece",.str "push",.str "piece"] x=some (.str (Kd.wd k)):=by
   have:x=0\/x=1\/x=2:=by omega
   rcases this with rfl | rfl | rfl
   ·exact⟨.pc,(fun z=>by cases z),rfl⟩
   ·exact⟨.pu,(fun z=>by cases z),rfl⟩
   ·exact⟨.pc,(fun z=>by cases z),rfl⟩
  refine⟨W2,_,_,_,rfl,rfl,SqL.of (s9 _ _ e8),ekd,_,rfl,?_⟩;have s49:=s47.trans (s8.trans s9);refine⟨r,e,c,kd,us,rwH E,_,_,rfl,s49 _ _ er,hR.same s49,by omega,SqT.of ((s8.trans s9) _ _ e7),fun y t9 d HA HB hy sA dk hij lp bp hpc eB RB=>?_⟩;subst eB;have pt:dA (m:Int) d.2.1 d.2.2.1:=by
   rcases hij with ⟨x,y⟩ | ⟨x,y⟩<;>(rw[x,y];exact⟨by omega,by omega,by omega,by omega⟩)
  have ho:=Tn (m:=m) (t:=t) (d:=d) pt (by rw[dk];exact hkd) lp bp (by rw[dk];exact hpc);have hg':=Hng.ins hg ho rfl y;have ee:rwH (E.take y++(none,d) :: E.drop y)=(rwH E).take y++d :: (rwH E).drop y:=Hg ..;rw[<- ee] at RB;exact⟨((s4.trans s49).trans sA).change hr0,by rw[aV nCr];exact(s49.trans sA) _ _ eC4,us.take y++.ref t9 :: us.drop y,E.take y++(none,d) :: E.drop y,some (.int c),some (.ref e),rfl,aD,RB,hg',by rw[Ge,le];omega⟩
 ·rintro σ H4 ⟨s4,_,us,E,z7,z8,rfl,er,hR,hg,le⟩;rw[List.length_map] at le;exact⟨_,rfl,q r us t E H4 s4 hr0 er hR hg (by omega)⟩
end
end K67
namespace L2
open PySem PySem.Spec PyProof.Rows Shp
structure Dz (m:Nat) (L:Int) (ds:List RD):Prop where
 o:Nof m ds
 m5:m<=5
 w8:wd m ds<=8
 L1:1<=L
 LB:Mq.B 116 L
 dv:∀d∈ds,d.1=.pc->0 < d.2.2.2.1/\d.2.2.2.1 ∣ L/\1<=d.2.2.2.2/\d.2.2.2.2.natAbs<=128
 ok:∀d∈ds,Ht (m:Int) d/\Mq.Bd 41 d.2.2.2
 len:ds.length<=40
section
variable {CN:Addr} {K:Frag} {H:Hp} {n l:Addr} {m:Nat} {L:Int} {ds:List RD}
theorem Gj (a:Nat):∀n,kD (fun _=>a) n=(4*a+20)*n
 |0=>rfl
 |n+1=>by show kD _ n+(4*a+20)=_;rw[Gj a n,Nat.mul_succ]
theorem Dz.eqb (h:Dz m L ds):EqB m 130 L ds:=by
 have w8:=h.w8;have L1:=h.L1;refine⟨h.o,by omega,by omega,by omega,?_,L1,h.LB.mono (by omega),fun i j=>?_⟩
 ·show (130+5)*(wd m ds+1)+8<=4000;omega
 have one:=Mq.Fr.one L1;have c:∀d∈ds,∀k,Mq.Fr L 130 (cM d k (i+1) (j+1)):=fun d hd k=>by
  unfold cM
  cases hk:d.1 with
  |pu=>exact Mq.Fr.zero.mono (Nat.zero_le _)
  |ho=>
   dsimp only;refine(Mq.Fr.add (Hb (Pw one) _ _ _) (N:=1) ?_).mono (by decide);rw[Rat.mul_comm];exact Hb (Pw one) _ _ _
  |pc=>
   obtain⟨p0,dvd,p1,le⟩:=h.dv d hd hk;dsimp only;rw[Rat.mul_assoc];have:1 / Mq.val d.2.2.2=((d.2.2.2.2:Int):Rat) / ((d.2.2.2.1:Int):Rat):=by
    have:=Mq.oO p1;have:=Mq.oO (show 1<=d.2.2.2.1 by omega);unfold Mq.val;grind
   rw[this];exact(Hb (Hb (Mq.Fr.of L1 (by omega) dvd le) _ _ _) _ _ _).mono (by decide)
 refine Mq.Fr.get (m:=13) (n:=116) (Mm m c) ?_ h.LB (by omega)
 calc ds.length*130<=40*130:=Nat.mul_le_mul_right _ h.len
  _ < 2 ^ 13:=by decide
theorem Dz.net (h:Dz m L ds)(nt:fY CN K H n l (m:Int) ds):Jv CN K H n l m 130 (fun _=>41) L ds:=by
 have m5:=h.m5;have len:=h.len;refine⟨nt,fun i d hd=>h.ok d (List.mem_of_getElem? hd),by omega,h.len,?_,h.eqb⟩;rw[Gj];omega
theorem Dz.bwle (h:Dz m L ds):bw 130 (wd m ds)<=1223:=by
 have w8:=h.w8;show (130+5)*(wd m ds+1)+8<=1223;omega
theorem Dz.rds (h:Dz m L ds):vI m 41 ds:=by
 have m5:=h.m5;have len:=h.len;exact⟨h.o.pt,h.o.pos,fun d hd=>(h.ok d hd).1.2.2.2.2.1,fun d hd=>(h.ok d hd).2,by decide,by decide,by omega,by omega⟩
structure Sz (s:Mq.Q2):Prop where
 lo:Mq.Low s
 po:0 < s.1
 bd:Mq.Bd 41 s
 le:s.2.natAbs<=16
theorem Sz.pos {s:Mq.Q2}(h:Sz s):0 < Mq.val s:=by
 have:=h.lo.pos;unfold Mq.val;rw[Rat.div_def];exact Rat.mul_pos (by exact_mod_cast h.po) (Rat.inv_pos.mpr (by exact_mod_cast (show 0 < s.2 by omega)))
theorem Pb (ds:List RD)(i j:Int)(s:Mq.Q2):eZ .ho (ds++[(.pc,i,j,s)])=eZ .ho ds:=by
 unfold eZ;rw[List.filter_append];show _++[]=_;rw[List.append_nil]
theorem Dz.grow {m':Nat}{s:Mq.Q2}{b c:Nat}(h:Dz m L ds)(LB:Mq.B 50 L)(sz:Sz s)(mm:m<=m')(m5:m'<=5)(w:m' - 1+bQ ds<=8)(hb:b < m')(hc:c < m')(len:ds.length < 40)(cn:∀p,p < m'->Cn (ds++[(.pc,(b:Int),(c:Int),s)]) 0 p):Dz m' (L*s.1) (ds++[(.pc,(b:Int),(c:Int),s)]):=by
 have L1:=h.L1;have po:=sz.po;have m1:=h.o.m1;have eh:bQ (ds++[(.pc,(b:Int),(c:Int),s)])=bQ ds:=by unfold bQ;rw[Pb]
 have ok':∀d∈ds++[(.pc,(b:Int),(c:Int),s)],Ht (m':Int) d/\Mq.Bd 41 d.2.2.2:=fun d hd=>by
  rcases List.mem_append.mp hd with z | z
  ·obtain⟨⟨r1,r2,r3,r4,r⟩,q⟩:=h.ok d z;exact⟨⟨r1,by omega,r3,by omega,r⟩,q⟩
  ·have:d=(.pc,(b:Int),(c:Int),s):=by simpa using z
   subst this;exact⟨⟨Int.natCast_nonneg _,by show (b:Int) < m';omega,Int.natCast_nonneg _,by show (c:Int) < m';omega,sz.lo,fun _=>po,sz.bd.mono (by omega)⟩,sz.bd⟩
 refine⟨⟨by omega,fun d hd=>?_,fun d hd hk=>?_,cn,?_⟩,m5,?_,Int.mul_pos (by omega) po,(LB.mul sz.bd.a).mono (by omega),fun d hd hk=>?_,ok',by rw[List.length_append];simp only[List.length_cons,List.length_nil];omega⟩
 ·obtain⟨⟨r1,r2,r3,r4,_⟩,_⟩:=ok' d hd;exact⟨r1,r2,r3,r4⟩
 ·rcases List.mem_append.mp hd with z | z
  ·exact h.o.pos d z hk
  ·have:d=(.pc,(b:Int),(c:Int),s):=by simpa using z
   subst this;exact sz.pos
 ·exact Frs.sel (by rw[Pb]) h.o.fr
 ·show m' - 1+bQ (ds++[(.pc,(b:Int),(c:Int),s)])<=8;rw[eh];exact w
 ·rcases List.mem_append.mp hd with z | z
  ·obtain⟨a1,a2,a3,a4⟩:=h.dv d z hk;exact⟨a1,Int.dvd_trans a2 (Int.dvd_mul_right _ _),a3,a4⟩
  ·have:d=(.pc,(b:Int),(c:Int),s):=by simpa using z
   subst this;exact⟨po,Int.dvd_mul_left _ _,sz.lo.pos,Nat.le_trans sz.le (by decide)⟩
theorem Dz.add {s:Mq.Q2}{a b:Nat}(h:Dz m L ds)(LB:Mq.B 50 L)(sz:Sz s)(ha:a < m)(hb:b < m)(len:ds.length < 40):Dz m (L*s.1) (ds++[(.pc,(b:Int),(a:Int),s)]):=
 h.grow LB sz (Nat.le_refl _) h.m5 h.w8 hb ha len fun p hp=>Cn.mono (fun x hx=>List.mem_append_left _ hx) (h.o.cn p hp)
theorem Dz.led {s:Mq.Q2}{b:Nat}(h:Dz m L ds)(LB:Mq.B 50 L)(sz:Sz s)(m4:m<=4)(w7:wd m ds<=7)(hb:b < m)(len:ds.length < 40):Dz (m+1) (L*s.1) (ds++[(.pc,(b:Int),(m:Int),s)]):=by
 have m1:=h.o.m1;refine h.grow LB sz (by omega) (by omega) (by unfold wd at w7;omega) (by omega) (by omega) len fun p hp=>?_
 by_cases c:p < m
 ·exact Cn.mono (fun x hx=>List.mem_append_left _ hx) (h.o.cn p c)
 ·have:p=m:=by omega
  subst this;have r:=Cn.row (ds:=ds++[(.pc,(b:Int),(p:Int),s)]) (d:=(.pc,(b:Int),(p:Int),s)) (by simp) (fun z=>by cases z);exact(Cn.mono (fun x hx=>List.mem_append_left _ hx) (h.o.cn b hb)).trans r
theorem Dz.set (h:Dz m L ds){i:Nat}{u w:Int}{p q:Mq.Q2}(hd:ds[i]?=some (.pc,u,w,p))(lo:Mq.Low q)(po:0 < q.1)(dq:q.1 ∣ p.1)(le:q.2.natAbs<=128)(bd:Mq.Bd 41 q):Dz m L (ds.set i (.pc,u,w,q)):=by
 have mem:=List.mem_of_getElem? hd;obtain⟨p0,dvd,p1,_⟩:=h.dv _ mem rfl;obtain⟨ro,_⟩:=h.ok _ mem;have ek:ds.map sk3=(ds.set i (.pc,u,w,q)).map sk3:=Vw hd rfl;have qp:∀d∈ds.set i (.pc,u,w,q),d.1=.pc->0 < Mq.val d.2.2.2:=fun d hm hk=>by
  rcases List.mem_or_eq_of_mem_set hm with z | z
  ·exact h.o.pos d z hk
  ·rw[z];show 0 < Mq.val q;have:=lo.pos;unfold Mq.val;rw[Rat.div_def];exact Rat.mul_pos (by exact_mod_cast po) (Rat.inv_pos.mpr (by exact_mod_cast (show 0 < q.2 by omega)))
 refine⟨Nof.sk ek h.o qp,h.m5,?_,h.L1,h.LB,fun d hm hk=>?_,fun d hm=>?_,by rw[List.length_set];exact h.len⟩
 ·show m - 1+bQ (ds.set i (.pc,u,w,q))<=8;rw[<- Vh ek];exact h.w8
 ·rcases List.mem_or_eq_of_mem_set hm with z | z
  ·exact h.dv d z hk
  ·rw[z];exact⟨po,Int.dvd_trans dq dvd,lo.pos,le⟩
 ·rcases List.mem_or_eq_of_mem_set hm with z | z
  ·exact h.ok d z
  ·rw[z];obtain⟨r1,r2,r3,r4,_⟩:=ro;exact⟨⟨r1,r2,r3,r4,lo,fun _=>po,bd.mono (by omega)⟩,bd⟩
theorem Hng.dz {t:Nat}{E:List Hn}(h:Hng m t m E)(m4:m<=4)(le:E.length<=m - 1+7):Dz m (LH E) (rwH E)/\Mq.B 50 (LH E)/\wd m (rwH E)<=7/\(rwH E).length < 40/\∀d∈rwH E,Mq.Bd 7 d.2.2.2/\(d.1=.pc->Mq.Bd 4 d.2.2.2):=by
 have m1:=h.m1;obtain⟨L1,LB,dv⟩:=h.L;have hl:=h.hold_le;have lE:(rwH E).length=E.length:=List.length_map ..;have w:wd m (rwH E)<=7:=by unfold wd;omega
 refine⟨⟨h.nof,by omega,by omega,L1,LB.mono (by omega),fun d hd hk=>?_,fun d hd=>?_,by omega⟩,LB.mono (by omega),w,by omega,fun d hd=>?_⟩
 ·obtain⟨a,b,c,e⟩:=dv d hd hk;exact⟨a,b,c,by omega⟩
 ·obtain⟨e,he,rfl⟩:=List.mem_map.mp hd;have oe:=h.en e he;obtain⟨p1,p2,p3,p4⟩:=oe.pt;exact⟨⟨p1,p2,p3,p4,oe.sl,fun hk=>(oe.pc hk).1,oe.bd.mono (by omega)⟩,oe.bd.mono (by omega)⟩
 ·obtain⟨e,he,rfl⟩:=List.mem_map.mp hd;exact⟨(h.en e he).bd,fun hk=>((h.en e he).pc hk).2⟩
end
end L2
namespace K67
open PySem L2 Shp
section
variable {P:Program} {w:World} {K:Frag} {mg:Str->Option Value} {base:Heap} {f g1 g2 g3 g4 g5 g6 g7 g8:Addr} {fd gd1 gd2 gd3 gd4 gd5 gd6 gd7 gd8:FuncData} {CX:CXT}
variable {CR:Addr} {CK:Kd->Addr} {fW fJ fT fS:Kd->Addr} {fdW fdJ fdT fdS:Kd->FuncData}
theorem Xc {p q:Mq.Q2}(hp:1<=p.2)(hq:1<=q.2)(h:Mq.val p<=Mq.val q):p.1*q.2<=q.1*p.2:=by
 rcases Int.lt_or_le (q.1*p.2) (p.1*q.2) with c | c
 ·have:=(zR hq hp).mp c;exact absurd h (Rat.not_le.mpr this)
 ·exact c
def Ei (K:Frag):Sp:=fun vs H Q _=>∃(a b:Addr) (p q:Mq.Q2) (n m:Nat),vs=[.ref a,.ref b]/\Fq K H a p/\Fq K H b q/\1<=p.2/\1<=q.2/\Mq.Bd n p/\Mq.Bd m q/\n+m+1<=9000/\Mq.val p<=Mq.val q/\Q (.bl true) H
abbrev wL:Stmt:=top 89
theorem Xg:aT ["_law_one","_law_other"] ["_law_one","_law_other"] (aE wL):=sK9 rfl rfl rfl rfl (by decide +kernel)
theorem Tu {dV:Value}(F:bZ K "_law_no_more" "_law_no_more" wL dV f fd) :
  aM P w K mg base CX 1 f fd ["_law_one","_law_other"] (Ei K):=by
 refine F.ok Xg (fun vs H Q E h=>?_) fun cdv A outer s H vs Q E hr h=>?_
 ·obtain⟨_,_,_,_,_,_,rfl,_⟩:=h;rfl
 obtain⟨a,b,p,q,n,m,rfl,ha,hb,p1,q1,bp,bq,hn,le,z⟩:=h;refine⟨_,(aH (aZ (jC Yc (aY cQ (aU aX (pv 0) aF (fun _ _=>rfl)) (aU aX (pv 1) aF (fun _ _=>rfl))) (aY cQ (aU aX (pv 1) aF (fun _ _=>rfl)) (aU aX (pv 0) aF (fun _ _=>rfl))) (bO _)))),?_⟩;have c:=Xc p1 q1 le;refine dU rfl ha (cT rfl hb (cO bp.a bq.b (by omega) (by omega) (dU rfl hb (cT rfl ha (cO bq.a bp.b (by omega) (by omega) ⟨_,_,rfl,rfl,?_⟩)))));show Q (.bl (decide (p.1*q.2<=q.1*p.2))) H;rw[decide_eq_true c];exact z
structure Fnd (K:Frag) (H:Hp) (m:Nat) (L:Int) (ds:List RD) (a b:Nat) (e f:Addr) (pf:Mq.Q2) (v:Nat->Rat):Prop where
 dz:Dz m L ds
 lb:Mq.B 50 L
 w7:wd m ds<=7
 m4:m<=4
 len:ds.length < 40
 ha:a < m
 hb:b < m
 he:SqT K H e [.int (a:Int),.int (b:Int)]
 ff:Fq K H f pf
 lo:Mq.Low pf
 bd:Mq.Bd 1224 pf
 sb:dD m ds a b v
 vf:Mq.val pf=v a - v b
theorem Fnd.same {K:Frag}{H H':Hp}{m a b:Nat}{L:Int}{ds:List RD}{e f:Addr}{pf:Mq.Q2}{v:Nat->Rat}(s:bF H H')(h:Fnd K H m L ds a b e f pf v):Fnd K H' m L ds a b e f pf v:=⟨h.dz,h.lb,h.w7,h.m4,h.len,h.ha,h.hb,s.seqT h.he,s.fq h.ff,h.lo,h.bd,h.sb,h.vf⟩
theorem Fnd.nn {K:Frag}{H:Hp}{m a b:Nat}{L:Int}{ds:List RD}{e f:Addr}{pf:Mq.Q2}{v:Nat->Rat}(h:Fnd K H m L ds a b e f pf v):0<=Mq.val pf:=by rw[h.vf];exact h.sb.nn h.dz.o h.ha h.hb
def Oa (K:Frag):Sp:=fun vs H Q _=>∃(r e f z:Addr) (us:List V) (m a b:Nat) (L:Int) (ds:List RD) (v:Nat->Rat) (pf s:Mq.Q2),vs=[.ref r,.int (m:Int),.ref e,.ref f,.ref z]/\H r=some (.lst us)/\Rts K H us ds/\Fnd K H m L ds a b e f pf v/\Fq K H z s/\Sz s/\∀H',bF H H'->Q (.bl true) H'
theorem qd3 {m:Nat}{ds:List RD}{a b:Nat}{v:Nat->Rat}{s:Mq.Q2}(o:Nof m ds)(o':Nof (m+1) (ds++[(.pc,(b:Int),(m:Int),s)]))(h:dD m ds a b v)(ha:a < m)(hb:b < m)(s0:0 < Mq.val s):dD (m+1) (ds++[(.pc,(b:Int),(m:Int),s)]) a m (lft m v (v b - 1*Mq.val s)):=by
 have:=dD.led o o' h ha hb s0 1;rw[show (fun x=>un a x - (1 - 1)*un b x - 1*un m x)=fun x=>un a x - un m x from funext fun x=>by grind] at this;exact this
theorem qd0 {m:Nat}{ds:List RD}{a b:Nat}{v:Nat->Rat}{s:Mq.Q2}(o:Nof m ds)(o':Nof (m+1) (ds++[(.pc,(b:Int),(m:Int),s)]))(h:dD m ds a b v)(ha:a < m)(hb:b < m)(s0:0 < Mq.val s):dD (m+1) (ds++[(.pc,(b:Int),(m:Int),s)]) a b (lft m v (v b - 0*Mq.val s)):=by
 have:=dD.led o o' h ha hb s0 0;rw[show (fun x=>un a x - (1 - 0)*un b x - 0*un m x)=fun x=>un a x - un b x from funext fun x=>by grind] at this;exact this
theorem Qn {p:Mq.Q2}(l:1<=p.2)(h:0 < Mq.val p):0 < p.1:=by
 have:=(zR (p:=(0,1)) (q:=p) (by decide) l).mpr (by rw[Mq.pF];exact h);simpa using this
abbrev yN:Stmt:=top 90
theorem pV:aT ["_law_rows","_law_many","_law_ends","_law_found","_law_size_here","_law_a","_law_b","_law_net_here","_law_due"] ["_law_rows","_law_many","_law_ends","_law_found","_law_size_here"] (aE yN):=sK9 rfl rfl rfl rfl (by decide +kernel)
theorem Sq {dV:Value}(F:bZ K "_law_more_rows" "_law_more_rows" yN dV f fd){CN:Addr}(G1:aM P w K mg base CX0 6 g1 gd1 ["_law_many","_law_rows"] (Aj CN K))(b1:aQ K gd1 ["_law_many","_law_rows"] [])(k1:kI9 K g1)(m1:mI9 mg "_law_net" g1)(G2:aM P w K mg base CX0 2 g2 gd2 ["_law_one","_law_other"] (zB K))(b2:aQ K gd2 ["_law_one","_law_other"] [])(k2:kI9 K g2)(m2:mI9 mg "_law_by" g2)(G3:aM P w K mg base CX0 2 g3 gd3 ["_law_one","_law_other"] (iV K Mq.gM))(b3:aQ K gd3 ["_law_one","_law_other"] [])(k3:kI9 K g3)(m3:mI9 mg "_law_times" g3)(G4:aM P w K mg base CX0 2 g4 gd4 ["_law_one","_law_other"] (iV K Mq.fL))(b4:aQ K gd4 ["_law_one","_law_other"] [])(k4:kI9 K g4)(m4:mI9 mg "_law_plus" g4)(G5:aM P w K mg base CX0 1 g5 gd5 ["_law_found","_law_due"] (zA K))(b5:aQ K gd5 ["_law_found","_law_due"] [])(k5:kI9 K g5)(m5:mI9 mg "_law_told" g5)(G6:aM P w K mg base CX0 9 g6 gd6 ["net","a","b"] (Fz CN K))(b6:aQ K gd6 ["net","a","b"] [])(k6:kI9 K g6)(m6:mI9 mg "between" g6) :
  aM P w K mg base CX 10 f fd ["_law_rows","_law_many","_law_ends","_law_found","_law_size_here"] (Oa K):=by
 refine F.ok pV (fun vs H Q E h=>?_) fun cdv A outer s H vs Q E hr h=>?_
 ·obtain⟨_,_,_,_,_,_,_,_,_,_,_,_,_,rfl,_⟩:=h;rfl
 obtain⟨r,e,f,z,us,m,a,b,L,ds,v,pf,s,rfl,er,hR,FD,fz,sz,q⟩:=h;have r1:=hr.mono (show 1<=9 by omega);have r2:=hr.mono (show 2<=9 by omega);have r6:=hr.mono (show 6<=9 by omega);refine⟨_,(aC (qF (pv 2) (lF rfl (dC (bL (i:=5) pV.nd rfl (Or.inl rfl)) (dC (bL (i:=6) pV.nd rfl (Or.inl rfl)) iY))))
  (aC (aS (i:=7) pV.nd rfl (Or.inl rfl) (aG G1 r6 rfl m1 k1 b1 .nil aL (aA (pv 1) (aA (aY nH (pv 0) (cX (aA (dM (aA cW (aA (pv 6) (aA (pv 5) (aA (pv 4) aB))))) aB))) aB))))
  (aC (aS (i:=8) pV.nd rfl (Or.inl rfl) (aG G2 r2 rfl m2 k2 b2 .nil aL (aA (aG G3 r2 rfl m3 k3 b3 .nil aL (aA (pv 3) (aA (pv 4) aB))) (aA (aG G4 r2 rfl m4 k4 b4 .nil aL (aA (pv 3) (aA (pv 4) aB))) aB))))
  (aC (cK (eU (cY (aG G5 r1 rfl m5 k5 b5 .nil aL (aA (aG G6 hr rfl m6 k6 b6 .nil aL (aA (pv 7) (aA (pv 5) (aA (pv 6) aB)))) (aA (pv 8) aB))))) (aH (aZ jV)) bK)
  (aC (aS (i:=7) pV.nd rfl (Or.inl rfl) (aG G1 r6 rfl m1 k1 b1 .nil aL (aA (aY dP (pv 1) aF) (aA (aY nH (pv 0) (cX (aA (dM (aA cW (aA (pv 6) (aA (pv 1) (aA (pv 4) aB))))) aB))) aB))))
  (aH (aZ (rK (aG G5 r1 rfl m5 k5 b5 .nil aL (aA (aG G6 hr rfl m6 k6 b6 .nil aL (aA (pv 7) (aA (pv 5) (aA (pv 1) aB)))) (aA (aG G4 r2 rfl m4 k4 b4 .nil aL (aA (pv 3) (aA (pv 4) aB))) aB))) (uL (aG G5 r1 rfl m5 k5 b5 .nil aL (aA (aG G6 hr rfl m6 k6 b6 .nil aL (aA (pv 7) (aA (pv 5) (aA (pv 6) aB)))) (aA (pv 3) aB)))))))))))),?_⟩
 have DZ:=FD.dz;have o:=DZ.o;have m1:=o.m1;have m4:=FD.m4;have len:=FD.len;have ha:=FD.ha;have hb:=FD.hb;have lus:=hR.length;have sp:=sz.pos;have nn:=FD.nn;have D1:=DZ.add FD.lb sz ha hb len;have D2:=DZ.led FD.lb sz m4 FD.w7 hb len;refine⟨_,rfl,e,_,rfl,FD.he,rfl,_,_,rfl,_,_,rfl,rfl,?_⟩;refine⟨_,rfl,_,rfl,_,rfl,_,rfl,_,rfl,zl9 4,fun t1 ht1=>?_⟩;have s1:=aI ht1 (.tup [.str "piece",.int (b:Int),.int (a:Int),.ref z]);have e1:upd H t1 (.tup [.str "piece",.int (b:Int),.int (a:Int),.ref z]) t1=some (.tup [.str "piece",.int (b:Int),.int (a:Int),.ref z]):=aD;generalize upd H t1 (.tup [.str "piece",.int (b:Int),.int (a:Int),.ref z])=H1 at s1 e1 ⊢;refine⟨zl9 1,fun l2 hl2=>?_⟩;have s2:=aI hl2 (.lst [.ref t1]);have e2:upd H1 l2 (.lst [.ref t1]) l2=some (.lst [.ref t1]):=aD;generalize upd H1 l2 (.lst [.ref t1])=H2 at s2 e2 ⊢;refine⟨r,l2,_,_,rfl,rfl,(s1.trans s2) _ _ er,e2,Nat.le_of_lt (bH (by simp only[List.length_cons,List.length_nil];omega)),fun R3 hR3=>?_⟩;have s3:=aI hR3 (.lst (us++[.ref t1]));have e3:upd H2 R3 (.lst (us++[.ref t1])) R3=some (.lst (us++[.ref t1])):=aD;generalize upd H2 R3 (.lst (us++[.ref t1]))=H3 at s3 e3 ⊢;have s03:=s1.trans (s2.trans s3);have R1:Rts K H3 (us++[.ref t1]) (ds++[(.pc,(b:Int),(a:Int),s)]):=(hR.same s03).app (.cons (k:=.pc) (SqT.of ((s2.trans s3) _ _ e1)) (s03.fq fz) .nil);refine⟨(m:Int),R3,_,_,rfl,by omega,by omega,SqL.of e3,R1,(fun d hd=>(D1.ok d hd).1),D1.len,fun n1 l1 H4 s4 nl1 nt1=>?_⟩;have s04:=s03.trans s4;refine⟨_,rfl,_,rfl,f,z,pf,s,1224,41,rfl,(FD.same s04).ff,s04.fq fz,FD.lo.pos,sz.lo.pos,FD.bd,sz.bd,by omega,fun r5 H5 s5 e5=>?_⟩;have s05:=s04.trans s5;refine⟨_,rfl,_,rfl,f,z,pf,s,1224,41,rfl,(FD.same s05).ff,s05.fq fz,FD.lo.pos,sz.lo.pos,FD.bd,sz.bd,by omega,fun r6' H6 s6 e6=>?_⟩;have lt:=Mq.yF FD.lo.pos sz.lo.pos;have lp:=Mq.jM FD.lo.pos sz.lo.pos;have vt:=Mq.yE FD.lo.pos sz.lo.pos;have vp:=Mq.jN FD.lo.pos sz.lo.pos;have bt:=Mq.Ax FD.bd sz.bd FD.lo.pos sz.lo.pos;have bp:=Mq.mD FD.bd sz.bd FD.lo.pos sz.lo.pos;have pp:0 < (Mq.fL pf s).1:=Qn lp.pos (by rw[vp];grind);have pn:(Mq.fL pf s).1≠0:=by omega
 have f5:Fq K H6 r5 (Mq.gM pf s):=s6.fq (Fq.of e5);have f6:Fq K H6 r6' (Mq.fL pf s):=Fq.of e6;refine⟨r5,r6',_,_,_,_,rfl,f5,f6,lt.pos,lp.pos,pp,bt,bp,by omega,fun r7 H7 s7 e7=>?_⟩;have f7:Fq K H7 r7 (Mq.oE (Mq.gM pf s) (Mq.fL pf s)):=Fq.of e7;have l7:=Mq.Ao (p:=Mq.gM pf s) (q:=Mq.fL pf s) lt.pos pn;have v7:=Mq.Ct (p:=Mq.gM pf s) (q:=Mq.fL pf s) lt.pos lp.pos pn;rw[vt,vp] at v7;generalize Mq.oE (Mq.gM pf s) (Mq.fL pf s)=due at f7 l7 v7;have s47:=s5.trans (s6.trans s7);refine⟨_,rfl,_,rfl,_,rfl,n1,l1,m,130,_,_,_,a,b,rfl,D1.net (nt1.same s47),ha,hb,fun r8 p8 v8 H8 s8 f8 l8 b8 SB8 ev8=>?_⟩;have u8:=Sv.uni D1.o SB8 (dD.beside o D1.o FD.sb ha hb sp);have wm:m - 1<=wd m (ds++[(.pc,(b:Int),(a:Int),s)]):=Nat.le_add_right ..;have e8:p8=due:=by
  refine Mq.sY l8 l7 ?_;rw[ev8,u8 a (by omega),u8 b (by omega),v7];rw[<- FD.vf];have vf:=FD.vf;generalize Mq.val pf=x at *
  generalize Mq.val s=y at *
  have:x+y≠0:=by grind
  grind
 subst e8;refine⟨_,rfl,r8,r7,p8,rfl,f8,s8.fq f7,_,rfl,dX ?_⟩;have s48:=s47.trans s8;have s08:=s04.trans s48;refine⟨_,rfl,_,_,rfl,rfl,_,rfl,_,rfl,_,rfl,_,rfl,zl9 4,fun tA htA=>?_⟩;have sA:=aI htA (.tup [.str "piece",.int (b:Int),.int (m:Int),.ref z]);have eA:upd H8 tA (.tup [.str "piece",.int (b:Int),.int (m:Int),.ref z]) tA=some (.tup [.str "piece",.int (b:Int),.int (m:Int),.ref z]):=aD;generalize upd H8 tA (.tup [.str "piece",.int (b:Int),.int (m:Int),.ref z])=HA at sA eA ⊢;refine⟨zl9 1,fun lB hlB=>?_⟩;have sB:=aI hlB (.lst [.ref tA]);have eB:upd HA lB (.lst [.ref tA]) lB=some (.lst [.ref tA]):=aD;generalize upd HA lB (.lst [.ref tA])=HB at sB eB ⊢;refine⟨r,lB,_,_,rfl,rfl,(s08.trans (sA.trans sB)) _ _ er,eB,Nat.le_of_lt (bH (by simp only[List.length_cons,List.length_nil];omega)),fun RC hRC=>?_⟩;have sC:=aI hRC (.lst (us++[.ref tA]));have eC:upd HB RC (.lst (us++[.ref tA])) RC=some (.lst (us++[.ref tA])):=aD;generalize upd HB RC (.lst (us++[.ref tA]))=HC at sC eC ⊢;have s0C:=s08.trans (sA.trans (sB.trans sC));have R2:Rts K HC (us++[.ref tA]) (ds++[(.pc,(b:Int),(m:Int),s)]):=(hR.same s0C).app (.cons (k:=.pc) (SqT.of ((sB.trans sC) _ _ eA)) (s0C.fq fz) .nil);have em:(m:Int)+1=((m+1:Nat):Int):=by omega
 refine⟨((m+1:Nat):Int),RC,_,_,(by show [V.int ((m:Int)+1),V.ref RC]=[V.int ((m+1:Nat):Int),V.ref RC];rw[em]),by omega,by omega,SqL.of eC,R2,(fun d hd=>(D2.ok d hd).1),D2.len,fun n2 lD HD sD nl2 nt2=>?_⟩;have s0D:=s0C.trans sD;refine⟨_,rfl,_,rfl,_,rfl,n2,lD,m+1,130,_,_,_,a,m,rfl,D2.net nt2,by omega,by omega,fun rE pE vE HE sE fE lE bE SBE evE=>?_⟩;have s0E:=s0D.trans sE;refine⟨_,rfl,_,rfl,f,z,pf,s,1224,41,rfl,(FD.same s0E).ff,s0E.fq fz,FD.lo.pos,sz.lo.pos,FD.bd,sz.bd,by omega,fun rF HF sF eF=>?_⟩;have fF:Fq K HF rF (Mq.fL pf s):=Fq.of eF;have wm2:m<=wd (m+1) (ds++[(.pc,(b:Int),(m:Int),s)]):=by unfold wd;omega
 have uE:=Sv.uni D2.o SBE (qd3 o D2.o FD.sb ha hb sp);have eE:pE=Mq.fL pf s:=by
  refine Mq.sY lE lp ?_;rw[evE,uE a (by omega),uE m (by omega),nV ha,Kx,vp,FD.vf];grind
 subst eE;refine⟨rE,rF,Mq.fL pf s,rfl,sF.fq fE,fF,_,rfl,fM ?_⟩;have s0F:=s0E.trans sF;refine⟨_,rfl,_,rfl,_,rfl,n2,lD,m+1,130,_,_,_,a,b,rfl,D2.net (nt2.same (sE.trans sF)),by omega,by omega,fun rG pG vG HG sG fG lG bG SBG evG=>?_⟩;have uG:=Sv.uni D2.o SBG (qd0 o D2.o FD.sb ha hb sp);have eG:pG=pf:=by
  refine Mq.sY lG FD.lo ?_;rw[evG,uG a (by omega),uG b (by omega),nV ha,nV hb,FD.vf]
 subst eG;exact⟨_,rfl,rG,f,pG,rfl,fG,(FD.same (s0F.trans sG)).ff,q _ (s0F.trans sG)⟩
theorem Ny {α:Type}{l:List α}{i:Nat}{x:α}(h:l[i]?=some x):l.set i x=l:=by
 refine List.ext_getElem? fun j=>?_;rw[List.getElem?_set]
 by_cases c:i=j
 ·subst c;rw[if_pos rfl,h,if_pos (List.getElem?_eq_some_iff.mp h).1]
 ·rw[if_neg c]
theorem Rt {m a b i:Nat}{ds:List RD}{u w:Int}{p q:Mq.Q2}{v v':Nat->Rat}(o:Nof m ds)(o':Nof m (ds.set i (.pc,u,w,q)))(hd:ds[i]?=some (.pc,u,w,p))(h:dD m ds a b v)(h':dD m (ds.set i (.pc,u,w,q)) a b v')(ha:a < m)(hb:b < m)(q0:0 < Mq.val q)(le:Mq.val q<=Mq.val p):v' a - v' b<=v a - v b:=by
 have hi:=(List.getElem?_eq_some_iff.mp hd).1;have e1:ds=ds.take i++(.pc,u,w,p) :: ds.drop (i+1):=by
  have:ds[i]=(.pc,u,w,p):=by rw[List.getElem?_eq_getElem hi] at hd;exact Option.some.inj hd
  rw[<- this,List.getElem_cons_drop,List.take_append_drop]
 have e2:ds.set i (.pc,u,w,q)=ds.take i++(.pc,u,w,q) :: ds.drop (i+1):=by rw[List.set_eq_take_append_cons_drop,if_pos hi]
 refine ray o o' h h' ha hb (fun d hm hk=>⟨d,?_,hk,rfl,rfl⟩) ?_
 ·rw[e1] at hm;rw[e2];rcases List.mem_append.mp hm with z | z
  ·exact List.mem_append_left _ z
  ·rcases List.mem_cons.mp z with z | z
   ·rw[z] at hk;cases hk
   ·exact List.mem_append_right _ (List.mem_cons_of_mem _ z)
 ·rw[e2]
  conv=>lhs;rw[e1]
  exact Qu v' rfl rfl rfl rfl q0 le
def Ks (CN:Addr)(K:Frag):Sp:=fun vs H Q _=>∃(n l r e f:Addr) (us:List V) (m a b:Nat) (c L:Int) (ds:List RD) (v:Nat->Rat) (pf:Mq.Q2),vs=[.ref n,.ref r,.ref e,.ref f,.int c]/\fY CN K H n l (m:Int) ds/\l≠r/\H r=some (.lst us)/\Rts K H us ds/\Fnd K H m L ds a b e f pf v/\(∀d∈ds,d.1=.pc->Mq.Bd 4 d.2.2.2)/\∀H',Q (.bl true) H'
theorem Je:(["_law_k","_law_rows"]:List Str).Nodup:=by decide +kernel
abbrev yA:Stmt:=top 91
theorem vS:aT ["_law_net_here","_law_rows","_law_ends","_law_found","_law_cell","_law_pieces","_law_at","_law_size_here","_law_less"] ["_law_net_here","_law_rows","_law_ends","_law_found","_law_cell"] (aE yA):=sK9 rfl rfl rfl rfl (by decide +kernel)
theorem Qi {dV:Value}(F:bZ K "_law_smaller" "_law_smaller" yA dV f fd){CN:Addr}(NTx:NT K mg CN)(ml:mg "len"=none)(mr:mg "range"=none){gCh:Addr}{gdCh:FuncData}(GCh:aM P w K mg base CX0 5 gCh gdCh ["self","k","size"] (Av CN K))(bCh:aQ K gdCh ["self","k","size"] [])(mCh:iB K CN "change" gCh)(G1:aM P w K mg base CX0 1 g1 gd1 ["_law_cell","_law_turn","_law_many"] xM)(b1:aQ K gd1 ["_law_cell","_law_turn","_law_many"] [])(k1:kI9 K g1)(m1:mI9 mg "_law_mix" g1)(G2:aM P w K mg base CX0 2 g2 gd2 ["_law_one","_law_other"] (iV K Mq.gM))(b2:aQ K gd2 ["_law_one","_law_other"] [])(k2:kI9 K g2)(m2:mI9 mg "_law_times" g2)(G3:aM P w K mg base CX0 9 g3 gd3 ["net","a","b"] (Fz CN K))(b3:aQ K gd3 ["net","a","b"] [])(k3:kI9 K g3)(m3:mI9 mg "between" g3)(G4:aM P w K mg base CX0 1 g4 gd4 ["_law_found","_law_due"] (zA K))(b4:aQ K gd4 ["_law_found","_law_due"] [])(k4:kI9 K g4)(m4:mI9 mg "_law_told" g4)(G5:aM P w K mg base CX0 1 g5 gd5 ["_law_one","_law_other"] (Ei K))(b5:aQ K gd5 ["_law_one","_law_other"] [])(k5:kI9 K g5)(m5:mI9 mg "_law_no_more" g5) :
  aM P w K mg base CX 10 f fd ["_law_net_here","_law_rows","_law_ends","_law_found","_law_cell"] (Ks CN K):=by
 refine F.ok vS (fun vs H Q E h=>?_) fun cdv A outer s H vs Q E hr h=>?_
 ·obtain⟨_,_,_,_,_,_,_,_,_,_,_,_,_,_,rfl,_⟩:=h;rfl
 obtain⟨n,l,r,e,f,us,m,a,b,c,L,ds,v,pf,rfl,nt,nlr,er,hR,FD,hb4,q⟩:=h;have hu:=hr.units;have r1:=hr.mono (show 1<=9 by omega);have r2:=hr.mono (show 2<=9 by omega);have r5:=hr.mono (show 5<=9 by omega);refine⟨_,(aC (tT (i:=5) (nl:=1) (fr:=[1]) (Nc:=["_law_k","_law_rows"]) (cl:=[("_law_rows",s.heap.objs.size+1)]) vS.nd rfl rfl rfl ⟨rfl,rfl,by decide +kernel,by decide +kernel,fun x c h=>h,gD rfl,rfl,fun i n h=>match i,h with | 0,h=>by cases h;exact⟨1,rfl,rfl,rfl,rfl,.inl rfl⟩ | k+1,h=>by rw[show 1+(k+1)=k+2 by omega] at h;cases h⟩
    (iK rfl mr (aA (cL bS rfl ml PySem.boot_len (aA (pv 1) aB)) aB)) (fun C s3 H3 fp pins=>(bL (i:=0) Je rfl (Or.inl rfl))) (fun C s3 H3 fp pins=>(tU (bM gH (aU (oQ (K:=K) rfl) (aU (uZ (K:=K) rfl) (pv 1) (pv 0) (fun _ _=>rfl)) aF (fun _ _=>rfl)) cW (bO _))))
    (fun C s3 H3 fp pins=>(pv 0)) rfl)
  (aC (cK (bM (zL hu) (pv 5) (cX aB) (bO _)) (aH (aZ jV)) bK)
  (aC (aS (i:=6) vS.nd rfl (Or.inl rfl) (aU bY (pv 5) (aG G1 r1 rfl m1 k1 b1 .nil aL (aA (pv 4) (aA aF (aA (cL bS rfl ml PySem.boot_len (aA (pv 5) aB)) aB)))) (fun _ _=>rfl)))
  (aC (aS (i:=7) vS.nd rfl (Or.inl rfl) (aU aX (aU bY (pv 1) (pv 6) (fun _ _=>rfl)) aF (fun _ _=>rfl)))
  (aC (bU (zP (pv 0) NTx.cl mCh GCh r5 bCh .nil aL (aA (pv 6) (aA (aG G2 r2 rfl m2 k2 b2 .nil aL (aA (pv 7) (aA (dM (aA aF (aA (aY dP aF (aG G1 r1 rfl m1 k1 b1 .nil aL (aA (pv 4) (aA aF (aA aF aB))))) aB))) aB))) aB))))
  (aC (aS (i:=8) vS.nd rfl (Or.inl rfl) (aG G3 hr rfl m3 k3 b3 .nil aL (aA (pv 0) (aA (aU aX (pv 2) aF (fun _ _=>rfl)) (aA (aU aX (pv 2) aF (fun _ _=>rfl)) aB)))))
  (aC (cK (PW.pt (jJ (eU (cY (aG G4 r1 rfl m4 k4 b4 .nil aL (aA (pv 8) (aA (pv 8) aB))))) (jG (eU (cY (aG G5 r1 rfl m5 k5 b5 .nil aL (aA (pv 8) (aA (pv 3) aB)))))))) (aH (aZ jV)) bK)
  (aC (bU (zP (pv 0) NTx.cl mCh GCh r5 bCh .nil aL (aA (pv 6) (aA (pv 7) aB))))
  (aH (aZ (jC (zL hu) (aG G3 hr rfl m3 k3 b3 .nil aL (aA (pv 0) (aA (aU aX (pv 2) aF (fun _ _=>rfl)) (aA (aU aX (pv 2) aF (fun _ _=>rfl)) aB)))) (pv 3) (bO _)))))))))))),?_⟩
 have lus:=hR.length;have DZ:=FD.dz;have len:=DZ.len;have m1:=DZ.o.m1;refine⟨_,rfl,r,us,rfl,.inl (SqL.of er),(us.length:Int),rfl,by omega,by omega,fun D hD=>?_⟩;rw[Int.toNat_natCast];have sD:=aI hD (.lst []);refine nT (n:=us.length) (fun i zs H'=>bF H H'/\H' D=some (.lst zs)/\∃hs:List Int,zs=hs.map V.int/\(∀h∈hs,0<=h/\∃d,ds[h.toNat]?=some d/\d.1=.pc)/\hs.length<=i) ⟨sD,aD,[],rfl,(fun h hh=>by cases hh),Nat.le_refl _⟩ (fun i zs H' h=>h.2.1) ?_ ?_
 ·rintro i zs H1 hi ⟨s1,e1,hs,rfl,hh,hl⟩ C hC;obtain⟨⟨k,u,v,p⟩,hd⟩:∃d,ds[i]?=some d:=⟨_,List.getElem?_eq_getElem (by omega)⟩
  obtain⟨t,z,et,hT,fz⟩:=(hR.same (s1)).at hd;have at_:atI us (0+(i:Int))=some (.ref t):=by rw[Int.zero_add];exact cI et
  refine⟨gG.1,gG.2,?_⟩;refine⟨_,rfl,_,rfl,r,us,_,_,rfl,rfl,SqL.of (s1 _ _ er),at_,t,_,0,_,rfl,rfl,hT,rfl,rfl,_,rfl,?_⟩
  by_cases hk:k=.pc
  ·refine L2.ifT (by show decide (V.str k.wd=V.str "piece")=true;rw[Gd];exact decide_eq_true hk) ⟨_,rfl,e1,bH (by rw[List.length_map];omega),hC _ _ ⟨s1.change hD,aD,hs++[0+(i:Int)],by rw[List.map_append];rfl,fun h hh'=>?_,by rw[List.length_append];simp only[List.length_cons,List.length_nil];omega⟩⟩;rcases List.mem_append.mp hh' with z | z
   ·exact hh h z
   ·have:h=0+(i:Int):=by simpa using z
    rw[this];exact⟨by omega,_,by rw[show (0+(i:Int)).toNat=i by omega];exact hd,hk⟩
  ·exact L2.ifF (by show decide (V.str k.wd=V.str "piece")=false;rw[Gd];exact decide_eq_false hk) (hC _ _ ⟨s1,e1,hs,rfl,hh,by omega⟩)
 rintro zs H1 ⟨s1,e1,hs,rfl,hh,hlh⟩;refine⟨_,rfl,zl9 0,fun l0 hl0=>?_⟩;have s2:=aI hl0 (.lst []);refine Bb (SqL.of (s2 _ _ e1)) (SqL.of aD) ?_;have e2:=s2 _ _ e1;generalize upd H1 l0 (.lst [])=H2 at s2 e2 ⊢
 by_cases hs0:hs=[]
 ·subst hs0;exact⟨_,rfl,L2.ifT rfl (q _)⟩
 have hsl:1<=hs.length:=by cases hs with | nil=>exact absurd rfl hs0 | cons=>simp
 refine⟨_,rfl,L2.ifF (by cases hs with | nil=>exact absurd rfl hs0 | cons=>rfl) ?_⟩;have s02:=s1.trans s2;refine⟨_,rfl,_,rfl,_,rfl,D,_,rfl,.inl (SqL.of e2),c,3,_,rfl,by decide,by decide,by rw[List.length_map];omega,fun x H3 x0 x1 s3=>?_⟩;rw[List.length_map] at x1;obtain⟨xN,rfl⟩:∃xN:Nat,x=(xN:Int):=⟨x.toNat,by omega⟩
 have hxN:xN < hs.length:=by omega
 obtain⟨k0,⟨kd,u,w,sz⟩,hd,hk⟩:=hh _ (List.getElem_mem hxN);generalize hkk:hs[xN]=kI at k0 hd;obtain⟨kN,rfl⟩:∃kN:Nat,kI=(kN:Int):=⟨kI.toNat,by omega⟩
 rw[Int.toNat_natCast] at hd;have hk:kd=.pc:=hk;subst hk;have hkl:=(List.getElem?_eq_some_iff.mp hd).1;refine⟨D,_,_,_,rfl,rfl,SqL.of (s3 _ _ e2),cI (by rw[List.getElem?_map,List.getElem?_eq_getElem hxN,hkk];rfl),?_⟩;have s03:=s02.trans s3;have er3:=s03 _ _ er;obtain⟨t,z,et,ht,fz⟩:=(hR.same s03).at hd;have fz:Fq K H3 z sz:=fz;refine⟨_,rfl,_,rfl,r,us,_,_,rfl,rfl,SqL.of er3,cI et,t,_,3,_,rfl,rfl,ht,rfl,?_⟩;have mem:=List.mem_of_getElem? hd;have bsz:Mq.Bd 4 sz:=hb4 _ mem rfl;obtain⟨ro,b41⟩:=DZ.ok _ mem;have lsz:Mq.Low sz:=ro.2.2.2.2.1;have psz:0 < sz.1:=(DZ.dv _ mem rfl).1;obtain⟨dn,hn⟩:=(nt.same s03).ob;refine⟨_,rfl,n,dn,_,rfl,hn,eT _ _ (by decide +kernel) (by decide +kernel),_,rfl,_,rfl,_,rfl,c,4,5,rfl,by decide,by decide,by decide,fun x5 H4 y0 y1 s4=>⟨_,_,rfl,rfl,?_⟩⟩;refine⟨zl9 2,fun t5 ht5=>?_⟩;have s5:=aI ht5 (.tup [.int 1,.int (2+x5)]);have e5:upd H4 t5 (.tup [.int 1,.int (2+x5)]) t5=some (.tup [.int 1,.int (2+x5)]):=aD;generalize upd H4 t5 (.tup [.int 1,.int (2+x5)])=H5 at s5 e5 ⊢;have s35:=s4.trans s5;have fq5:Fq K H5 t5 (1,2+x5):=Fq.of e5;have b5:Mq.Bd 4 (1,2+x5):=⟨show (1:Nat) < 2 ^ 4 by decide,by show (2+x5).natAbs < 2 ^ 4;omega⟩
 refine⟨z,t5,sz,(1,2+x5),4,4,rfl,s35.fq fz,fq5,lsz.pos,by show 1<=2+x5;omega,bsz,b5,by omega,fun zN H6 s6 e6=>?_⟩;have f6:Fq K H6 zN (Mq.gM sz (1,2+x5)):=Fq.of e6;have lo6:=Mq.yF (p:=sz) (q:=(1,2+x5)) lsz.pos (by show 1<=2+x5;omega);have bd6:=Mq.Ax bsz b5 lsz.pos (show 1<=2+x5 by omega);have v6:=Mq.yE (p:=sz) (q:=(1,2+x5)) lsz.pos (by show 1<=2+x5;omega);have x2:(2:Rat)<=((2+x5:Int):Rat):=by exact_mod_cast (show (2:Int)<=2+x5 by omega)
 have vs0:0 < Mq.val sz:=DZ.o.pos _ mem rfl;have vq:Mq.val (1,2+x5)=1 / ((2+x5:Int):Rat):=rfl;have dv6:(Mq.gM sz (1,2+x5)).1 ∣ sz.1:=by
  obtain⟨h1,_⟩:=Mq.lZ (t:=sz.1*1) (b:=sz.2*(2+x5)) (Mq.gE lsz.pos (by omega));refine⟨Mq.dvr (sz.1*1) (sz.2*(2+x5)),?_⟩;show sz.1=(Mq.red (sz.1*1) (sz.2*(2+x5))).1*_;rw[Int.mul_comm,<- h1,Int.mul_one]
 have p6:0 < (Mq.gM sz (1,2+x5)).1:=Mq.Hc (by show 0 < sz.1*1;omega) (Int.mul_pos lsz.pos (show 0 < 2+x5 by omega));have le6:Mq.val (Mq.gM sz (1,2+x5))<=Mq.val sz/\0 < Mq.val (Mq.gM sz (1,2+x5)):=by
  rw[v6,vq];generalize ((2+x5:Int):Rat)=y at x2;generalize Mq.val sz=s at vs0;have y0:(0:Rat) < y:=by grind
  have i0:0 < y⁻¹:=Rat.inv_pos.mpr y0;have e:s*(1 / y)=s*y⁻¹:=by grind
  rw[e];refine⟨?_,Rat.mul_pos vs0 i0⟩;have k:y*y⁻¹=1:=by have:y≠0:=(by grind);grind
  have i1:y⁻¹<=1:=by
   have:=Rat.mul_nonneg (show 0<=y - 1 by grind) (Rat.le_of_lt i0);grind
  have:=Rat.mul_nonneg (Rat.le_of_lt vs0) (show 0<=1 - y⁻¹ by grind);grind
 have n6:(Mq.gM sz (1,2+x5)).2.natAbs<=128:=by
  have:=(Mq.lK (t:=sz.1*1) (b:=sz.2*(2+x5)) (Mq.gE lsz.pos (by omega))).2;have h2:(sz.2*(2+x5)).natAbs=sz.2.natAbs*(2+x5).natAbs:=Int.natAbs_mul ..;have h3:sz.2.natAbs<=15:=Nat.le_of_lt_succ (show sz.2.natAbs < 2 ^ 4 from bsz.b);have h4:sz.2.natAbs*(2+x5).natAbs<=15*6:=Nat.mul_le_mul h3 (by omega);show (Mq.red (sz.1*1) (sz.2*(2+x5))).2.natAbs<=128;omega
 generalize Mq.gM sz (1,2+x5)=pN at f6 lo6 bd6 dv6 p6 le6 n6;have s06:=s03.trans (s35.trans s6);have D2:=DZ.set hd lo6 p6 dv6 n6 (bd6.mono (by omega));obtain⟨ts6,el6,_⟩:=(nt.same s06).ls;refine⟨n,l,zN,(m:Int),(kN:Int),ds,.pc,u,w,sz,pN,rfl,nt.same s06,by omega,by rw[Int.toNat_natCast];exact hd,f6,lo6,(fun _=>p6),bd6.mono (by omega),fun H7 sx7 nt7=>?_⟩;rw[Int.toNat_natCast] at nt7;have he7:=dI.seqT el6 sx7 (FD.same s06).he;have ff7:Fq K H7 f pf:=dI.seqT el6 sx7 (FD.same s06).ff;have fz7:Fq K H7 z sz:=dI.seqT el6 sx7 ((s35.trans s6).fq fz);refine⟨_,rfl,_,rfl,e,_,_,_,rfl,rfl,he7,rfl,_,rfl,e,_,_,_,rfl,rfl,he7,rfl,n,l,m,130,_,L,_,a,b,rfl,D2.net nt7,FD.ha,FD.hb,fun r8 p8 v8 H8 s8 f8 l8 b8 SB8 ev8=>?_⟩;have hbw:=D2.bwle;have le8:Mq.val p8<=Mq.val pf:=by
  rw[ev8,FD.vf];exact Rt DZ.o D2.o hd FD.sb SB8 FD.ha FD.hb le6.2 le6.1
 refine⟨_,rfl,_,rfl,r8,r8,p8,rfl,f8,f8,_,rfl,dX ?_⟩;refine⟨_,rfl,_,rfl,r8,f,p8,pf,1224,1224,rfl,f8,s8.fq ff7,l8.pos,FD.lo.pos,b8.mono (by omega),FD.bd,by omega,le8,_,rfl,dX ?_⟩;obtain⟨dn8,hn8⟩:=(nt7.same s8).ob;obtain⟨ts8,el8,_⟩:=(nt7.same s8).ls;refine⟨_,rfl,n,dn8,_,rfl,hn8,eT _ _ (by decide +kernel) (by decide +kernel),_,rfl,_,rfl,n,l,z,(m:Int),(kN:Int),_,.pc,u,w,pN,sz,rfl,nt7.same s8,by omega,by rw[Int.toNat_natCast,List.getElem?_set_self hkl],s8.fq fz7,lsz,(fun _=>psz),b41.mono (by omega),fun H9 sx9 nt9=>?_⟩;rw[Int.toNat_natCast,List.set_set,Ny hd] at nt9;have he9:=dI.seqT el8 sx9 (s8.seqT he7);have ff9:Fq K H9 f pf:=dI.seqT el8 sx9 (s8.fq ff7);refine⟨_,rfl,_,rfl,e,_,_,_,rfl,rfl,he9,rfl,_,rfl,e,_,_,_,rfl,rfl,he9,rfl,n,l,m,130,_,L,ds,a,b,rfl,DZ.net nt9,FD.ha,FD.hb,fun rA pA vA HA sA fA lA bA SBA evA=>?_⟩;have uA:=Sv.uni DZ.o SBA FD.sb;have wm:m - 1<=wd m ds:=Nat.le_add_right ..;have ha:=FD.ha;have hb:=FD.hb;have eA:pA=pf:=Mq.sY lA FD.lo (by rw[evA,uA a (by omega),uA b (by omega),FD.vf]);refine⟨_,rfl,Pu fA (sA.fq ff9) ?_⟩;show Q (.bl (decide (pA=pf))) HA;rw[decide_eq_true eA];exact q _
def Ff (K:Frag):Sp:=fun vs H Q _=>∃(a:Addr) (ns:List Int),vs=[.ref a]/\SqL K H a (ns.map V.int)/\ns.length<=63/\∀H',Q (.bl true) H'
abbrev zQ:Stmt:=top 92
theorem kT:aT ["_law_script","_law_many","_law_rows","_law_net_here","_law_a","_law_b","_law_c","_law_size_here","_law_found","_law_told_here"] ["_law_script"] (aE zQ):=sK9 rfl rfl rfl rfl (by decide +kernel)
theorem Xt {dV:Value}(F:bZ K "law" "law" zQ dV f fd){CN:Addr}(G1:aM P w K mg base CX0 1 g1 gd1 ["_law_script","_law_k"] (Eo K))(b1:aQ K gd1 ["_law_script","_law_k"] [])(k1:kI9 K g1)(m1:mI9 mg "_law_draw" g1)(G2:aM P w K mg base CX0 4 g2 gd2 ["_law_script","_law_many","_law_most","_law_words"] (Os K))(b2:aQ K gd2 ["_law_script","_law_many","_law_most","_law_words"] [])(k2:kI9 K g2)(m2:mI9 mg "_law_hanging" g2)(G3:aM P w K mg base CX0 6 g3 gd3 ["_law_many","_law_rows"] (Aj CN K))(b3:aQ K gd3 ["_law_many","_law_rows"] [])(k3:kI9 K g3)(m3:mI9 mg "_law_net" g3)(G4:aM P w K mg base CX0 1 g4 gd4 ["_law_cell","_law_turn","_law_many"] xM)(b4:aQ K gd4 ["_law_cell","_law_turn","_law_many"] [])(k4:kI9 K g4)(m4:mI9 mg "_law_mix" g4)(G5:aM P w K mg base CX0 2 g5 gd5 ["_law_cell"] Dp)(b5:aQ K gd5 ["_law_cell"] [])(k5:kI9 K g5)(m5:mI9 mg "_law_size" g5)(G6:aM P w K mg base CX0 1 g6 gd6 ["_law_cell","_law_turn"] Ur)(b6:aQ K gd6 ["_law_cell","_law_turn"] [])(k6:kI9 K g6)(m6:mI9 mg "_law_far" g6)(G7:aM P w K mg base CX0 9 g7 gd7 ["net","a","b"] (Fz CN K))(b7:aQ K gd7 ["net","a","b"] [])(k7:kI9 K g7)(m7:mI9 mg "between" g7){g8:Addr}{gd8:FuncData}(G8:aM P w K mg base CX0 6 g8 gd8 ["net","a"] (Ko CN K))(b8:aQ K gd8 ["net","a"] [])(k8:kI9 K g8)(m8:mI9 mg "distances" g8){g9:Addr}{gd9:FuncData}(G9:aM P w K mg base CX0 1 g9 gd9 ["_law_found","_law_due"] (zA K))(b9:aQ K gd9 ["_law_found","_law_due"] [])(k9:kI9 K g9)(m9:mI9 mg "_law_told" g9){g10:Addr}{gd10:FuncData}(G10:aM P w K mg base CX0 1 g10 gd10 ["_law_one","_law_other"] (Ei K))(b10:aQ K gd10 ["_law_one","_law_other"] [])(k10:kI9 K g10)(m10:mI9 mg "_law_no_more" g10){g11:Addr}{gd11:FuncData}(G11:aM P w K mg base CX0 2 g11 gd11 ["_law_one","_law_other"] (iV K Mq.fL))(b11:aQ K gd11 ["_law_one","_law_other"] [])(k11:kI9 K g11)(m11:mI9 mg "_law_plus" g11){g12:Addr}{gd12:FuncData}(G12:aM P w K mg base CX0 10 g12 gd12 ["_law_rows","_law_many","_law_ends","_law_found","_law_size_here"] (Oa K))(b12:aQ K gd12 ["_law_rows","_law_many","_law_ends","_law_found","_law_size_here"] [])(k12:kI9 K g12)(m12:mI9 mg "_law_more_rows" g12){g13:Addr}{gd13:FuncData}(G13:aM P w K mg base CX0 10 g13 gd13 ["_law_net_here","_law_rows","_law_ends","_law_found","_law_cell"] (Ks CN K))(b13:aQ K gd13 ["_law_net_here","_law_rows","_law_ends","_law_found","_law_cell"] [])(k13:kI9 K g13)(m13:mI9 mg "_law_smaller" g13) :
  aM P w K mg base CX 11 f fd ["_law_script"] (Ff K):=by
 refine F.ok kT (fun vs H Q E h=>?_) fun cdv A outer s H vs Q E hr h=>?_
 ·obtain⟨_,_,rfl,_⟩:=h;rfl
 obtain⟨a,ns,rfl,hS,h63,q⟩:=h;have hu:=hr.units;have r1:=hr.mono (show 1<=10 by omega);have r2:=hr.mono (show 2<=10 by omega);have r4:=hr.mono (show 4<=10 by omega);have r6:=hr.mono (show 6<=10 by omega);have r9:=hr.mono (show 9<=10 by omega);refine⟨_,(aC (aS (i:=1) kT.nd rfl (Or.inl rfl) (aY dP aF (aY lP (aG G1 r1 rfl m1 k1 b1 .nil aL (aA (pv 0) (aA aF aB))) aF)))
  (aC (aS (i:=2) kT.nd rfl (Or.inl rfl) (aG G2 r4 rfl m2 k2 b2 .nil aL (aA (pv 0) (aA (pv 1) (aA aF (aA (cX (aA cW (aA cW (aA cW (aA cW aB))))) aB))))))
  (aC (aS (i:=3) kT.nd rfl (Or.inl rfl) (aG G3 r6 rfl m3 k3 b3 .nil aL (aA (pv 1) (aA (pv 2) aB))))
  (aC (aS (i:=4) kT.nd rfl (Or.inl rfl) (aG G4 r1 rfl m4 k4 b4 .nil aL (aA (aG G1 r1 rfl m1 k1 b1 .nil aL (aA (pv 0) (aA aF aB))) (aA aF (aA (pv 1) aB)))))
  (aC (aS (i:=5) kT.nd rfl (Or.inl rfl) (aG G4 r1 rfl m4 k4 b4 .nil aL (aA (aG G1 r1 rfl m1 k1 b1 .nil aL (aA (pv 0) (aA aF aB))) (aA aF (aA (pv 1) aB)))))
  (aC (aS (i:=6) kT.nd rfl (Or.inl rfl) (aG G4 r1 rfl m4 k4 b4 .nil aL (aA (aG G1 r1 rfl m1 k1 b1 .nil aL (aA (pv 0) (aA aF aB))) (aA aF (aA (pv 1) aB)))))
  (aC (aS (i:=7) kT.nd rfl (Or.inl rfl) (aG G5 r2 rfl m5 k5 b5 .nil aL (aA (aG G1 r1 rfl m1 k1 b1 .nil aL (aA (pv 0) (aA aF aB))) aB)))
  (aC (cK (bM gH (aG G4 r1 rfl m4 k4 b4 .nil aL (aA (aG G1 r1 rfl m1 k1 b1 .nil aL (aA (pv 0) (aA aF aB))) (aA aF (aA aF aB)))) aF (bO _)) (aH (aS (i:=7) kT.nd rfl (Or.inl rfl) (dM (aA (aY dP aF (aY lP (aG G6 r1 rfl m6 k6 b6 .nil aL (aA (aG G1 r1 rfl m1 k1 b1 .nil aL (aA (pv 0) (aA aF aB))) (aA aF aB))) (aY lQ aF aF))) (aA aF aB))))) bK)
  (aC (aS (i:=8) kT.nd rfl (Or.inl rfl) (aG G7 r9 rfl m7 k7 b7 .nil aL (aA (pv 3) (aA (pv 4) (aA (pv 5) aB)))))
  (aC (aS (i:=9) kT.nd rfl (Or.inl rfl) (aU bY (aG G8 r6 rfl m8 k8 b8 .nil aL (aA (pv 3) (aA (pv 4) aB))) (pv 5) (fun _ _=>rfl)))
  (aC (cK (PW.pt (jJ (eU (cY (aG G9 r1 rfl m9 k9 b9 .nil aL (aA (pv 8) (aA (pv 8) aB))))) (jJ (eU (cY (aG G9 r1 rfl m9 k9 b9 .nil aL (aA (pv 9) (aA (pv 9) aB))))) (jG (eU (cY (aG G10 r1 rfl m10 k10 b10 .nil aL (aA (pv 8) (aA (pv 9) aB))))))))) (aH (aZ jV)) bK)
  (aC (cK (eU (cY (aG G10 r1 rfl m10 k10 b10 .nil aL (aA (pv 8) (aA (aG G11 r2 rfl m11 k11 b11 .nil aL (aA (aG G7 r9 rfl m7 k7 b7 .nil aL (aA (pv 3) (aA (pv 4) (aA (pv 6) aB)))) (aA (aG G7 r9 rfl m7 k7 b7 .nil aL (aA (pv 3) (aA (pv 6) (aA (pv 5) aB)))) aB))) aB))))) (aH (aZ jV)) bK)
  (aC (cK (eU (cY (aG G12 hr rfl m12 k12 b12 .nil aL (aA (pv 2) (aA (pv 1) (aA (dM (aA (pv 4) (aA (pv 5) aB))) (aA (pv 8) (aA (pv 7) aB)))))))) (aH (aZ jV)) bK)
  (aH (aZ (aG G13 hr rfl m13 k13 b13 .nil aL (aA (pv 3) (aA (pv 2) (aA (dM (aA (pv 4) (aA (pv 5) aB))) (aA (pv 8) (aA (aG G1 r1 rfl m1 k1 b1 .nil aL (aA (pv 0) (aA aF aB))) aB))))))))))))))))))))),?_⟩
 refine qd1 (fun σ' H'=>bF H H'/\∃(M:Nat) (L:Int) (ds:List RD) (r n l:Addr) (us:List V) (x y k:Nat) (z5:Addr) (p5:Mq.Q2),σ'=[some (.ref a),some (.int (M:Int)),some (.ref r),some (.ref n),some (.int (x:Int)),some (.int (y:Int)),some (.int (k:Int)),some (.ref z5),none,none]/\M<=4/\Dz M L ds/\Mq.B 50 L/\wd M ds<=7/\ds.length < 40/\(∀d∈ds,d.1=.pc->Mq.Bd 4 d.2.2.2)/\l≠r/\H' r=some (.lst us)/\Rts K H' us ds/\fY CN K H' n l (M:Int) ds/\x < M/\y < M/\k < M/\Fq K H' z5 p5/\Sz p5) (fun X hX=>?_) ?_
 ·refine Pn (fun σ' H'=>bF H H'/\∃M:Nat,σ'=[some (.ref a),some (.int (M:Int)),none,none,none,none,none,none,none,none]/\1<=M/\M<=4) (fun X2 hX2=>?_) ?_
  ·refine⟨_,rfl,a,ns,0,0,rfl,rfl,hS,h63,fun v H1 s1=>⟨_,_,rfl,rfl,(show (0:Int) < 4 by decide),_,_,rfl,rfl,?_⟩⟩;have f0:=Int.emod_nonneg v (show (4:Int)≠0 by decide);have f9:=Int.emod_lt_of_pos v (show (0:Int) < 4 by decide);obtain⟨M,hM⟩:∃M:Nat,1+v % 4=(M:Int):=⟨(1+v % 4).toNat,by omega⟩
   exact hX2 _ _ ⟨s1,M,by rw[<- hM];rfl,by omega,by omega⟩
  rintro σ1 H1 ⟨s1,M,rfl,M1,M4⟩;refine⟨_,rfl,_,rfl,zl9 4,fun w hw=>?_⟩;have s2:=aI hw (.lst [.str "piece",.str "hold",.str "piece",.str "piece"]);have e2:upd H1 w (.lst [.str "piece",.str "hold",.str "piece",.str "piece"]) w=some (.lst [.str "piece",.str "hold",.str "piece",.str "piece"]):=aD;generalize upd H1 w (.lst [.str "piece",.str "hold",.str "piece",.str "piece"])=H2 at s2 e2 ⊢;refine⟨a,w,ns,M,7,[.pc,.ho,.pc,.pc],rfl,(s1.trans s2).seq hS,h63,M1,by omega,by omega,SqL.of e2,by decide,by decide,fun r us tt E H3 s3 nr er hR hg le=>?_⟩;have s03:=s1.trans (s2.trans s3);obtain⟨DZ,LB,w7,len,bds⟩:=hg.dz M4 le;generalize rwH E=ds at hR DZ w7 len bds;generalize LH E=L at DZ LB;clear hg le;have o:=DZ.o;have hbw:=DZ.bwle;have wm:M - 1<=wd M ds:=Nat.le_add_right ..;refine⟨_,rfl,_,rfl,(M:Int),r,us,ds,rfl,by omega,by omega,SqL.of er,hR,(fun d hd=>(DZ.ok d hd).1),DZ.len,fun n l H4 s4 nl nt=>?_⟩;have nlr:l≠r:=fun z=>by rw[z,er] at nl;cases nl
  have s04:=s03.trans s4;show fK _ _ _ [some (.ref a),some (.int (M:Int)),some (.ref r),some (.ref n),none,none,none,none,none,none] H4;refine⟨_,rfl,a,ns,1,1,rfl,rfl,s04.seq hS,h63,fun c5 H5 s5=>⟨_,rfl,c5,3,(M:Int),rfl,by decide,by decide,by omega,fun x' H6 x0 x1 s6=>?_⟩⟩;obtain⟨x,rfl⟩:∃x:Nat,x'=(x:Int):=⟨x'.toNat,by omega⟩
  show fK _ _ _ [some (.ref a),some (.int (M:Int)),some (.ref r),some (.ref n),some (.int (x:Int)),none,none,none,none,none] H6;have s46:=s5.trans s6;refine⟨_,rfl,a,ns,1,1,rfl,rfl,(s04.trans s46).seq hS,h63,fun c7 H7 s7=>⟨_,rfl,c7,4,(M:Int),rfl,by decide,by decide,by omega,fun y' H8 y0 y1 s8=>?_⟩⟩;obtain⟨y,rfl⟩:∃y:Nat,y'=(y:Int):=⟨y'.toNat,by omega⟩
  show fK _ _ _ [some (.ref a),some (.int (M:Int)),some (.ref r),some (.ref n),some (.int (x:Int)),some (.int (y:Int)),none,none,none,none] H8;have s48:=s46.trans (s7.trans s8);refine⟨_,rfl,a,ns,1,1,rfl,rfl,(s04.trans s48).seq hS,h63,fun c9 H9 s9=>⟨_,rfl,c9,5,(M:Int),rfl,by decide,by decide,by omega,fun k' HA k0 k1' sA=>?_⟩⟩;obtain⟨k,rfl⟩:∃k:Nat,k'=(k:Int):=⟨k'.toNat,by omega⟩
  show fK _ _ _ [some (.ref a),some (.int (M:Int)),some (.ref r),some (.ref n),some (.int (x:Int)),some (.int (y:Int)),some (.int (k:Int)),none,none,none] HA;have s4A:=s48.trans (s9.trans sA);have hx:x < M:=by omega
  have hy:y < M:=by omega
  have hk:k < M:=by omega
  clear s5 s6 s7 s8 s9 sA s46 s48 x0 x1 y0 y1 k0 k1';refine⟨_,rfl,a,ns,7,7,rfl,rfl,(s04.trans s4A).seq hS,h63,fun cB HB sB=>⟨cB,rfl,fun p5 hp5 z5 HC sC eC=>?_⟩⟩;have s4C:=s4A.trans (sB.trans sC);have s4':=s4.trans s4C;exact hX _ _ ⟨s03.trans s4',M,L,ds,r,n,l,us,x,y,k,z5,p5,rfl,M4,DZ,LB,w7,len,(fun d hd hk=>(bds d hd).2 hk),nlr,s4' _ _ er,hR.same s4',nt.same s4C,hx,hy,hk,Fq.of eC,⟨hp5.1,hp5.2.1,hp5.2.2.mono (by omega),Nat.le_of_lt hp5.2.2.b⟩⟩
 rintro σC H4 ⟨s04,M,L,ds,r,n,l,us,x,y,k,z5,p5,rfl,M4,DZ,LB,w7,len,bds,nlr,er,hR,nt,hx,hy,hk,f5,sz5⟩;have o:=DZ.o;have hbw:=DZ.bwle;have M1:=o.m1;have wm:M - 1<=wd M ds:=Nat.le_add_right ..;refine Pn (fun σ' H'=>bF H4 H'/\∃(z:Addr) (s:Mq.Q2),σ'=[some (.ref a),some (.int (M:Int)),some (.ref r),some (.ref n),some (.int (x:Int)),some (.int (y:Int)),some (.int (k:Int)),some (.ref z),none,none]/\Fq K H' z s/\Sz s) (fun X hX=>?_) ?_
 ·refine⟨_,rfl,a,ns,7,7,rfl,rfl,s04.seq hS,h63,fun cD HD sD=>⟨cD,7,8,rfl,by decide,by decide,by decide,fun g HE _ _ sE=>⟨rfl,_,rfl,sR (fun _=>?_) (fun _=>?_)⟩⟩⟩
  ·have s4E:=sD.trans sE;refine⟨_,rfl,a,ns,7,7,rfl,rfl,(s04.trans s4E).seq hS,h63,fun cF HF sF=>⟨cF,1,rfl,by decide,by decide,fun u u1 u2=>?_⟩⟩;clear u1 u2;refine⟨10,12,rfl,rfl,⟨by decide,by decide,by decide⟩,u,1000000000000,rfl,congrArg V.int p12,(show (0:Int) < 1000000000000 by decide),_,_,rfl,rfl,?_⟩;obtain⟨vv,hvv,m0,m1⟩:∃vv:Int,u % 1000000000000=vv/\0<=vv/\vv < 1000000000000:=⟨_,rfl,Int.emod_nonneg u (by decide),Int.emod_lt_of_pos u (by decide)⟩
   rw[hvv];clear hvv;refine⟨zl9 2,fun t9 ht9=>?_⟩;have sG:=aI ht9 (.tup [.int (1+vv),.int 1]);refine hX _ _ ⟨s4E.trans (sF.trans sG),t9,(1+vv,1),rfl,Fq.of aD,⟨⟨by show (1:Int)<=1;decide,?_⟩,by show 0 < 1+vv;omega,⟨vV (n:=41) (by omega) (by omega),show (1:Nat) < 2 ^ 41 by decide⟩,by show (1:Nat)<=16;decide⟩⟩;show Mq.gc (1+vv) 1=1;unfold Mq.gc;rw[Int.gcd_one];rfl
  ·have s4E:=sD.trans sE;exact hX _ _ ⟨s4E,z5,p5,rfl,s4E.fq f5,sz5⟩
 rintro σG HG ⟨s4G,z,s,rfl,fz,sz⟩;refine⟨_,rfl,_,rfl,_,rfl,n,l,M,130,_,L,ds,x,y,rfl,DZ.net (nt.same s4G),hx,hy,fun f pf vf HH sH ff lf bf SBf evf=>?_⟩;have s4H:=s4G.trans sH;refine⟨_,rfl,_,rfl,n,l,M,41,x,ds,rfl,nt.same s4H,DZ.rds,hx,fun p hp=>(o.cn x hx).symm.trans (o.cn p hp),fun td zsd pd HI sI etd Fd lpd hpd=>?_⟩;obtain⟨lw,bw',rdw⟩:=hpd y hy;obtain⟨wd1,ewd,fwd⟩:=Fd.at (xO (ps:=pd) (j:=y) (by omega));refine⟨_,rfl,td,zsd,_,_,rfl,rfl,SqL.of etd,cI ewd,?_⟩;have le1:=(vD.le o hx rdw).2 vf SBf;rw[<- evf] at le1;have ffI:=sI.fq ff;refine⟨_,rfl,_,rfl,f,f,pf,rfl,ffI,ffI,_,rfl,dX ?_⟩;refine⟨_,rfl,_,rfl,wd1,wd1,_,rfl,fwd,fwd,_,rfl,dX ?_⟩;refine⟨_,rfl,_,rfl,f,wd1,pf,_,1224,2041,rfl,ffI,fwd,lf.pos,lw.pos,bf.mono (by omega),bw',by omega,le1,_,rfl,dX ?_⟩;have s4I:=s4H.trans sI;clear Fd ewd fwd etd hpd rdw le1;refine⟨_,rfl,_,rfl,_,rfl,_,rfl,n,l,M,130,_,L,ds,x,k,rfl,DZ.net (nt.same s4I),hx,hk,fun g1 p1 w1 HJ sJ fg1 lg1 bg1 SB1 ev1=>?_⟩;have s4J:=s4I.trans sJ;refine⟨_,rfl,_,rfl,_,rfl,n,l,M,130,_,L,ds,k,y,rfl,DZ.net (nt.same s4J),hk,hy,fun g2 p2 w2 HK sK fg2 lg2 bg2 SB2 ev2=>?_⟩;have bg1:Mq.Bd 1224 p1:=bg1.mono (by omega);have bg2:Mq.Bd 1224 p2:=bg2.mono (by omega);have bf:Mq.Bd 1224 pf:=bf.mono (by omega);refine⟨g1,g2,p1,p2,1224,1224,rfl,sK.fq fg1,fg2,lg1.pos,lg2.pos,bg1,bg2,by omega,fun g3 HL sL eL=>?_⟩;have fg3:Fq K HL g3 (Mq.fL p1 p2):=Fq.of eL;have tri:=dD.tri o SBf SB1 SB2 hx hy hk;have s4K:=s4J.trans sK;have s4L:=s4K.trans sL;have ffL:=((sJ.trans (sK.trans sL))).fq ffI;refine⟨f,g3,pf,Mq.fL p1 p2,1224,2449,rfl,ffL,fg3,lf.pos,(Mq.jM lg1.pos lg2.pos).pos,bf,(Mq.mD bg1 bg2 lg1.pos lg2.pos).mono (by omega),by omega,by rw[Mq.jN lg1.pos lg2.pos,evf,ev1,ev2];exact tri,_,rfl,dX ?_⟩;refine⟨_,rfl,_,rfl,_,rfl,_,rfl,zl9 2,fun e1 he1=>?_⟩;have sM:=aI he1 (.tup [.int (x:Int),.int (y:Int)]);have eM:upd HL e1 (.tup [.int (x:Int),.int (y:Int)]) e1=some (.tup [.int (x:Int),.int (y:Int)]):=aD;generalize upd HL e1 (.tup [.int (x:Int),.int (y:Int)])=HM at sM eM ⊢;have s4M:=s4L.trans sM;have FD:Fnd K HM M L ds x y e1 f pf vf:=⟨DZ,LB,w7,M4,len,hx,hy,SqT.of eM,sM.fq ffL,lf,bf,SBf,evf⟩
 have erM:=s4M _ _ er;have hRM:=hR.same s4M;refine⟨_,rfl,_,rfl,r,e1,f,z,us,M,x,y,L,ds,vf,pf,s,rfl,erM,hRM,FD,((sH.trans (sI.trans (sJ.trans (sK.trans (sL.trans sM)))))).fq fz,sz,fun HN sN=>⟨_,rfl,dX ?_⟩⟩;refine⟨_,rfl,_,rfl,_,rfl,_,rfl,zl9 2,fun e2' he2=>?_⟩;have sO:=aI he2 (.tup [.int (x:Int),.int (y:Int)]);have eO:upd HN e2' (.tup [.int (x:Int),.int (y:Int)]) e2'=some (.tup [.int (x:Int),.int (y:Int)]):=aD;generalize upd HN e2' (.tup [.int (x:Int),.int (y:Int)])=HO at sO eO ⊢;have sMO:=sN.trans sO;have FD2:Fnd K HO M L ds x y e2' f pf vf:=⟨DZ,LB,w7,M4,len,hx,hy,SqT.of eO,sMO.fq FD.ff,lf,bf,SBf,evf⟩
 refine⟨_,rfl,_,rfl,a,ns,2,2,rfl,rfl,(s04.trans (s4M.trans sMO)).seq hS,h63,fun cP HP sP=>?_⟩;exact⟨n,l,r,e2',f,us,M,x,y,cP,L,ds,vf,pf,rfl,nt.same (s4M.trans (sMO.trans sP)),nlr,(sMO.trans sP) _ _ erM,hRM.same (sMO.trans sP),FD2.same sP,bds,fun H'=>q H'⟩
end
end K67
namespace L2
open PySem PySem.W
theorem Px {q:Program}{loose:List Str}{XP:(Str->Option Value)->Heap->Prop}{K:Params->Frag}{bs:List Addr}{n t:Nat}{r:RowW}{d:DefRec}{kwd:List (Str × Expr)}{run:Value->List Value->Sem Value}(e:∀P,bs=(K P).map (·.1))(h:WalkO q loose XP (fun w h=>(K w.params).In h) r d kwd run):WalkX q loose XP (PySem.W.X.obsZ bs) (PySem.W.X.valZ K n t) r d kwd run:=
 fun w s₀ s₁ mg mb G y a o pm cd doc dV kV h1 h2 h3 h4 h5 h6 args vals as' L=>h w s₀ s₁ mg mb G (InK.keeps w _ _ (PySem.W.X.z_facts e y).2.1 L.keeps) a o pm cd doc dV kV h1 h2 h3 h4 h5 h6 args vals as'
end L2
namespace K67
open PySem L2
theorem cZ {us:List Value}(h:us.length=1):∃a,us=[a]:=match us,h with | [a],_=>⟨a,rfl⟩
theorem cJ {us:List Value}(h:us.length=2):∃a b,us=[a,b]:=match us,h with | [a,b],_=>⟨a,b,rfl⟩
theorem jE {us:List Value}(h:us.length=3):∃a b c,us=[a,b,c]:=match us,h with | [a,b,c],_=>⟨a,b,c,rfl⟩
theorem iX {us:List Value}(h:us.length=4):∃a b c d,us=[a,b,c,d]:=match us,h with | [a,b,c,d],_=>⟨a,b,c,d,rfl⟩
theorem Fp {us:List Value}(h:us.length=5):∃a b c d e,us=[a,b,c,d,e]:=match us,h with | [a,b,c,d,e],_=>⟨a,b,c,d,e,rfl⟩
theorem Ve {l:PySem.W.OpenLaw}{w:World}{K:Frag}{h:Heap}{mg:Str->Option Value}{fa:Addr}(X:K.In h)(G:h.Ns mainGlobals mg)(hfa:mg "law"=some (.ref fa)){c_Row:Addr}{c_Piece:Addr}{c_Push:Addr}{c_Hold:Addr}{c_Net:Addr}{f1:Addr}{od1 an1:Option Addr}{sl1:Array (Option Value)}{oc1 kV1 dc1 pm1 cd1 ct1:Value}{f2:Addr}{od2 an2:Option Addr}{sl2:Array (Option Value)}{oc2 kV2 dc2 pm2 cd2 ct2:Value}{f3:Addr}{od3 an3:Option Addr}{sl3:Array (Option Value)}{oc3 kV3 dc3 pm3 cd3 ct3:Value}{f4:Addr}{od4 an4:Option Addr}{sl4:Array (Option Value)}{oc4 kV4 dc4 pm4 cd4 ct4:Value}{T4:Addr}{oT4:Value}{dT4:Option Addr}{nT4:Nat}{sT4:Array (Option Value)}{tk4:Tok}{f5:Addr}{od5 an5:Option Addr}{sl5:Array (Option Value)}{oc5 kV5 dc5 pm5 cd5 ct5:Value}{f6:Addr}{od6 an6:Option Addr}{sl6:Array (Option Value)}{oc6 kV6 dc6 pm6 cd6 ct6:Value}{f7:Addr}{od7 an7:Option Addr}{sl7:Array (Option Value)}{oc7 kV7 dc7 pm7 cd7 ct7:Value}{f8:Addr}{od8 an8:Option Addr}{sl8:Array (Option Value)}{oc8 kV8 dc8 pm8 cd8 ct8:Value}{f9:Addr}{od9 an9:Option Addr}{sl9:Array (Option Value)}{oc9 kV9 dc9 pm9 cd9 ct9:Value}{f10:Addr}{od10 an10:Option Addr}{sl10:Array (Option Value)}{oc10 kV10 dc10 pm10 cd10 ct10:Value}{f11:Addr}{od11 an11:Option Addr}{sl11:Array (Option Value)}{oc11 kV11 dc11 pm11 cd11 ct11:Value}{f12:Addr}{od12 an12:Option Addr}{sl12:Array (Option Value)}{oc12 kV12 dc12 pm12 cd12 ct12:Value}{f13:Addr}{od13 an13:Option Addr}{sl13:Array (Option Value)}{oc13 kV13 dc13 pm13 cd13 ct13:Value}{f14:Addr}{od14 an14:Option Addr}{sl14:Array (Option Value)}{oc14 kV14 dc14 pm14 cd14 ct14:Value}{f15:Addr}{od15 an15:Option Addr}{sl15:Array (Option Value)}{oc15 kV15 dc15 pm15 cd15 ct15:Value}{f16:Addr}{od16 an16:Option Addr}{sl16:Array (Option Value)}{oc16 kV16 dc16 pm16 cd16 ct16:Value}{f17:Addr}{od17 an17:Option Addr}{sl17:Array (Option Value)}{oc17 kV17 dc17 pm17 cd17 ct17:Value}{f18:Addr}{od18 an18:Option Addr}{sl18:Array (Option Value)}{oc18 kV18 dc18 pm18 cd18 ct18:Value}{f19:Addr}{od19 an19:Option Addr}{sl19:Array (Option Value)}{oc19 kV19 dc19 pm19 cd19 ct19:Value}{f20:Addr}{od20 an20:Option Addr}{sl20:Array (Option Value)}{oc20 kV20 dc20 pm20 cd20 ct20:Value}{f21:Addr}{od21 an21:Option Addr}{sl21:Array (Option Value)}{oc21 kV21 dc21 pm21 cd21 ct21:Value}{f22:Addr}{od22 an22:Option Addr}{sl22:Array (Option Value)}{oc22 kV22 dc22 pm22 cd22 ct22:Value}{f23:Addr}{od23 an23:Option Addr}{sl23:Array (Option Value)}{oc23 kV23 dc23 pm23 cd23 ct23:Value}{f24:Addr}{od24 an24:Option Addr}{sl24:Array (Option Value)}{oc24 kV24 dc24 pm24 cd24 ct24:Value}{f25:Addr}{od25 an25:Option Addr}{sl25:Array (Option Value)}{oc25 kV25 dc25 pm25 cd25 ct25:Value}{f26:Addr}{od26 an26:Option Addr}{sl26:Array (Option Value)}{oc26 kV26 dc26 pm26 cd26 ct26:Value}{f27:Addr}{od27 an27:Option Addr}{sl27:Array (Option Value)}{oc27 kV27 dc27 pm27 cd27 ct27:Value}{f28:Addr}{od28 an28:Option Addr}{sl28:Array (Option Value)}{oc28 kV28 dc28 pm28 cd28 ct28:Value}{f29:Addr}{od29 an29:Option Addr}{sl29:Array (Option Value)}{oc29 kV29 dc29 pm29 cd29 ct29:Value}{f30:Addr}{od30 an30:Option Addr}{sl30:Array (Option Value)}{oc30 kV30 dc30 pm30 cd30 ct30:Value}{f31:Addr}{od31 an31:Option Addr}{sl31:Array (Option Value)}{oc31 kV31 dc31 pm31 cd31 ct31:Value}{f32:Addr}{od32 an32:Option Addr}{sl32:Array (Option Value)}{oc32 kV32 dc32 pm32 cd32 ct32:Value}{f33:Addr}{od33 an33:Option Addr}{sl33:Array (Option Value)}{oc33 kV33 dc33 pm33 cd33 ct33:Value}{T33:Addr}{oT33:Value}{dT33:Option Addr}{nT33:Nat}{sT33:Array (Option Value)}{f34:Addr}{od34 an34:Option Addr}{sl34:Array (Option Value)}{oc34 kV34 dc34 pm34 cd34 ct34:Value}{f35:Addr}{od35 an35:Option Addr}{sl35:Array (Option Value)}{oc35 kV35 dc35 pm35 cd35 ct35:Value}{f36:Addr}{od36 an36:Option Addr}{sl36:Array (Option Value)}{oc36 kV36 dc36 pm36 cd36 ct36:Value}{f37:Addr}{od37 an37:Option Addr}{sl37:Array (Option Value)}{oc37 kV37 dc37 pm37 cd37 ct37:Value}{f38:Addr}{od38 an38:Option Addr}{sl38:Array (Option Value)}{oc38 kV38 dc38 pm38 cd38 ct38:Value}{f39:Addr}{od39 an39:Option Addr}{sl39:Array (Option Value)}{oc39 kV39 dc39 pm39 cd39 ct39:Value}{f40:Addr}{od40 an40:Option Addr}{sl40:Array (Option Value)}{oc40 kV40 dc40 pm40 cd40 ct40:Value}{f41:Addr}{od41 an41:Option Addr}{sl41:Array (Option Value)}{oc41 kV41 dc41 pm41 cd41 ct41:Value}{f42:Addr}{od42 an42:Option Addr}{sl42:Array (Option Value)}{oc42 kV42 dc42 pm42 cd42 ct42:Value}{f43:Addr}{od43 an43:Option Addr}{sl43:Array (Option Value)}{oc43 kV43 dc43 pm43 cd43 ct43:Value}{f44:Addr}{od44 an44:Option Addr}{sl44:Array (Option Value)}{oc44 kV44 dc44 pm44 cd44 ct44:Value}{f45:Addr}{od45 an45:Option Addr}{sl45:Array (Option Value)}{oc45 kV45 dc45 pm45 cd45 ct45:Value}{f46:Addr}{od46 an46:Option Addr}{sl46:Array (Option Value)}{oc46 kV46 dc46 pm46 cd46 ct46:Value}{f47:Addr}{od47 an47:Option Addr}{sl47:Array (Option Value)}{oc47 kV47 dc47 pm47 cd47 ct47:Value}{f48:Addr}{od48 an48:Option Addr}{sl48:Array (Option Value)}{oc48 kV48 dc48 pm48 cd48 ct48:Value}{f49:Addr}{od49 an49:Option Addr}{sl49:Array (Option Value)}{oc49 kV49 dc49 pm49 cd49 ct49:Value}{f50:Addr}{od50 an50:Option Addr}{sl50:Array (Option Value)}{oc50 kV50 dc50 pm50 cd50 ct50:Value}{f51:Addr}{od51 an51:Option Addr}{sl51:Array (Option Value)}{oc51 kV51 dc51 pm51 cd51 ct51:Value}{f52:Addr}{od52 an52:Option Addr}{sl52:Array (Option Value)}{oc52 kV52 dc52 pm52 cd52 ct52:Value}{f53:Addr}{od53 an53:Option Addr}{sl53:Array (Option Value)}{oc53 kV53 dc53 pm53 cd53 ct53:Value}{f54:Addr}{od54 an54:Option Addr}{sl54:Array (Option Value)}{oc54 kV54 dc54 pm54 cd54 ct54:Value}{f55:Addr}{od55 an55:Option Addr}{sl55:Array (Option Value)}{oc55 kV55 dc55 pm55 cd55 ct55:Value}{f56:Addr}{od56 an56:Option Addr}{sl56:Array (Option Value)}{oc56 kV56 dc56 pm56 cd56 ct56:Value}{f57:Addr}{od57 an57:Option Addr}{sl57:Array (Option Value)}{oc57 kV57 dc57 pm57 cd57 ct57:Value}{f58:Addr}{od58 an58:Option Addr}{sl58:Array (Option Value)}{oc58 kV58 dc58 pm58 cd58 ct58:Value}{f59:Addr}{od59 an59:Option Addr}{sl59:Array (Option Value)}{oc59 kV59 dc59 pm59 cd59 ct59:Value}{f60:Addr}{od60 an60:Option Addr}{sl60:Array (Option Value)}{oc60 kV60 dc60 pm60 cd60 ct60:Value}{f61:Addr}{od61 an61:Option Addr}{sl61:Array (Option Value)}{oc61 kV61 dc61 pm61 cd61 ct61:Value}{f62:Addr}{od62 an62:Option Addr}{sl62:Array (Option Value)}{oc62 kV62 dc62 pm62 cd62 ct62:Value}{f63:Addr}{od63 an63:Option Addr}{sl63:Array (Option Value)}{oc63 kV63 dc63 pm63 cd63 ct63:Value}{f64:Addr}{od64 an64:Option Addr}{sl64:Array (Option Value)}{oc64 kV64 dc64 pm64 cd64 ct64:Value}{f65:Addr}{od65 an65:Option Addr}{sl65:Array (Option Value)}{oc65 kV65 dc65 pm65 cd65 ct65:Value}{f66:Addr}{od66 an66:Option Addr}{sl66:Array (Option Value)}{oc66 kV66 dc66 pm66 cd66 ct66:Value}{f67:Addr}{od67 an67:Option Addr}{sl67:Array (Option Value)}{oc67 kV67 dc67 pm67 cd67 ct67:Value}{f68:Addr}{od68 an68:Option Addr}{sl68:Array (Option Value)}{oc68 kV68 dc68 pm68 cd68 ct68:Value}{f69:Addr}{od69 an69:Option Addr}{sl69:Array (Option Value)}{oc69 kV69 dc69 pm69 cd69 ct69:Value}{aO:Addr}{dO:Option Addr}{nO:Nat}{sO:Array (Option Value)}{t2 t3:Tok}{aN:Addr}{dN:Option Addr}{nN:Nat}{sN:Array (Option Value)}{t0 t1:Tok}{aJ:Addr}{dJ:Option Addr}{nJ:Nat}{sJ:Array (Option Value)}{tj0 tj1:Tok}{tM:Tok}{tR:Tok}(y_Row:PySem.W.nsIn K mainGlobals "Row"=some (some (.ref c_Row)))(y_Piece:PySem.W.nsIn K mainGlobals "Piece"=some (some (.ref c_Piece)))(y_Push:PySem.W.nsIn K mainGlobals "Push"=some (some (.ref c_Push)))(y_Hold:PySem.W.nsIn K mainGlobals "Hold"=some (some (.ref c_Hold)))(y_Net:PySem.W.nsIn K mainGlobals "Net"=some (some (.ref c_Net)))(a1:PySem.W.nsIn K mainGlobals "is_whole"=some (some (.ref f1)))(l1:K.lookup f1=some ⟨oc1,od1,.func (PySem.W.fnOf "is_whole" "is_whole" (aR pY) (aP pY) (aE pY) .none kV1 dc1 pm1 an1 cd1 ct1),sl1⟩)(c1:PySem.W.codeIn K cd1 "is_whole"=true)(k1:kI9 K f1)(a2:PySem.W.nsIn K mainGlobals "greatest_common"=some (some (.ref f2)))(l2:K.lookup f2=some ⟨oc2,od2,.func (PySem.W.fnOf "greatest_common" "greatest_common" (aR sGc) (aP sGc) (aE sGc) .none kV2 dc2 pm2 an2 cd2 ct2),sl2⟩)(c2:PySem.W.codeIn K cd2 "greatest_common"=true)(k2:kI9 K f2)(a3:PySem.W.nsIn K mainGlobals "under"=some (some (.ref f3)))(l3:K.lookup f3=some ⟨oc3,od3,.func (PySem.W.fnOf "under" "under" (aR pZ) (aP pZ) (aE pZ) .none kV3 dc3 pm3 an3 cd3 ct3),sl3⟩)(c3:PySem.W.codeIn K cd3 "under"=true)(k3:kI9 K f3)(a4:PySem.W.nsIn K mainGlobals "fraction"=some (some (.ref f4)))(l4:K.lookup f4=some ⟨oc4,od4,.func (PySem.W.fnOf "fraction" "fraction" (aR kL) (aP kL) (aE kL) (.ref T4) kV4 dc4 pm4 an4 cd4 ct4),sl4⟩)(c4:PySem.W.codeIn K cd4 "fraction"=true)(k4:kI9 K f4)(lt4:K.lookup T4=some ⟨oT4,dT4,.seq #[.int 1 tk4] nT4,sT4⟩)(a5:PySem.W.nsIn K mainGlobals "minus"=some (some (.ref f5)))(l5:K.lookup f5=some ⟨oc5,od5,.func (PySem.W.fnOf "minus" "minus" (aR pW) (aP pW) (aE pW) .none kV5 dc5 pm5 an5 cd5 ct5),sl5⟩)(c5:PySem.W.codeIn K cd5 "minus"=true)(k5:kI9 K f5)(a6:PySem.W.nsIn K mainGlobals "plus"=some (some (.ref f6)))(l6:K.lookup f6=some ⟨oc6,od6,.func (PySem.W.fnOf "plus" "plus" (aR xS) (aP xS) (aE xS) .none kV6 dc6 pm6 an6 cd6 ct6),sl6⟩)(c6:PySem.W.codeIn K cd6 "plus"=true)(k6:kI9 K f6)(a7:PySem.W.nsIn K mainGlobals "over"=some (some (.ref f7)))(l7:K.lookup f7=some ⟨oc7,od7,.func (PySem.W.fnOf "over" "over" (aR wR) (aP wR) (aE wR) .none kV7 dc7 pm7 an7 cd7 ct7),sl7⟩)(c7:PySem.W.codeIn K cd7 "over"=true)(k7:kI9 K f7)(a8:PySem.W.nsIn K mainGlobals "is_fraction"=some (some (.ref f8)))(l8:K.lookup f8=some ⟨oc8,od8,.func (PySem.W.fnOf "is_fraction" "is_fraction" (aR Jh) (aP Jh) (aE Jh) .none kV8 dc8 pm8 an8 cd8 ct8),sl8⟩)(c8:PySem.W.codeIn K cd8 "is_fraction"=true)(k8:kI9 K f8)(a9_0:PySem.W.findIn K (.ref c_Piece) "__init__"=some (some (.ref f9)))(a9_1:PySem.W.findIn K (.ref c_Push) "__init__"=some (some (.ref f9)))(a9_2:PySem.W.findIn K (.ref c_Hold) "__init__"=some (some (.ref f9)))(i9:PySem.W.isFn K (.ref f9)=true)(l9:K.lookup f9=some ⟨oc9,od9,.func (PySem.W.fnOf "__init__" "Row.__init__" (aR qT) (aP qT) (aE qT) .none kV9 dc9 pm9 an9 cd9 ct9),sl9⟩)(c9:PySem.W.codeIn K cd9 "Row.__init__"=true)(k9:kI9 K f9)(a10_0:PySem.W.findIn K (.ref c_Piece) "word"=some (some (.ref f10)))(i10:PySem.W.isFn K (.ref f10)=true)(l10:K.lookup f10=some ⟨oc10,od10,.func (PySem.W.fnOf "word" "Piece.word" (aR jS) (aP jS) (aE jS) .none kV10 dc10 pm10 an10 cd10 ct10),sl10⟩)(c10:PySem.W.codeIn K cd10 "Piece.word"=true)(k10:kI9 K f10)(a11_0:PySem.W.findIn K (.ref c_Push) "word"=some (some (.ref f11)))(i11:PySem.W.isFn K (.ref f11)=true)(l11:K.lookup f11=some ⟨oc11,od11,.func (PySem.W.fnOf "word" "Push.word" (aR jY) (aP jY) (aE jY) .none kV11 dc11 pm11 an11 cd11 ct11),sl11⟩)(c11:PySem.W.codeIn K cd11 "Push.word"=true)(k11:kI9 K f11)(a12_0:PySem.W.findIn K (.ref c_Hold) "word"=some (some (.ref f12)))(i12:PySem.W.isFn K (.ref f12)=true)(l12:K.lookup f12=some ⟨oc12,od12,.func (PySem.W.fnOf "word" "Hold.word" (aR jO) (aP jO) (aE jO) .none kV12 dc12 pm12 an12 cd12 ct12),sl12⟩)(c12:PySem.W.codeIn K cd12 "Hold.word"=true)(k12:kI9 K f12)(a13_0:PySem.W.findIn K (.ref c_Piece) "joins"=some (some (.ref f13)))(i13:PySem.W.isFn K (.ref f13)=true)(l13:K.lookup f13=some ⟨oc13,od13,.func (PySem.W.fnOf "joins" "Piece.joins" (aR iJ) (aP iJ) (aE iJ) .none kV13 dc13 pm13 an13 cd13 ct13),sl13⟩)(c13:PySem.W.codeIn K cd13 "Piece.joins"=true)(k13:kI9 K f13)(a14_0:PySem.W.findIn K (.ref c_Push) "joins"=some (some (.ref f14)))(i14:PySem.W.isFn K (.ref f14)=true)(l14:K.lookup f14=some ⟨oc14,od14,.func (PySem.W.fnOf "joins" "Push.joins" (aR iI) (aP iI) (aE iI) .none kV14 dc14 pm14 an14 cd14 ct14),sl14⟩)(c14:PySem.W.codeIn K cd14 "Push.joins"=true)(k14:kI9 K f14)(a15_0:PySem.W.findIn K (.ref c_Hold) "joins"=some (some (.ref f15)))(i15:PySem.W.isFn K (.ref f15)=true)(l15:K.lookup f15=some ⟨oc15,od15,.func (PySem.W.fnOf "joins" "Hold.joins" (aR iH) (aP iH) (aE iH) .none kV15 dc15 pm15 an15 cd15 ct15),sl15⟩)(c15:PySem.W.codeIn K cd15 "Hold.joins"=true)(k15:kI9 K f15)(a16_0:PySem.W.findIn K (.ref c_Piece) "told"=some (some (.ref f16)))(a16_1:PySem.W.findIn K (.ref c_Push) "told"=some (some (.ref f16)))(a16_2:PySem.W.findIn K (.ref c_Hold) "told"=some (some (.ref f16)))(i16:PySem.W.isFn K (.ref f16)=true)(l16:K.lookup f16=some ⟨oc16,od16,.func (PySem.W.fnOf "told" "Row.told" (aR qQ) (aP qQ) (aE qQ) .none kV16 dc16 pm16 an16 cd16 ct16),sl16⟩)(c16:PySem.W.codeIn K cd16 "Row.told"=true)(k16:kI9 K f16)(a17:PySem.W.nsIn K mainGlobals "row_of"=some (some (.ref f17)))(l17:K.lookup f17=some ⟨oc17,od17,.func (PySem.W.fnOf "row_of" "row_of" (aR pX) (aP pX) (aE pX) .none kV17 dc17 pm17 an17 cd17 ct17),sl17⟩)(c17:PySem.W.codeIn K cd17 "row_of"=true)(k17:kI9 K f17)(a18:PySem.W.nsIn K mainGlobals "is_piece_size"=some (some (.ref f18)))(l18:K.lookup f18=some ⟨oc18,od18,.func (PySem.W.fnOf "is_piece_size" "is_piece_size" (aR sPS) (aP sPS) (aE sPS) .none kV18 dc18 pm18 an18 cd18 ct18),sl18⟩)(c18:PySem.W.codeIn K cd18 "is_piece_size"=true)(k18:kI9 K f18)(a19:PySem.W.nsIn K mainGlobals "is_number_below"=some (some (.ref f19)))(l19:K.lookup f19=some ⟨oc19,od19,.func (PySem.W.fnOf "is_number_below" "is_number_below" (aR sNB) (aP sNB) (aE sNB) .none kV19 dc19 pm19 an19 cd19 ct19),sl19⟩)(c19:PySem.W.codeIn K cd19 "is_number_below"=true)(k19:kI9 K f19)(a20:PySem.W.nsIn K mainGlobals "refuse_size"=some (some (.ref f20)))(l20:K.lookup f20=some ⟨oc20,od20,.func (PySem.W.fnOf "refuse_size" "refuse_size" (aR sRS) (aP sRS) (aE sRS) .none kV20 dc20 pm20 an20 cd20 ct20),sl20⟩)(c20:PySem.W.codeIn K cd20 "refuse_size"=true)(k20:kI9 K f20)(a21:PySem.W.nsIn K mainGlobals "refuse_points"=some (some (.ref f21)))(l21:K.lookup f21=some ⟨oc21,od21,.func (PySem.W.fnOf "refuse_points" "refuse_points" (aR sRP) (aP sRP) (aE sRP) .none kV21 dc21 pm21 an21 cd21 ct21),sl21⟩)(c21:PySem.W.codeIn K cd21 "refuse_points"=true)(k21:kI9 K f21)(a22:PySem.W.nsIn K mainGlobals "refuse_number"=some (some (.ref f22)))(l22:K.lookup f22=some ⟨oc22,od22,.func (PySem.W.fnOf "refuse_number" "refuse_number" (aR sRN) (aP sRN) (aE sRN) .none kV22 dc22 pm22 an22 cd22 ct22),sl22⟩)(c22:PySem.W.codeIn K cd22 "refuse_number"=true)(k22:kI9 K f22)(a23_0:PySem.W.findIn K (.ref c_Net) "__init__"=some (some (.ref f23)))(i23:PySem.W.isFn K (.ref f23)=true)(l23:K.lookup f23=some ⟨oc23,od23,.func (PySem.W.fnOf "__init__" "Net.__init__" (aR qI) (aP qI) (aE qI) .none kV23 dc23 pm23 an23 cd23 ct23),sl23⟩)(c23:PySem.W.codeIn K cd23 "Net.__init__"=true)(k23:kI9 K f23)(a24_0:PySem.W.findIn K (.ref c_Net) "many"=some (some (.ref f24)))(i24:PySem.W.isFn K (.ref f24)=true)(l24:K.lookup f24=some ⟨oc24,od24,.func (PySem.W.fnOf "many" "Net.many" (aR xU) (aP xU) (aE xU) .none kV24 dc24 pm24 an24 cd24 ct24),sl24⟩)(c24:PySem.W.codeIn K cd24 "Net.many"=true)(k24:kI9 K f24)(a25_0:PySem.W.findIn K (.ref c_Net) "add"=some (some (.ref f25)))(i25:PySem.W.isFn K (.ref f25)=true)(l25:K.lookup f25=some ⟨oc25,od25,.func (PySem.W.fnOf "add" "Net.add" (aR Ik) (aP Ik) (aE Ik) .none kV25 dc25 pm25 an25 cd25 ct25),sl25⟩)(c25:PySem.W.codeIn K cd25 "Net.add"=true)(k25:kI9 K f25)(a26_0:PySem.W.findIn K (.ref c_Net) "change"=some (some (.ref f26)))(i26:PySem.W.isFn K (.ref f26)=true)(l26:K.lookup f26=some ⟨oc26,od26,.func (PySem.W.fnOf "change" "Net.change" (aR mP) (aP mP) (aE mP) .none kV26 dc26 pm26 an26 cd26 ct26),sl26⟩)(c26:PySem.W.codeIn K cd26 "Net.change"=true)(k26:kI9 K f26)(a27_0:PySem.W.findIn K (.ref c_Net) "rows"=some (some (.ref f27)))(i27:PySem.W.isFn K (.ref f27)=true)(l27:K.lookup f27=some ⟨oc27,od27,.func (PySem.W.fnOf "rows" "Net.rows" (aR wN) (aP wN) (aE wN) .none kV27 dc27 pm27 an27 cd27 ct27),sl27⟩)(c27:PySem.W.codeIn K cd27 "Net.rows"=true)(k27:kI9 K f27)(a28:PySem.W.nsIn K mainGlobals "joined"=some (some (.ref f28)))(l28:K.lookup f28=some ⟨oc28,od28,.func (PySem.W.fnOf "joined" "joined" (aR mM) (aP mM) (aE mM) .none kV28 dc28 pm28 an28 cd28 ct28),sl28⟩)(c28:PySem.W.codeIn K cd28 "joined"=true)(k28:kI9 K f28)(a29:PySem.W.nsIn K mainGlobals "marks_of"=some (some (.ref f29)))(l29:K.lookup f29=some ⟨oc29,od29,.func (PySem.W.fnOf "marks_of" "marks_of" (aR qY) (aP qY) (aE qY) .none kV29 dc29 pm29 an29 cd29 ct29),sl29⟩)(c29:PySem.W.codeIn K cd29 "marks_of"=true)(k29:kI9 K f29)(a30:PySem.W.nsIn K mainGlobals "floating"=some (some (.ref f30)))(l30:K.lookup f30=some ⟨oc30,od30,.func (PySem.W.fnOf "floating" "floating" (aR pU) (aP pU) (aE pU) .none kV30 dc30 pm30 an30 cd30 ct30),sl30⟩)(c30:PySem.W.codeIn K cd30 "floating"=true)(k30:kI9 K f30)(a31:PySem.W.nsIn K mainGlobals "steps_from"=some (some (.ref f31)))(l31:K.lookup f31=some ⟨oc31,od31,.func (PySem.W.fnOf "steps_from" "steps_from" (aR qX) (aP qX) (aE qX) .none kV31 dc31 pm31 an31 cd31 ct31),sl31⟩)(c31:PySem.W.codeIn K cd31 "steps_from"=true)(k31:kI9 K f31)(a32:PySem.W.nsIn K mainGlobals "way_along"=some (some (.ref f32)))(l32:K.lookup f32=some ⟨oc32,od32,.func (PySem.W.fnOf "way_along" "way_along" (aR Hu) (aP Hu) (aE Hu) .none kV32 dc32 pm32 an32 cd32 ct32),sl32⟩)(c32:PySem.W.codeIn K cd32 "way_along"=true)(k32:kI9 K f32)(a33:PySem.W.nsIn K mainGlobals "rings"=some (some (.ref f33)))(l33:K.lookup f33=some ⟨oc33,od33,.func (PySem.W.fnOf "rings" "rings" (aR iA) (aP iA) (aE iA) (.ref T33) kV33 dc33 pm33 an33 cd33 ct33),sl33⟩)(c33:PySem.W.codeIn K cd33 "rings"=true)(k33:kI9 K f33)(lt33:K.lookup T33=some ⟨oT33,dT33,.seq #[.none] nT33,sT33⟩)(a34:PySem.W.nsIn K mainGlobals "raise_at"=some (some (.ref f34)))(l34:K.lookup f34=some ⟨oc34,od34,.func (PySem.W.fnOf "raise_at" "raise_at" (aR rH) (aP rH) (aE rH) .none kV34 dc34 pm34 an34 cd34 ct34),sl34⟩)(c34:PySem.W.codeIn K cd34 "raise_at"=true)(k34:kI9 K f34)(a35:PySem.W.nsIn K mainGlobals "enter_stream"=some (some (.ref f35)))(l35:K.lookup f35=some ⟨oc35,od35,.func (PySem.W.fnOf "enter_stream" "enter_stream" (aR qD) (aP qD) (aE qD) .none kV35 dc35 pm35 an35 cd35 ct35),sl35⟩)(c35:PySem.W.codeIn K cd35 "enter_stream"=true)(k35:kI9 K f35)(a36:PySem.W.nsIn K mainGlobals "enter_piece"=some (some (.ref f36)))(l36:K.lookup f36=some ⟨oc36,od36,.func (PySem.W.fnOf "enter_piece" "enter_piece" (aR mF) (aP mF) (aE mF) .none kV36 dc36 pm36 an36 cd36 ct36),sl36⟩)(c36:PySem.W.codeIn K cd36 "enter_piece"=true)(k36:kI9 K f36)(a37:PySem.W.nsIn K mainGlobals "enter_push"=some (some (.ref f37)))(l37:K.lookup f37=some ⟨oc37,od37,.func (PySem.W.fnOf "enter_push" "enter_push" (aR mG) (aP mG) (aE mG) .none kV37 dc37 pm37 an37 cd37 ct37),sl37⟩)(c37:PySem.W.codeIn K cd37 "enter_push"=true)(k37:kI9 K f37)(a38:PySem.W.nsIn K mainGlobals "enter_hold"=some (some (.ref f38)))(l38:K.lookup f38=some ⟨oc38,od38,.func (PySem.W.fnOf "enter_hold" "enter_hold" (aR mO) (aP mO) (aE mO) .none kV38 dc38 pm38 an38 cd38 ct38),sl38⟩)(c38:PySem.W.codeIn K cd38 "enter_hold"=true)(k38:kI9 K f38)(a39:PySem.W.nsIn K mainGlobals "equations"=some (some (.ref f39)))(l39:K.lookup f39=some ⟨oc39,od39,.func (PySem.W.fnOf "equations" "equations" (aR Ki) (aP Ki) (aE Ki) .none kV39 dc39 pm39 an39 cd39 ct39),sl39⟩)(c39:PySem.W.codeIn K cd39 "equations"=true)(k39:kI9 K f39)(a40:PySem.W.nsIn K mainGlobals "in_wholes"=some (some (.ref f40)))(l40:K.lookup f40=some ⟨oc40,od40,.func (PySem.W.fnOf "in_wholes" "in_wholes" (aR sIW) (aP sIW) (aE sIW) .none kV40 dc40 pm40 an40 cd40 ct40),sl40⟩)(c40:PySem.W.codeIn K cd40 "in_wholes"=true)(k40:kI9 K f40)(a41:PySem.W.nsIn K mainGlobals "pivot_place"=some (some (.ref f41)))(l41:K.lookup f41=some ⟨oc41,od41,.func (PySem.W.fnOf "pivot_place" "pivot_place" (aR Hq) (aP Hq) (aE Hq) .none kV41 dc41 pm41 an41 cd41 ct41),sl41⟩)(c41:PySem.W.codeIn K cd41 "pivot_place"=true)(k41:kI9 K f41)(a42:PySem.W.nsIn K mainGlobals "cleared"=some (some (.ref f42)))(l42:K.lookup f42=some ⟨oc42,od42,.func (PySem.W.fnOf "cleared" "cleared" (aR Iu) (aP Iu) (aE Iu) .none kV42 dc42 pm42 an42 cd42 ct42),sl42⟩)(c42:PySem.W.codeIn K cd42 "cleared"=true)(k42:kI9 K f42)(a43:PySem.W.nsIn K mainGlobals "cleared_rows"=some (some (.ref f43)))(l43:K.lookup f43=some ⟨oc43,od43,.func (PySem.W.fnOf "cleared_rows" "cleared_rows" (aR jK) (aP jK) (aE jK) .none kV43 dc43 pm43 an43 cd43 ct43),sl43⟩)(c43:PySem.W.codeIn K cd43 "cleared_rows"=true)(k43:kI9 K f43)(a44:PySem.W.nsIn K mainGlobals "eliminated"=some (some (.ref f44)))(l44:K.lookup f44=some ⟨oc44,od44,.func (PySem.W.fnOf "eliminated" "eliminated" (aR wT) (aP wT) (aE wT) .none kV44 dc44 pm44 an44 cd44 ct44),sl44⟩)(c44:PySem.W.codeIn K cd44 "eliminated"=true)(k44:kI9 K f44)(a45:PySem.W.nsIn K mainGlobals "solved"=some (some (.ref f45)))(l45:K.lookup f45=some ⟨oc45,od45,.func (PySem.W.fnOf "solved" "solved" (aR mE) (aP mE) (aE mE) .none kV45 dc45 pm45 an45 cd45 ct45),sl45⟩)(c45:PySem.W.codeIn K cd45 "solved"=true)(k45:kI9 K f45)(a46:PySem.W.nsIn K mainGlobals "refuse_unanswered"=some (some (.ref f46)))(l46:K.lookup f46=some ⟨oc46,od46,.func (PySem.W.fnOf "refuse_unanswered" "refuse_unanswered" (aR Ie) (aP Ie) (aE Ie) .none kV46 dc46 pm46 an46 cd46 ct46),sl46⟩)(c46:PySem.W.codeIn K cd46 "refuse_unanswered"=true)(k46:kI9 K f46)(a47:PySem.W.nsIn K mainGlobals "heights_by"=some (some (.ref f47)))(l47:K.lookup f47=some ⟨oc47,od47,.func (PySem.W.fnOf "heights_by" "heights_by" (aR Ij) (aP Ij) (aE Ij) .none kV47 dc47 pm47 an47 cd47 ct47),sl47⟩)(c47:PySem.W.codeIn K cd47 "heights_by"=true)(k47:kI9 K f47)(a48:PySem.W.nsIn K mainGlobals "pushed_heights"=some (some (.ref f48)))(l48:K.lookup f48=some ⟨oc48,od48,.func (PySem.W.fnOf "pushed_heights" "pushed_heights" (aR Ii) (aP Ii) (aE Ii) .none kV48 dc48 pm48 an48 cd48 ct48),sl48⟩)(c48:PySem.W.codeIn K cd48 "pushed_heights"=true)(k48:kI9 K f48)(a49:PySem.W.nsIn K mainGlobals "between"=some (some (.ref f49)))(l49:K.lookup f49=some ⟨oc49,od49,.func (PySem.W.fnOf "between" "between" (aR Kh) (aP Kh) (aE Kh) .none kV49 dc49 pm49 an49 cd49 ct49),sl49⟩)(c49:PySem.W.codeIn K cd49 "between"=true)(k49:kI9 K f49)(a50:PySem.W.nsIn K mainGlobals "nearest"=some (some (.ref f50)))(l50:K.lookup f50=some ⟨oc50,od50,.func (PySem.W.fnOf "nearest" "nearest" (aR yB) (aP yB) (aE yB) .none kV50 dc50 pm50 an50 cd50 ct50),sl50⟩)(c50:PySem.W.codeIn K cd50 "nearest"=true)(k50:kI9 K f50)(a51:PySem.W.nsIn K mainGlobals "length_of"=some (some (.ref f51)))(l51:K.lookup f51=some ⟨oc51,od51,.func (PySem.W.fnOf "length_of" "length_of" (aR xF) (aP xF) (aE xF) .none kV51 dc51 pm51 an51 cd51 ct51),sl51⟩)(c51:PySem.W.codeIn K cd51 "length_of"=true)(k51:kI9 K f51)(a52:PySem.W.nsIn K mainGlobals "least_from"=some (some (.ref f52)))(l52:K.lookup f52=some ⟨oc52,od52,.func (PySem.W.fnOf "least_from" "least_from" (aR qR) (aP qR) (aE qR) .none kV52 dc52 pm52 an52 cd52 ct52),sl52⟩)(c52:PySem.W.codeIn K cd52 "least_from"=true)(k52:kI9 K f52)(a53:PySem.W.nsIn K mainGlobals "distances"=some (some (.ref f53)))(l53:K.lookup f53=some ⟨oc53,od53,.func (PySem.W.fnOf "distances" "distances" (aR yD) (aP yD) (aE yD) .none kV53 dc53 pm53 an53 cd53 ct53),sl53⟩)(c53:PySem.W.codeIn K cd53 "distances"=true)(k53:kI9 K f53)(a54:PySem.W.nsIn K mainGlobals "_law_draw"=some (some (.ref f54)))(l54:K.lookup f54=some ⟨oc54,od54,.func (PySem.W.fnOf "_law_draw" "_law_draw" (aR yL) (aP yL) (aE yL) .none kV54 dc54 pm54 an54 cd54 ct54),sl54⟩)(c54:PySem.W.codeIn K cd54 "_law_draw"=true)(k54:kI9 K f54)(a55:PySem.W.nsIn K mainGlobals "_law_mix"=some (some (.ref f55)))(l55:K.lookup f55=some ⟨oc55,od55,.func (PySem.W.fnOf "_law_mix" "_law_mix" (aR sU) (aP sU) (aE sU) .none kV55 dc55 pm55 an55 cd55 ct55),sl55⟩)(c55:PySem.W.codeIn K cd55 "_law_mix"=true)(k55:kI9 K f55)(a56:PySem.W.nsIn K mainGlobals "_law_far"=some (some (.ref f56)))(l56:K.lookup f56=some ⟨oc56,od56,.func (PySem.W.fnOf "_law_far" "_law_far" (aR Jf) (aP Jf) (aE Jf) .none kV56 dc56 pm56 an56 cd56 ct56),sl56⟩)(c56:PySem.W.codeIn K cd56 "_law_far"=true)(k56:kI9 K f56)(a57:PySem.W.nsIn K mainGlobals "_law_lowest"=some (some (.ref f57)))(l57:K.lookup f57=some ⟨oc57,od57,.func (PySem.W.fnOf "_law_lowest" "_law_lowest" (aR mC) (aP mC) (aE mC) .none kV57 dc57 pm57 an57 cd57 ct57),sl57⟩)(c57:PySem.W.codeIn K cd57 "_law_lowest"=true)(k57:kI9 K f57)(a58:PySem.W.nsIn K mainGlobals "_law_plus"=some (some (.ref f58)))(l58:K.lookup f58=some ⟨oc58,od58,.func (PySem.W.fnOf "_law_plus" "_law_plus" (aR rD) (aP rD) (aE rD) .none kV58 dc58 pm58 an58 cd58 ct58),sl58⟩)(c58:PySem.W.codeIn K cd58 "_law_plus"=true)(k58:kI9 K f58)(a59:PySem.W.nsIn K mainGlobals "_law_times"=some (some (.ref f59)))(l59:K.lookup f59=some ⟨oc59,od59,.func (PySem.W.fnOf "_law_times" "_law_times" (aR mH) (aP mH) (aE mH) .none kV59 dc59 pm59 an59 cd59 ct59),sl59⟩)(c59:PySem.W.codeIn K cd59 "_law_times"=true)(k59:kI9 K f59)(a60:PySem.W.nsIn K mainGlobals "_law_by"=some (some (.ref f60)))(l60:K.lookup f60=some ⟨oc60,od60,.func (PySem.W.fnOf "_law_by" "_law_by" (aR Kj) (aP Kj) (aE Kj) .none kV60 dc60 pm60 an60 cd60 ct60),sl60⟩)(c60:PySem.W.codeIn K cd60 "_law_by"=true)(k60:kI9 K f60)(a61:PySem.W.nsIn K mainGlobals "_law_told"=some (some (.ref f61)))(l61:K.lookup f61=some ⟨oc61,od61,.func (PySem.W.fnOf "_law_told" "_law_told" (aR yH) (aP yH) (aE yH) .none kV61 dc61 pm61 an61 cd61 ct61),sl61⟩)(c61:PySem.W.codeIn K cd61 "_law_told"=true)(k61:kI9 K f61)(a62:PySem.W.nsIn K mainGlobals "_law_size"=some (some (.ref f62)))(l62:K.lookup f62=some ⟨oc62,od62,.func (PySem.W.fnOf "_law_size" "_law_size" (aR wX) (aP wX) (aE wX) .none kV62 dc62 pm62 an62 cd62 ct62),sl62⟩)(c62:PySem.W.codeIn K cd62 "_law_size"=true)(k62:kI9 K f62)(a63:PySem.W.nsIn K mainGlobals "_law_net"=some (some (.ref f63)))(l63:K.lookup f63=some ⟨oc63,od63,.func (PySem.W.fnOf "_law_net" "_law_net" (aR qH) (aP qH) (aE qH) .none kV63 dc63 pm63 an63 cd63 ct63),sl63⟩)(c63:PySem.W.codeIn K cd63 "_law_net"=true)(k63:kI9 K f63)(a64:PySem.W.nsIn K mainGlobals "_law_put"=some (some (.ref f64)))(l64:K.lookup f64=some ⟨oc64,od64,.func (PySem.W.fnOf "_law_put" "_law_put" (aR Jm) (aP Jm) (aE Jm) .none kV64 dc64 pm64 an64 cd64 ct64),sl64⟩)(c64:PySem.W.codeIn K cd64 "_law_put"=true)(k64:kI9 K f64)(a65:PySem.W.nsIn K mainGlobals "_law_hanging"=some (some (.ref f65)))(l65:K.lookup f65=some ⟨oc65,od65,.func (PySem.W.fnOf "_law_hanging" "_law_hanging" (aR xE) (aP xE) (aE xE) .none kV65 dc65 pm65 an65 cd65 ct65),sl65⟩)(c65:PySem.W.codeIn K cd65 "_law_hanging"=true)(k65:kI9 K f65)(a66:PySem.W.nsIn K mainGlobals "_law_no_more"=some (some (.ref f66)))(l66:K.lookup f66=some ⟨oc66,od66,.func (PySem.W.fnOf "_law_no_more" "_law_no_more" (aR wL) (aP wL) (aE wL) .none kV66 dc66 pm66 an66 cd66 ct66),sl66⟩)(c66:PySem.W.codeIn K cd66 "_law_no_more"=true)(k66:kI9 K f66)(a67:PySem.W.nsIn K mainGlobals "_law_more_rows"=some (some (.ref f67)))(l67:K.lookup f67=some ⟨oc67,od67,.func (PySem.W.fnOf "_law_more_rows" "_law_more_rows" (aR yN) (aP yN) (aE yN) .none kV67 dc67 pm67 an67 cd67 ct67),sl67⟩)(c67:PySem.W.codeIn K cd67 "_law_more_rows"=true)(k67:kI9 K f67)(a68:PySem.W.nsIn K mainGlobals "_law_smaller"=some (some (.ref f68)))(l68:K.lookup f68=some ⟨oc68,od68,.func (PySem.W.fnOf "_law_smaller" "_law_smaller" (aR yA) (aP yA) (aE yA) .none kV68 dc68 pm68 an68 cd68 ct68),sl68⟩)(c68:PySem.W.codeIn K cd68 "_law_smaller"=true)(k68:kI9 K f68)(a69:PySem.W.nsIn K mainGlobals "law"=some (some (.ref f69)))(l69:K.lookup f69=some ⟨oc69,od69,.func (PySem.W.fnOf "law" "law" (aR zQ) (aP zQ) (aE zQ) .none kV69 dc69 pm69 an69 cd69 ct69),sl69⟩)(c69:PySem.W.codeIn K cd69 "law"=true)(k69:kI9 K f69)(v_ONE:PySem.W.nsIn K mainGlobals "ONE"=some (some (.ref aO)))(v_NOUGHT:PySem.W.nsIn K mainGlobals "NOUGHT"=some (some (.ref aN)))(v_JOINING_WORDS:PySem.W.nsIn K mainGlobals "JOINING_WORDS"=some (some (.ref aJ)))(v_MOST_POINTS:PySem.W.nsIn K mainGlobals "MOST_POINTS"=some (some (.int 20 tM)))(v_MOST_ROWS:PySem.W.nsIn K mainGlobals "MOST_ROWS"=some (some (.int 40 tR)))(lO:K.lookup aO=some ⟨.type "tuple",dO,.seq #[.int 1 t2,.int 1 t3] nO,sO⟩)(lN:K.lookup aN=some ⟨.type "tuple",dN,.seq #[.int 0 t0,.int 1 t1] nN,sN⟩)(lJ:K.lookup aJ=some ⟨.type "tuple",dJ,.seq #[.str "piece" tj0,.str "hold" tj1] nJ,sJ⟩)(pg_Piece:PySem.W.plainGet K c_Piece Str.empty=true)(hd_Piece:PySem.W.hasDictIn K c_Piece=true)(po_Piece:PySem.W.plainOver K c_Piece=true)(sa_Piece:PySem.W.findIn K (.ref c_Piece) "__setattr__"=some (some (.builtin "object.__setattr__")))(mk_Piece:PySem.W.makesIn K c_Piece=true)(kc_Piece:kI9 K c_Piece)(t1_Piece:PySem.W.findIn K (.ref c_Piece) "__class__"=some (some (.builtin "object.__class__")))(t4_Piece:PySem.W.mroIn K c_Piece (.type "object")=some true)(na_Piece_start:PySem.W.findIn K (.ref c_Piece) "start"=some none)(na_Piece_goal:PySem.W.findIn K (.ref c_Piece) "goal"=some none)(na_Piece_size:PySem.W.findIn K (.ref c_Piece) "size"=some none)(pg_Push:PySem.W.plainGet K c_Push Str.empty=true)(hd_Push:PySem.W.hasDictIn K c_Push=true)(po_Push:PySem.W.plainOver K c_Push=true)(sa_Push:PySem.W.findIn K (.ref c_Push) "__setattr__"=some (some (.builtin "object.__setattr__")))(mk_Push:PySem.W.makesIn K c_Push=true)(kc_Push:kI9 K c_Push)(t1_Push:PySem.W.findIn K (.ref c_Push) "__class__"=some (some (.builtin "object.__class__")))(t4_Push:PySem.W.mroIn K c_Push (.type "object")=some true)(na_Push_start:PySem.W.findIn K (.ref c_Push) "start"=some none)(na_Push_goal:PySem.W.findIn K (.ref c_Push) "goal"=some none)(na_Push_size:PySem.W.findIn K (.ref c_Push) "size"=some none)(pg_Hold:PySem.W.plainGet K c_Hold Str.empty=true)(hd_Hold:PySem.W.hasDictIn K c_Hold=true)(po_Hold:PySem.W.plainOver K c_Hold=true)(sa_Hold:PySem.W.findIn K (.ref c_Hold) "__setattr__"=some (some (.builtin "object.__setattr__")))(mk_Hold:PySem.W.makesIn K c_Hold=true)(kc_Hold:kI9 K c_Hold)(t1_Hold:PySem.W.findIn K (.ref c_Hold) "__class__"=some (some (.builtin "object.__class__")))(t4_Hold:PySem.W.mroIn K c_Hold (.type "object")=some true)(na_Hold_start:PySem.W.findIn K (.ref c_Hold) "start"=some none)(na_Hold_goal:PySem.W.findIn K (.ref c_Hold) "goal"=some none)(na_Hold_size:PySem.W.findIn K (.ref c_Hold) "size"=some none)(tt2:PySem.W.specialIn K (.builtin "object.__class__") "__get__"=some (some (.builtin "getset_descriptor.__get__")))(tt3:PySem.W.takesIn K (.builtin "object.__class__")=some true)(isR_Piece:PySem.W.kitOne K (.ref c_Piece) (.ref c_Row)=some true)(isR_Push:PySem.W.kitOne K (.ref c_Push) (.ref c_Row)=some true)(isR_Hold:PySem.W.kitOne K (.ref c_Hold) (.ref c_Row)=some true)(isK_Piece_Push:PySem.W.kitOne K (.ref c_Piece) (.ref c_Push)=some false)(isK_Piece_Hold:PySem.W.kitOne K (.ref c_Piece) (.ref c_Hold)=some false)(isK_Push_Piece:PySem.W.kitOne K (.ref c_Push) (.ref c_Piece)=some false)(isK_Push_Hold:PySem.W.kitOne K (.ref c_Push) (.ref c_Hold)=some false)(isK_Hold_Piece:PySem.W.kitOne K (.ref c_Hold) (.ref c_Piece)=some false)(isK_Hold_Push:PySem.W.kitOne K (.ref c_Hold) (.ref c_Push)=some false)(pg_Net:PySem.W.plainGet K c_Net Str.empty=true)(hd_Net:PySem.W.hasDictIn K c_Net=true)(po_Net:PySem.W.plainOver K c_Net=true)(sa_Net:PySem.W.findIn K (.ref c_Net) "__setattr__"=some (some (.builtin "object.__setattr__")))(mk_Net:PySem.W.makesIn K c_Net=true)(kc_Net:kI9 K c_Net)(t1_Net:PySem.W.findIn K (.ref c_Net) "__class__"=some (some (.builtin "object.__class__")))(t4_Net:PySem.W.mroIn K c_Net (.type "object")=some true)(na_Net_point_count:PySem.W.findIn K (.ref c_Net) "point_count"=some none)(na_Net_kept:PySem.W.findIn K (.ref c_Net) "kept"=some none)(z1:PySem.W.nsIn K mainGlobals "isinstance"=some none)(z2:PySem.W.nsIn K mainGlobals "int"=some none)(z3:PySem.W.nsIn K mainGlobals "bool"=some none)(z4:PySem.W.nsIn K mainGlobals "abs"=some none)(z5:PySem.W.nsIn K mainGlobals "len"=some none)(z6:PySem.W.nsIn K mainGlobals "range"=some none)(z7:PySem.W.nsIn K mainGlobals "str"=some none)(z8:PySem.W.nsIn K mainGlobals "tuple"=some none)(z9:PySem.W.nsIn K mainGlobals "list"=some none)(z10:PySem.W.nsIn K mainGlobals "all"=some none)(z11:PySem.W.nsIn K mainGlobals "zip"=some none)(z12:PySem.W.nsIn K mainGlobals "enumerate"=some none) :
  ∃fd:FuncData,(∀(s:Shared) (v:Value),BindsTo s fd ⟨[v],[]⟩ [("_law_script",v)])/\∀base:Heap,K.In base->base.Ns mainGlobals mg->aM l.prog w K mg base CX0 11 fa fd ["_law_script"] (Ff K):=by
 have e:=hfa.symm.trans (PySem.W.mg_of X G a69)
 cases e
 have mc_Row:=PySem.W.mg_of X G y_Row;have mc_Piece:=PySem.W.mg_of X G y_Piece;have mc_Push:=PySem.W.mg_of X G y_Push;have mc_Hold:=PySem.W.mg_of X G y_Hold;have mc_Net:=PySem.W.mg_of X G y_Net;have F1:=aW (st:=pY) l1 c1 k1;have m1:=PySem.W.mg_of X G a1;have b1:=F1.binds (ps:=["thing"]) fun _ _ _ _ _ _ us hl=>by obtain⟨_,rfl⟩:=cZ hl;rfl
 have F2:=aW (st:=sGc) l2 c2 k2;have m2:=PySem.W.mg_of X G a2;have b2:=F2.binds (ps:=["one","other"]) fun _ _ _ _ _ _ us hl=>by obtain⟨_,_,rfl⟩:=cJ hl;rfl
 have F3:=aW (st:=pZ) l3 c3 k3;have m3:=PySem.W.mg_of X G a3;have b3:=F3.binds (ps:=["one","other"]) fun _ _ _ _ _ _ us hl=>by obtain⟨_,_,rfl⟩:=cJ hl;rfl
 have F4:=aW (st:=kL) l4 c4 k4;have m4:=PySem.W.mg_of X G a4;have b4:aQ K _ ["top","bottom"] []:=fun s us XX hl=>match us,hl with | [_,_],_=>PySem.W.binds_K (fd:=PySem.W.fnOf "fraction" "fraction" (aR kL) (aP kL) (aE kL) (.ref T4) kV4 dc4 pm4 an4 cd4 ct4) XX rfl lt4 rfl rfl rfl
 have bd4:aQ K _ ["top","bottom"] [.int 1 tk4]:=fun s us XX hl=>match us,(show us.length=1 by simp at hl;omega) with | [_],_=>PySem.W.binds_K (fd:=PySem.W.fnOf "fraction" "fraction" (aR kL) (aP kL) (aE kL) (.ref T4) kV4 dc4 pm4 an4 cd4 ct4) XX rfl lt4 rfl rfl rfl
 have F5:=aW (st:=pW) l5 c5 k5;have m5:=PySem.W.mg_of X G a5;have b5:=F5.binds (ps:=["one","other"]) fun _ _ _ _ _ _ us hl=>by obtain⟨_,_,rfl⟩:=cJ hl;rfl
 have F6:=aW (st:=xS) l6 c6 k6;have m6:=PySem.W.mg_of X G a6;have b6:=F6.binds (ps:=["one","other"]) fun _ _ _ _ _ _ us hl=>by obtain⟨_,_,rfl⟩:=cJ hl;rfl
 have F7:=aW (st:=wR) l7 c7 k7;have m7:=PySem.W.mg_of X G a7;have b7:=F7.binds (ps:=["one","other"]) fun _ _ _ _ _ _ us hl=>by obtain⟨_,_,rfl⟩:=cJ hl;rfl
 have F8:=aW (st:=Jh) l8 c8 k8;have m8:=PySem.W.mg_of X G a8;have b8:=F8.binds (ps:=["thing"]) fun _ _ _ _ _ _ us hl=>by obtain⟨_,rfl⟩:=cZ hl;rfl
 have F9:=aW (st:=qT) l9 c9 k9;have b9:=F9.binds (ps:=["self","start","goal","size"]) fun _ _ _ _ _ _ us hl=>by obtain⟨_,_,_,_,rfl⟩:=iX hl;rfl
 have F10:=aW (st:=jS) l10 c10 k10;have b10:=F10.binds (ps:=["self"]) fun _ _ _ _ _ _ us hl=>by obtain⟨_,rfl⟩:=cZ hl;rfl
 have F11:=aW (st:=jY) l11 c11 k11;have b11:=F11.binds (ps:=["self"]) fun _ _ _ _ _ _ us hl=>by obtain⟨_,rfl⟩:=cZ hl;rfl
 have F12:=aW (st:=jO) l12 c12 k12;have b12:=F12.binds (ps:=["self"]) fun _ _ _ _ _ _ us hl=>by obtain⟨_,rfl⟩:=cZ hl;rfl
 have F13:=aW (st:=iJ) l13 c13 k13;have b13:=F13.binds (ps:=["self"]) fun _ _ _ _ _ _ us hl=>by obtain⟨_,rfl⟩:=cZ hl;rfl
 have F14:=aW (st:=iI) l14 c14 k14;have b14:=F14.binds (ps:=["self"]) fun _ _ _ _ _ _ us hl=>by obtain⟨_,rfl⟩:=cZ hl;rfl
 have F15:=aW (st:=iH) l15 c15 k15;have b15:=F15.binds (ps:=["self"]) fun _ _ _ _ _ _ us hl=>by obtain⟨_,rfl⟩:=cZ hl;rfl
 have F16:=aW (st:=qQ) l16 c16 k16;have b16:=F16.binds (ps:=["self"]) fun _ _ _ _ _ _ us hl=>by obtain⟨_,rfl⟩:=cZ hl;rfl
 have F17:=aW (st:=pX) l17 c17 k17;have m17:=PySem.W.mg_of X G a17;have b17:=F17.binds (ps:=["told"]) fun _ _ _ _ _ _ us hl=>by obtain⟨_,rfl⟩:=cZ hl;rfl
 have F18:=aW (st:=sPS) l18 c18 k18;have m18:=PySem.W.mg_of X G a18;have b18:=F18.binds (ps:=["thing"]) fun _ _ _ _ _ _ us hl=>by obtain⟨_,rfl⟩:=cZ hl;rfl
 have F19:=aW (st:=sNB) l19 c19 k19;have m19:=PySem.W.mg_of X G a19;have b19:=F19.binds (ps:=["thing","bound"]) fun _ _ _ _ _ _ us hl=>by obtain⟨_,_,rfl⟩:=cJ hl;rfl
 have F20:=aW (st:=sRS) l20 c20 k20;have m20:=PySem.W.mg_of X G a20;have b20:=F20.binds (ps:=["word","size"]) fun _ _ _ _ _ _ us hl=>by obtain⟨_,_,rfl⟩:=cJ hl;rfl
 have F21:=aW (st:=sRP) l21 c21 k21;have m21:=PySem.W.mg_of X G a21;have b21:=F21.binds (ps:=["some","many"]) fun _ _ _ _ _ _ us hl=>by obtain⟨_,_,rfl⟩:=cJ hl;rfl
 have F22:=aW (st:=sRN) l22 c22 k22;have m22:=PySem.W.mg_of X G a22;have b22:=F22.binds (ps:=["k","count"]) fun _ _ _ _ _ _ us hl=>by obtain⟨_,_,rfl⟩:=cJ hl;rfl
 have F23:=aW (st:=qI) l23 c23 k23;have b23:=F23.binds (ps:=["self","many"]) fun _ _ _ _ _ _ us hl=>by obtain⟨_,_,rfl⟩:=cJ hl;rfl
 have F24:=aW (st:=xU) l24 c24 k24;have b24:=F24.binds (ps:=["self"]) fun _ _ _ _ _ _ us hl=>by obtain⟨_,rfl⟩:=cZ hl;rfl
 have F25:=aW (st:=Ik) l25 c25 k25;have b25:=F25.binds (ps:=["self","row"]) fun _ _ _ _ _ _ us hl=>by obtain⟨_,_,rfl⟩:=cJ hl;rfl
 have F26:=aW (st:=mP) l26 c26 k26;have b26:=F26.binds (ps:=["self","k","size"]) fun _ _ _ _ _ _ us hl=>by obtain⟨_,_,_,rfl⟩:=jE hl;rfl
 have F27:=aW (st:=wN) l27 c27 k27;have b27:=F27.binds (ps:=["self"]) fun _ _ _ _ _ _ us hl=>by obtain⟨_,rfl⟩:=cZ hl;rfl
 have F28:=aW (st:=mM) l28 c28 k28;have m28:=PySem.W.mg_of X G a28;have b28:=F28.binds (ps:=["marks","row"]) fun _ _ _ _ _ _ us hl=>by obtain⟨_,_,rfl⟩:=cJ hl;rfl
 have F29:=aW (st:=qY) l29 c29 k29;have m29:=PySem.W.mg_of X G a29;have b29:=F29.binds (ps:=["net"]) fun _ _ _ _ _ _ us hl=>by obtain⟨_,rfl⟩:=cZ hl;rfl
 have F30:=aW (st:=pU) l30 c30 k30;have m30:=PySem.W.mg_of X G a30;have b30:=F30.binds (ps:=["net"]) fun _ _ _ _ _ _ us hl=>by obtain⟨_,rfl⟩:=cZ hl;rfl
 have F31:=aW (st:=qX) l31 c31 k31;have m31:=PySem.W.mg_of X G a31;have b31:=F31.binds (ps:=["rows","numbers","point"]) fun _ _ _ _ _ _ us hl=>by obtain⟨_,_,_,rfl⟩:=jE hl;rfl
 have F32:=aW (st:=Hu) l32 c32 k32;have m32:=PySem.W.mg_of X G a32;have b32:=F32.binds (ps:=["rows","numbers","begin","end"]) fun _ _ _ _ _ _ us hl=>by obtain⟨_,_,_,_,rfl⟩:=iX hl;rfl
 have F33:=aW (st:=iA) l33 c33 k33;have m33:=PySem.W.mg_of X G a33;have b33:aQ K _ ["net","words"] []:=fun s us XX hl=>match us,hl with | [_,_],_=>PySem.W.binds_K (fd:=PySem.W.fnOf "rings" "rings" (aR iA) (aP iA) (aE iA) (.ref T33) kV33 dc33 pm33 an33 cd33 ct33) XX rfl lt33 rfl rfl rfl
 have bd33:aQ K _ ["net","words"] [.none]:=fun s us XX hl=>match us,(show us.length=1 by simp at hl;omega) with | [_],_=>PySem.W.binds_K (fd:=PySem.W.fnOf "rings" "rings" (aR iA) (aP iA) (aE iA) (.ref T33) kV33 dc33 pm33 an33 cd33 ct33) XX rfl lt33 rfl rfl rfl
 have F34:=aW (st:=rH) l34 c34 k34;have m34:=PySem.W.mg_of X G a34;have b34:=F34.binds (ps:=["line","column","amount"]) fun _ _ _ _ _ _ us hl=>by obtain⟨_,_,_,rfl⟩:=jE hl;rfl
 have F35:=aW (st:=qD) l35 c35 k35;have m35:=PySem.W.mg_of X G a35;have b35:=F35.binds (ps:=["matrix","row","column","amount"]) fun _ _ _ _ _ _ us hl=>by obtain⟨_,_,_,_,rfl⟩:=iX hl;rfl
 have F36:=aW (st:=mF) l36 c36 k36;have m36:=PySem.W.mg_of X G a36;have b36:=F36.binds (ps:=["matrix","row"]) fun _ _ _ _ _ _ us hl=>by obtain⟨_,_,rfl⟩:=cJ hl;rfl
 have F37:=aW (st:=mG) l37 c37 k37;have m37:=PySem.W.mg_of X G a37;have b37:=F37.binds (ps:=["right","row"]) fun _ _ _ _ _ _ us hl=>by obtain⟨_,_,rfl⟩:=cJ hl;rfl
 have F38:=aW (st:=mO) l38 c38 k38;have m38:=PySem.W.mg_of X G a38;have b38:=F38.binds (ps:=["matrix","right","row","column"]) fun _ _ _ _ _ _ us hl=>by obtain⟨_,_,_,_,rfl⟩:=iX hl;rfl
 have F39:=aW (st:=Ki) l39 c39 k39;have m39:=PySem.W.mg_of X G a39;have b39:=F39.binds (ps:=["net"]) fun _ _ _ _ _ _ us hl=>by obtain⟨_,rfl⟩:=cZ hl;rfl
 have F40:=aW (st:=sIW) l40 c40 k40;have m40:=PySem.W.mg_of X G a40;have b40:=F40.binds (ps:=["some"]) fun _ _ _ _ _ _ us hl=>by obtain⟨_,rfl⟩:=cZ hl;rfl
 have F41:=aW (st:=Hq) l41 c41 k41;have m41:=PySem.W.mg_of X G a41;have b41:=F41.binds (ps:=["rows","rank","column"]) fun _ _ _ _ _ _ us hl=>by obtain⟨_,_,_,rfl⟩:=jE hl;rfl
 have F42:=aW (st:=Iu) l42 c42 k42;have m42:=PySem.W.mg_of X G a42;have b42:=F42.binds (ps:=["row","upper","column","divisor"]) fun _ _ _ _ _ _ us hl=>by obtain⟨_,_,_,_,rfl⟩:=iX hl;rfl
 have F43:=aW (st:=jK) l43 c43 k43;have m43:=PySem.W.mg_of X G a43;have b43:=F43.binds (ps:=["rows","rank","column","divisor"]) fun _ _ _ _ _ _ us hl=>by obtain⟨_,_,_,_,rfl⟩:=iX hl;rfl
 have F44:=aW (st:=wT) l44 c44 k44;have m44:=PySem.W.mg_of X G a44;have b44:=F44.binds (ps:=["rows","width"]) fun _ _ _ _ _ _ us hl=>by obtain⟨_,_,rfl⟩:=cJ hl;rfl
 have F45:=aW (st:=mE) l45 c45 k45;have m45:=PySem.W.mg_of X G a45;have b45:=F45.binds (ps:=["matrix","right"]) fun _ _ _ _ _ _ us hl=>by obtain⟨_,_,rfl⟩:=cJ hl;rfl
 have F46:=aW (st:=Ie) l46 c46 k46;have m46:=PySem.W.mg_of X G a46;have b46:=F46.binds (ps:=["net"]) fun _ _ _ _ _ _ us hl=>by obtain⟨_,rfl⟩:=cZ hl;rfl
 have F47:=aW (st:=Ij) l47 c47 k47;have m47:=PySem.W.mg_of X G a47;have b47:=F47.binds (ps:=["net","matrix","right"]) fun _ _ _ _ _ _ us hl=>by obtain⟨_,_,_,rfl⟩:=jE hl;rfl
 have F48:=aW (st:=Ii) l48 c48 k48;have m48:=PySem.W.mg_of X G a48;have b48:=F48.binds (ps:=["net","start","goal"]) fun _ _ _ _ _ _ us hl=>by obtain⟨_,_,_,rfl⟩:=jE hl;rfl
 have F49:=aW (st:=Kh) l49 c49 k49;have m49:=PySem.W.mg_of X G a49;have b49:=F49.binds (ps:=["net","a","b"]) fun _ _ _ _ _ _ us hl=>by obtain⟨_,_,_,rfl⟩:=jE hl;rfl
 have F50:=aW (st:=yB) l50 c50 k50;have m50:=PySem.W.mg_of X G a50;have b50:=F50.binds (ps:=["waiting"]) fun _ _ _ _ _ _ us hl=>by obtain⟨_,rfl⟩:=cZ hl;rfl
 have F51:=aW (st:=xF) l51 c51 k51;have m51:=PySem.W.mg_of X G a51;have b51:=F51.binds (ps:=["row"]) fun _ _ _ _ _ _ us hl=>by obtain⟨_,rfl⟩:=cZ hl;rfl
 have F52:=aW (st:=qR) l52 c52 k52;have m52:=PySem.W.mg_of X G a52;have b52:=F52.binds (ps:=["net","a"]) fun _ _ _ _ _ _ us hl=>by obtain⟨_,_,rfl⟩:=cJ hl;rfl
 have F53:=aW (st:=yD) l53 c53 k53;have m53:=PySem.W.mg_of X G a53;have b53:=F53.binds (ps:=["net","a"]) fun _ _ _ _ _ _ us hl=>by obtain⟨_,_,rfl⟩:=cJ hl;rfl
 have F54:=aW (st:=yL) l54 c54 k54;have m54:=PySem.W.mg_of X G a54;have b54:=F54.binds (ps:=["_law_script","_law_k"]) fun _ _ _ _ _ _ us hl=>by obtain⟨_,_,rfl⟩:=cJ hl;rfl
 have F55:=aW (st:=sU) l55 c55 k55;have m55:=PySem.W.mg_of X G a55;have b55:=F55.binds (ps:=["_law_cell","_law_turn","_law_many"]) fun _ _ _ _ _ _ us hl=>by obtain⟨_,_,_,rfl⟩:=jE hl;rfl
 have F56:=aW (st:=Jf) l56 c56 k56;have m56:=PySem.W.mg_of X G a56;have b56:=F56.binds (ps:=["_law_cell","_law_turn"]) fun _ _ _ _ _ _ us hl=>by obtain⟨_,_,rfl⟩:=cJ hl;rfl
 have F57:=aW (st:=mC) l57 c57 k57;have m57:=PySem.W.mg_of X G a57;have b57:=F57.binds (ps:=["_law_top","_law_bottom"]) fun _ _ _ _ _ _ us hl=>by obtain⟨_,_,rfl⟩:=cJ hl;rfl
 have F58:=aW (st:=rD) l58 c58 k58;have m58:=PySem.W.mg_of X G a58;have b58:=F58.binds (ps:=["_law_one","_law_other"]) fun _ _ _ _ _ _ us hl=>by obtain⟨_,_,rfl⟩:=cJ hl;rfl
 have F59:=aW (st:=mH) l59 c59 k59;have m59:=PySem.W.mg_of X G a59;have b59:=F59.binds (ps:=["_law_one","_law_other"]) fun _ _ _ _ _ _ us hl=>by obtain⟨_,_,rfl⟩:=cJ hl;rfl
 have F60:=aW (st:=Kj) l60 c60 k60;have m60:=PySem.W.mg_of X G a60;have b60:=F60.binds (ps:=["_law_one","_law_other"]) fun _ _ _ _ _ _ us hl=>by obtain⟨_,_,rfl⟩:=cJ hl;rfl
 have F61:=aW (st:=yH) l61 c61 k61;have m61:=PySem.W.mg_of X G a61;have b61:=F61.binds (ps:=["_law_found","_law_due"]) fun _ _ _ _ _ _ us hl=>by obtain⟨_,_,rfl⟩:=cJ hl;rfl
 have F62:=aW (st:=wX) l62 c62 k62;have m62:=PySem.W.mg_of X G a62;have b62:=F62.binds (ps:=["_law_cell"]) fun _ _ _ _ _ _ us hl=>by obtain⟨_,rfl⟩:=cZ hl;rfl
 have F63:=aW (st:=qH) l63 c63 k63;have m63:=PySem.W.mg_of X G a63;have b63:=F63.binds (ps:=["_law_many","_law_rows"]) fun _ _ _ _ _ _ us hl=>by obtain⟨_,_,rfl⟩:=cJ hl;rfl
 have F64:=aW (st:=Jm) l64 c64 k64;have m64:=PySem.W.mg_of X G a64;have b64:=F64.binds (ps:=["_law_rows","_law_cell","_law_word","_law_ends"]) fun _ _ _ _ _ _ us hl=>by obtain⟨_,_,_,_,rfl⟩:=iX hl;rfl
 have F65:=aW (st:=xE) l65 c65 k65;have m65:=PySem.W.mg_of X G a65;have b65:=F65.binds (ps:=["_law_script","_law_many","_law_most","_law_words"]) fun _ _ _ _ _ _ us hl=>by obtain⟨_,_,_,_,rfl⟩:=iX hl;rfl
 have F66:=aW (st:=wL) l66 c66 k66;have m66:=PySem.W.mg_of X G a66;have b66:=F66.binds (ps:=["_law_one","_law_other"]) fun _ _ _ _ _ _ us hl=>by obtain⟨_,_,rfl⟩:=cJ hl;rfl
 have F67:=aW (st:=yN) l67 c67 k67;have m67:=PySem.W.mg_of X G a67;have b67:=F67.binds (ps:=["_law_rows","_law_many","_law_ends","_law_found","_law_size_here"]) fun _ _ _ _ _ _ us hl=>by obtain⟨_,_,_,_,_,rfl⟩:=Fp hl;rfl
 have F68:=aW (st:=yA) l68 c68 k68;have m68:=PySem.W.mg_of X G a68;have b68:=F68.binds (ps:=["_law_net_here","_law_rows","_law_ends","_law_found","_law_cell"]) fun _ _ _ _ _ _ us hl=>by obtain⟨_,_,_,_,_,rfl⟩:=Fp hl;rfl
 have F69:=aW (st:=zQ) l69 c69 k69;have m69:=PySem.W.mg_of X G a69;have b69:=F69.binds (ps:=["_law_script"]) fun _ _ _ _ _ _ us hl=>by obtain⟨_,rfl⟩:=cZ hl;rfl
 have mv_ONE:=PySem.W.mg_of X G v_ONE;have mv_NOUGHT:=PySem.W.mg_of X G v_NOUGHT;have mv_JOINING_WORDS:=PySem.W.mg_of X G v_JOINING_WORDS;have mv_MOST_POINTS:=PySem.W.mg_of X G v_MOST_POINTS;have mv_MOST_ROWS:=PySem.W.mg_of X G v_MOST_ROWS;have n_isinstance:=PySem.W.mg_none_of X G z1;have n_int:=PySem.W.mg_none_of X G z2;have n_bool:=PySem.W.mg_none_of X G z3;have n_abs:=PySem.W.mg_none_of X G z4;have n_len:=PySem.W.mg_none_of X G z5;have n_range:=PySem.W.mg_none_of X G z6;have n_str:=PySem.W.mg_none_of X G z7;have n_tuple:=PySem.W.mg_none_of X G z8;have n_list:=PySem.W.mg_none_of X G z9;have n_all:=PySem.W.mg_none_of X G z10;have n_zip:=PySem.W.mg_none_of X G z11;have n_enumerate:=PySem.W.mg_none_of X G z12;refine⟨PySem.W.fnOf "law" "law" (aR zQ) (aP zQ) (aE zQ) .none kV69 dc69 pm69 an69 cd69 ct69,fun s v=>.of_eq rfl,fun base _ _=>?_⟩;have bl:Bl mg:=⟨n_isinstance,n_int,n_bool,n_abs⟩
 have T:RT K mg c_Row (kd3 c_Piece c_Push c_Hold):=⟨jT ⟨pg_Piece,hd_Piece,po_Piece,sa_Piece⟩ ⟨pg_Push,hd_Push,po_Push,sa_Push⟩ ⟨pg_Hold,hd_Hold,po_Hold,sa_Hold⟩,jT na_Piece_start na_Push_start na_Hold_start,jT na_Piece_goal na_Push_goal na_Hold_goal,jT na_Piece_size na_Push_size na_Hold_size,jT t1_Piece t1_Push t1_Hold,tt2,tt3,jT t4_Piece t4_Push t4_Hold,jT isR_Piece isR_Push isR_Hold,jT (jT (vC _ _) isK_Piece_Push isK_Piece_Hold) (jT isK_Push_Piece (vC _ _) isK_Push_Hold) (jT isK_Hold_Piece isK_Hold_Push (vC _ _)),mc_Row,jT mc_Piece mc_Push mc_Hold⟩
 have fN:∀H,Fq K H aN (0,1):=Fq.mod lN;have fO:∀H,Fq K H aO (1,1):=Fq.mod lO;have fJ:∀H,SqT K H aJ [.str "piece",.str "hold"]:=fun H=>.inr ⟨_,_,_,lJ,rfl,rfl,(zl9 2),.cons ⟨_,rfl⟩ (.cons ⟨_,rfl⟩ .nil)⟩;have NTx:NT K mg c_Net:=⟨⟨pg_Net,hd_Net,po_Net,sa_Net⟩,na_Net_point_count,na_Net_kept,t1_Net,tt2,tt3,t4_Net,mc_Net⟩
 have R1:=Nj (P:=l.prog) (w:=w) (K:=K) (mg:=mg) (base:=base) (CX:=CX0) F1 bl;have R2:=Zb (P:=l.prog) (w:=w) (K:=K) (mg:=mg) (base:=base) (CX:=CX0) F2 bl;have R3:=My (P:=l.prog) (w:=w) (K:=K) (mg:=mg) (base:=base) (CX:=CX0) F3;have R4:=Se (P:=l.prog) (w:=w) (K:=K) (mg:=mg) (base:=base) (CX:=CX0) F4  R1 b1 k1 m1 R2 b2 k2 m2;have R5:=No (P:=l.prog) (w:=w) (K:=K) (mg:=mg) (base:=base) (CX:=CX0) F5  R4 b4 k4 m4;have R6:=Rj (P:=l.prog) (w:=w) (K:=K) (mg:=mg) (base:=base) (CX:=CX0) F6  R4 b4 k4 m4;have R7:=Ty (P:=l.prog) (w:=w) (K:=K) (mg:=mg) (base:=base) (CX:=CX0) F7  R4 b4 k4 m4;have R8:=Wg (P:=l.prog) (w:=w) (K:=K) (mg:=mg) (base:=base) (CX:=CX0) F8 bl n_len n_tuple R1 b1 k1 m1 R2 b2 k2 m2;have R9:=Pi (P:=l.prog) (w:=w) (K:=K) (mg:=mg) (base:=base) (CX:=CX0) F9 T;have R10:=Cz (P:=l.prog) (w:=w) (K:=K) (mg:=mg) (base:=base) (CX:=CX0) F10;have R11:=Dy (P:=l.prog) (w:=w) (K:=K) (mg:=mg) (base:=base) (CX:=CX0) F11;have R12:=Db (P:=l.prog) (w:=w) (K:=K) (mg:=mg) (base:=base) (CX:=CX0) F12;have GW:∀k,aM l.prog w K mg base CX0 1 (kd3 f10 f11 f12 k) (kd3 _ _ _ k) ["self"] (kP k):=jT (R10) (R11) (R12);have bW:∀k,aQ K (kd3 _ _ _ k) ["self"] []:=jT (b10) (b11) (b12);have mW:∀k,iB K (kd3 c_Piece c_Push c_Hold k) "word" (kd3 f10 f11 f12 k):=jT (⟨a10_0,i10,k10⟩) (⟨a11_0,i11,k11⟩) (⟨a12_0,i12,k12⟩);have R13:=Cg (P:=l.prog) (w:=w) (K:=K) (mg:=mg) (base:=base) (CX:=CX0) F13;have R14:=Co (P:=l.prog) (w:=w) (K:=K) (mg:=mg) (base:=base) (CX:=CX0) F14;have R15:=By (P:=l.prog) (w:=w) (K:=K) (mg:=mg) (base:=base) (CX:=CX0) F15;have GJ:∀k,aM l.prog w K mg base CX0 1 (kd3 f13 f14 f15 k) (kd3 _ _ _ k) ["self"] (mQ k):=jT (R13) (R14) (R15);have bJ:∀k,aQ K (kd3 _ _ _ k) ["self"] []:=jT (b13) (b14) (b15);have mJ:∀k,iB K (kd3 c_Piece c_Push c_Hold k) "joins" (kd3 f13 f14 f15 k):=jT (⟨a13_0,i13,k13⟩) (⟨a14_0,i14,k14⟩) (⟨a15_0,i15,k15⟩);have R16:=Mj (P:=l.prog) (w:=w) (K:=K) (mg:=mg) (base:=base) (CX:=CX0) F16 T GW bW mW;have mT:∀k,iB K (kd3 c_Piece c_Push c_Hold k) "told" f16:=jT (⟨a16_0,i16,k16⟩) (⟨a16_1,i16,k16⟩) (⟨a16_2,i16,k16⟩);have MK:∀k,Mk K (kd3 c_Piece c_Push c_Hold k) f9:=jT (⟨mk_Piece,a9_0,i9,kc_Piece⟩) (⟨mk_Push,a9_1,i9,kc_Push⟩) (⟨mk_Hold,a9_2,i9,kc_Hold⟩);have R17:=Nd (P:=l.prog) (w:=w) (K:=K) (mg:=mg) (base:=base) (CX:=CX0) F17 T bl n_str R9 b9 MK;have R18:=Yz (P:=l.prog) (w:=w) (K:=K) (mg:=mg) (base:=base) (CX:=CX0) F18 fN mv_NOUGHT (Bm R8) b8 k8 m8 R3 b3 k3 m3;have R19:=Yx (P:=l.prog) (w:=w) (K:=K) (mg:=mg) (base:=base) (CX:=CX0) F19  R1 b1 k1 m1;have R20:=Yt (P:=l.prog) (w:=w) (K:=K) (mg:=mg) (base:=base) (CX:=CX0) F20 (Bm R8) b8 k8 m8 R18 b18 k18 m18;have R21:=Xo (P:=l.prog) (w:=w) (K:=K) (mg:=mg) (base:=base) (CX:=CX0) F21 n_all R19 b19 k19 m19;have R22:=Zz (P:=l.prog) (w:=w) (K:=K) (mg:=mg) (base:=base) (CX:=CX0) F22  R19 b19 k19 m19;have R23:=Ld (P:=l.prog) (w:=w) (K:=K) (mg:=mg) (base:=base) (CX:=CX0) F23 NTx mv_MOST_POINTS R1 b1 k1 m1;have R24:=Rk (P:=l.prog) (w:=w) (K:=K) (mg:=mg) (base:=base) (CX:=CX0) F24 NTx;have R25:=Xz (P:=l.prog) (w:=w) (K:=K) (mg:=mg) (base:=base) (CX:=CX0) F25 NTx mv_MOST_ROWS n_len T R16 b16 mT (Lr R21) b21 k21 m21 R20 b20 k20 m20;have R26:=Jo (P:=l.prog) (w:=w) (K:=K) (mg:=mg) (base:=base) (CX:=CX0) F26 NTx n_len R22 b22 k22 m22 R20 b20 k20 m20;have R27:=Tk (P:=l.prog) (w:=w) (K:=K) (mg:=mg) (base:=base) (CX:=CX0) F27 NTx R17 b17 k17 m17;have MN:Mk K c_Net f23:=⟨mk_Net,a23_0,i23,kc_Net⟩
 have R28:=Hm (P:=l.prog) (w:=w) (K:=K) (mg:=mg) (base:=base) (CX:=CX0) F28 T;have R29:=Lq (P:=l.prog) (w:=w) (K:=K) (mg:=mg) (base:=base) (CX:=CX0) F29 n_list n_range NTx T GJ bJ mJ R24 b24 ⟨a24_0,i24,k24⟩ R27 b27 ⟨a27_0,i27,k27⟩ R28 b28 k28 m28;have R30:=Nf (P:=l.prog) (w:=w) (K:=K) (mg:=mg) (base:=base) (CX:=CX0) F30 n_enumerate R29 b29 k29 m29;have R31:=Lh (P:=l.prog) (w:=w) (K:=K) (mg:=mg) (base:=base) (CX:=CX0) F31 T;have R32:=Vx (P:=l.prog) (w:=w) (K:=K) (mg:=mg) (base:=base) (CX:=CX0) F32 n_len R31 b31 k31 m31;have R33:=Lu (P:=l.prog) (w:=w) (K:=K) (mg:=mg) (base:=base) (CX:=CX0) F33 NTx T n_enumerate fJ mv_JOINING_WORDS GW bW mW R27 b27 ⟨a27_0,i27,k27⟩ R32 b32 k32 m32;have R34:=Ll (P:=l.prog) (w:=w) (K:=K) (mg:=mg) (base:=base) (CX:=CX0) F34  R6 b6 k6 m6;have R35:=Li (P:=l.prog) (w:=w) (K:=K) (mg:=mg) (base:=base) (CX:=CX0) F35 T fN mv_NOUGHT R34 b34 k34 m34 R5 b5 k5 m5;have R36:=Jz (P:=l.prog) (w:=w) (K:=K) (mg:=mg) (base:=base) (CX:=CX0) F36 T fN mv_NOUGHT fO mv_ONE R7 b7 k7 m7 R35 b35 k35 m35 R5 b5 k5 m5;have R37:=Id (P:=l.prog) (w:=w) (K:=K) (mg:=mg) (base:=base) (CX:=CX0) F37 T fN mv_NOUGHT R34 b34 k34 m34 R5 b5 k5 m5;have R38:=Kb (P:=l.prog) (w:=w) (K:=K) (mg:=mg) (base:=base) (CX:=CX0) F38 T fN mv_NOUGHT fO mv_ONE R35 b35 k35 m35 R34 b34 k34 m34 R5 b5 k5 m5;have R39:=Vu (P:=l.prog) (w:=w) (K:=K) (mg:=mg) (base:=base) (CX:=CX0) F39 NTx T n_len n_range fN mv_NOUGHT GW bW mW R27 b27 ⟨a27_0,i27,k27⟩ R24 b24 ⟨a24_0,i24,k24⟩ R36 b36 k36 m36 R37 b37 k37 m37 R38 b38 k38 m38;have R40:=Yf (P:=l.prog) (w:=w) (K:=K) (mg:=mg) (base:=base) (CX:=CX0) F40  R2 b2 k2 m2;have R41:=Xs (P:=l.prog) (w:=w) (K:=K) (mg:=mg) (base:=base) (CX:=CX0) F41 n_len n_range;have R42:=Wn (P:=l.prog) (w:=w) (K:=K) (mg:=mg) (base:=base) (CX:=CX0) F42 n_zip;have R43:=Ek (P:=l.prog) (w:=w) (K:=K) (mg:=mg) (base:=base) (CX:=CX0) F43 n_enumerate R42 b42 k42 m42;have R44:=Rp (P:=l.prog) (w:=w) (K:=K) (mg:=mg) (base:=base) (CX:=CX0) F44 n_range n_list R41 b41 k41 m41 R43 b43 k43 m43;have R45:=Jk (P:=l.prog) (w:=w) (K:=K) (mg:=mg) (base:=base) (CX:=CX0) F45 n_len n_zip R40 b40 k40 m40 R44 b44 k44 m44 R4 b4 k4 m4;have R46:=Xf (P:=l.prog) (w:=w) (K:=K) (mg:=mg) (base:=base) (CX:=CX0) F46 n_len R33 b33 k33 m33 R30 b30 k30 m30;have R47:=Xx (P:=l.prog) (w:=w) (K:=K) (mg:=mg) (base:=base) (CX:=CX0) F47 NTx fN mv_NOUGHT R24 b24 ⟨a24_0,i24,k24⟩ R45 b45 k45 m45;have R48:=Vz (P:=l.prog) (w:=w) (K:=K) (mg:=mg) (base:=base) (CX:=CX0) F48 T n_len fN mv_NOUGHT fO mv_ONE R9 b9 MK R39 b39 k39 m39 R37 b37 k37 m37 R47 b47 k47 m47;have R49:=Xp (P:=l.prog) (w:=w) (K:=K) (mg:=mg) (base:=base) (CX:=CX0) F49 NTx R24 b24 ⟨a24_0,i24,k24⟩ (Lr R21) b21 k21 m21 R46 b46 k46 m46 R48 b48 k48 m48 R5 b5 k5 m5;have R50:=Ro (P:=l.prog) (w:=w) (K:=K) (mg:=mg) (base:=base) (CX:=CX0) F50  R3 b3 k3 m3;have R51:=Qo (P:=l.prog) (w:=w) (K:=K) (mg:=mg) (base:=base) (CX:=CX0) F51 T fN mv_NOUGHT GW bW mW;have R52:=Lz (P:=l.prog) (w:=w) (K:=K) (mg:=mg) (base:=base) (CX:=CX0) F52 n_enumerate n_len NTx T fN mv_NOUGHT GJ bJ mJ R27 b27 ⟨a27_0,i27,k27⟩ (Jq R50) b50 k50 m50 R31 b31 k31 m31 R6 b6 k6 m6 R51 b51 k51 m51 R3 b3 k3 m3;have R53:=Rq (P:=l.prog) (w:=w) (K:=K) (mg:=mg) (base:=base) (CX:=CX0) F53 NTx n_range R24 b24 ⟨a24_0,i24,k24⟩ R21 b21 k21 m21 R52 b52 k52 m52;have R54:=Qf (P:=l.prog) (w:=w) (K:=K) (mg:=mg) (base:=base) (CX:=CX0) F54;have R55:=Wo (P:=l.prog) (w:=w) (K:=K) (mg:=mg) (base:=base) (CX:=CX0) F55 n_range;have R56:=Xj (P:=l.prog) (w:=w) (K:=K) (mg:=mg) (base:=base) (CX:=CX0) F56 n_range;have R57:=Js (P:=l.prog) (w:=w) (K:=K) (mg:=mg) (base:=base) (CX:=CX0) F57 bl;have R58:=Nn (P:=l.prog) (w:=w) (K:=K) (mg:=mg) (base:=base) (CX:=CX0) F58  R57 b57 k57 m57;have R59:=Ib (P:=l.prog) (w:=w) (K:=K) (mg:=mg) (base:=base) (CX:=CX0) F59  R57 b57 k57 m57;have R60:=Xm (P:=l.prog) (w:=w) (K:=K) (mg:=mg) (base:=base) (CX:=CX0) F60  R57 b57 k57 m57;have R61:=Sg (P:=l.prog) (w:=w) (K:=K) (mg:=mg) (base:=base) (CX:=CX0) F61 bl n_len n_tuple;have R62:=Te (P:=l.prog) (w:=w) (K:=K) (mg:=mg) (base:=base) (CX:=CX0) F62  R55 b55 k55 m55 R57 b57 k57 m57;have R63:=Ms (P:=l.prog) (w:=w) (K:=K) (mg:=mg) (base:=base) (CX:=CX0) F63 NTx R25 b25 ⟨a25_0,i25,k25⟩ R23 b23 MN R17 b17 k17 m17;have R64:=Wq (P:=l.prog) (w:=w) (K:=K) (mg:=mg) (base:=base) (CX:=CX0) F64 n_len R55 b55 k55 m55 R57 b57 k57 m57 R62 b62 k62 m62;have R65:=Rl (P:=l.prog) (w:=w) (K:=K) (mg:=mg) (base:=base) (CX:=CX0) F65 n_range n_len R54 b54 k54 m54 R55 b55 k55 m55 R64 b64 k64 m64;have R66:=Tu (P:=l.prog) (w:=w) (K:=K) (mg:=mg) (base:=base) (CX:=CX0) F66;have R67:=Sq (P:=l.prog) (w:=w) (K:=K) (mg:=mg) (base:=base) (CX:=CX0) F67  R63 b63 k63 m63 R60 b60 k60 m60 R59 b59 k59 m59 R58 b58 k58 m58 R61 b61 k61 m61 R49 b49 k49 m49;have R68:=Qi (P:=l.prog) (w:=w) (K:=K) (mg:=mg) (base:=base) (CX:=CX0) F68 NTx n_len n_range R26 b26 ⟨a26_0,i26,k26⟩ R55 b55 k55 m55 R59 b59 k59 m59 R49 b49 k49 m49 R61 b61 k61 m61 R66 b66 k66 m66;exact Xt (P:=l.prog) (w:=w) (K:=K) (mg:=mg) (base:=base) (CX:=CX0) F69  R54 b54 k54 m54 R65 b65 k65 m65 R63 b63 k63 m63 R55 b55 k55 m55 R62 b62 k62 m62 R56 b56 k56 m56 R49 b49 k49 m49 R53 b53 k53 m53 R61 b61 k61 m61 R66 b66 k66 m66 R58 b58 k58 m58 R67 b67 k67 m67 R68 b68 k68 m68
theorem qe9 {l:PySem.W.OpenLaw}{q:Program}{loose:List Str}{XP:(Str->Option Value)->Heap->Prop}{YP:World->Heap->Prop}{d:DefRec}{K:Params->Frag}(hn:l.most=some 63)(hdf:d.params.defaults=[])(hY:∀(w:World) (h:Heap),YP w h->(K w.params).In h)(F:∀(w:World) (mg:Str->Option Value) (fa:Addr) (h:Heap),(K w.params).In h->h.Ns mainGlobals mg->mg d.name=some (.ref fa)->
   ∃fd:FuncData,(∀(s:Shared) (u:Value),BindsTo s fd ⟨[u],[]⟩ [("_law_script",u)])/\∀base:Heap,(K w.params).In base->base.Ns mainGlobals mg->aM l.prog w (K w.params) mg base CX0 11 fa fd ["_law_script"] (Ff (K w.params))) :
  PySem.W.WalkO q loose XP YP l.row.toRowW d [] (fun f vs=>PySem.call f vs):=
 L2.Tb (n:=63) (k:=11) (x:="_law_script") (CX:=fun _=>CX0) (sp:=fun w=>Ff (K w.params)) hn (by decide) hdf ⟨rfl,by decide,by decide⟩ hY F (fun _ _ a ns hl _ hS=>⟨a,ns,rfl,hS,hl,fun _=>rfl⟩) fun _ _ _ _ _ z=>z
end K67
namespace PySem.W.Fast
def Q:=Nat
def tw16556804936555351750:=Q
def tw8005654685305558961:=Q
def tw15304391114068775504:=Q
def tw9793186491103314496:=Q
def tw17761139576561717757:=Q
def tw8012615546667873331:=Q
def tw6228188918774250647:=Q
def tw10623485609232101428:=Q
def tw2667465265848351622:=Q
def tw406530199963380209:=Q
def tw13288215099061908293:=Q
def tw18414181617711140196:=Q
def tw9572594695734611280:=Q
def tw16615568922639384383:=Q
def tw3490334779501886742:=Q
def tw7116011216181594275:=Q
def tw9078978012880824608:=Q
def tw1099549263240473897:=Q
def tw12951945114320501988:=Q
def tw1554511293275203496:=Q
def tw17333355156963794520:=Q
def tw9680289825622076728:=Q
def tw1350599397294676502:=Q
def tw4881074015807796372:=Q
def tw114508662495497734:=Q
def tw9438080060856072406:=Q
def tw10935173734170974446:=Q
def tw5846728588014429423:=Q
def tw8668642928825613295:=Q
def tw4756973536581851568:=Q
def tw3549876598154213850:=Q
def tw1609174538112334480:=Q
def tw5756655212210622988:=Q
def tw1705803505589647151:=Q
def tw8715149404868400530:=Q
def tw425768920970571893:=Q
def tw7571493862099319321:=Q
def tw3606091629789915642:=Q
def tw16579559664002552442:=Q
def tw9936172036108657184:=Q
def tw2913025942559319803:=Q
def tw16668959424909922921:=Q
def tw6440026192617219994:=Q
def tw7947644258225646834:=Q
def tw16456187935897675688:=Q
def tw3916508224892335188:=Q
def tw7423732791327874584:=Q
def tw2180859807899723300:=Q
def tw10489069366380191245:=Q
def tw15581040666378306102:=Q
def tw13909208186470616899:=Q
def tw11973358133168988551:=Q
def tw12568231733282876414:=Q
def tw11226658308861272945:=Q
def tw13885720167848410544:=Q
def tw16228172016856589732:=Q
def tw10995239984894335826:=Q
def tw16314370669289252483:=Q
def tw13469608254905096107:=Q
def tw10484181862588593464:=Q
def tw3174475479506359378:=Q
def tw855406100020114757:=Q
def tw9674176583736379133:=Q
def tw1510735042581484679:=Q
def tw8265146147791027660:=Q
def tw14774802343676717534:=Q
def tw2687791978542146885:=Q
def tw15253046696013289477:=Q
def tw5285716945261390314:=Q
def tw1123893192230386965:=Q
def tw2701513318481907580:=Q
def tw11257831650412371523:=Q
def tw6417738031015670083:=Q
def tw5909169117143123185:=Q
def tw8282601628932751000:=Q
def tw10538963608386959331:=Q
def tw17092072376683272209:=Q
def tw13784948934484132276:=Q
def tw17667006415375546857:=Q
def tw2548442680766807280:=Q
def tw5826283751460485445:=Q
def tw17826007393897982134:=Q
def tw9359380311119877911:=Q
def tw3774204527836769058:=Q
def tw10947241868872312491:=Q
def tw8713608478534494003:=Q
def tw12199975646493291866:=Q
def tw14612780819017897209:=Q
def tw17745610272362841055:=Q
def tw4161377866534949024:=Q
def tw7911534700943431698:=Q
def tw1984417665345795879:=Q
def tw923718695590518052:=Q
def tw3647002275541524704:=Q
def tw15658529342281328864:=Q
def tw3780105730885400895:=Q
def tw16334115247637269668:=Q
def tw17221144120763866202:=Q
def tw13849449029695881548:=Q
def tw8542526968352080552:=Q
def tw17975105653661848016:=Q
def tw16260812191161713893:=Q
def tw17000061410580405352:=Q
def tw15719288276355569513:=Q
def tw13056438311418560103:=Q
def tw11288265231011538264:=Q
def tw15715642586696488500:=Q
def tw2488275168857714677:=Q
def tw7535645107091256769:=Q
def tw2734862599225828775:=Q
def tw3005696050503119385:=Q
def tw17732401458671320867:=Q
def tw11043248761986863918:=Q
def tw15768533802169229409:=Q
def tw17967576422317658220:=Q
def tw9049462079312231324:=Q
def tw6412858330757004264:=Q
def tw7563739570589077831:=Q
def tw11889133940846564484:=Q
def tw5089047987951546234:=Q
def tw3413915701628338653:=Q
def tw4469142494542490475:=Q
def tw15979317975635884593:=Q
def tw16409604008322543946:=Q
def tw9560681388042763804:=Q
def tw14444264238618210695:=Q
def tw6889048443949201827:=Q
def tw10137128388608481492:=Q
def tw7462630622879330963:=Q
def tw12596943551093153404:=Q
def tw5490790013359179230:=Q
def tw9590019307948445008:=Q
def tw12351000171726666944:=Q
def tw9166668539886392061:=Q
def tw3852023426822278858:=Q
def tw13758778169910229394:=Q
def tw18271402022415560960:=Q
def tw644898666327978034:=Q
def tw15694645832797553836:=Q
def tw2601967989730124270:=Q
def tw16283628606266228810:=Q
def tw14452713878665008412:=Q
def tw10090864926586934517:=Q
def tw17430253894120697903:=Q
def tw4948134864349424543:=Q
def tw904216571117126162:=Q
def tw5210349770092806313:=Q
def tw2190007704934197470:=Q
def tw16634885546075673997:=Q
def tw16463828619839985782:=Q
def tw17753747081677785224:=Q
def tw10141515854469886363:=Q
def tw12198247415337585946:=Q
def tw10305841000047023961:=Q
def tw3525865376654264583:=Q
def tw8794476364745185950:=Q
def tw773843495443446310:=Q
def tw7468392207278725388:=Q
def tw10178712884755048269:=Q
def tw16781730922000391226:=Q
def tw13599440959759923699:=Q
def tw15509933464837152476:=Q
def tw16516041275189845637:=Q
def tw2686702310862322156:=Q
def tw6363311455131275621:=Q
def tw12819078225913943857:=Q
def tw10608808300220334308:=Q
def tw7243308058926004434:=Q
def tw17684981787108375310:=Q
def tw8647464939212622394:=Q
def tw1604657511220685257:=Q
def tw8021978652722070189:=Q
def tw5167957770104229731:=Q
def tw2849621586142320372:=Q
def tw4682205381128299343:=Q
def tw2224306359735705712:=Q
def tw16867024858951894913:=Q
def tw14642341469037361161:=Q
def tw13476302112782260263:=Q
def tw14479603829943450469:=Q
def tw1428730543922428044:=Q
def tw6806064263203225477:=Q
def tw10798985991034740456:=Q
def tw9818175338676766929:=Q
def tw11984814923830185027:=Q
def tw14477922449671333890:=Q
def tw270630133343822042:=Q
def tw8756952182811952291:=Q
def tw13463787031321606525:=Q
def tw1018347485923614147:=Q
def tw13233228323305658861:=Q
def tw1488321065165952200:=Q
def tw13272202617407019956:=Q
def tw18198632747059892493:=Q
def tw12275067918708941766:=Q
def tw15967548794639794138:=Q
def tw1727842225423045763:=Q
def tw12710814236084200463:=Q
def tw5601734059917916396:=Q
def tw5790056909827542972:=Q
def tw3703152064826839864:=Q
def tw11679853701448999118:=Q
def tw8908911926106926302:=Q
def tw8479465235420309906:=Q
def tw7359274874911274501:=Q
def tw3440197363651854663:=Q
def tw10053700191110856976:=Q
def tw15190303886594725054:=Q
def tw6209861186776112286:=Q
def tw9736146409124257416:=Q
def tw6995081363519886084:=Q
def tw17855948664427768603:=Q
def tw5043320656880383811:=Q
def tw221527187794453952:=Q
def tw4462632895389162670:=Q
def tw15316261771926632735:=Q
def tw11973902717320727732:=Q
def tw12160275544732507269:=Q
def tw5371616428946277300:=Q
def tw3214295903628151120:=Q
def tw5989519837692697129:=Q
def tw6166294882651829138:=Q
def tw14613083577892317232:=Q
def tw375806406333692009:=Q
def tw4855844044001025114:=Q
def tw3784954446125120577:=Q
def tw7418830358048441899:=Q
def tw18019171900928842562:=Q
def tw15038587705625655002:=Q
def tw14111463258230490502:=Q
def tw15441980561280097114:=Q
def tw13561507906857548183:=Q
def tw7987409984469227691:=Q
def tw7165381312836215093:=Q
def tw16194467286871937216:=Q
def tw8952458519988389820:=Q
def tw2312207359581187199:=Q
def tw10707003792308083890:=Q
def tw17964748445356076424:=Q
def tw5194380240432153705:=Q
def tw7216890027355718517:=Q
def tw6895633458686092580:=Q
def tw9981573775416440029:=Q
def tw11291799871186010176:=Q
def tw16527423320191080594:=Q
def tw15204145866475498909:=Q
def tw6677983571385998854:=Q
def tw16782121528431133039:=Q
def tw13274508175355647963:=Q
def tw17485224533811952828:=Q
def tw8668663646699108940:=Q
def tw7607093972289516725:=Q
def tw14784237840912311140:=Q
def tw1655238810473266741:=Q
def tw16731259137626960926:=Q
def tw13796283671269902645:=Q
def tw13825188229002122422:=Q
def tw12430373286725505017:=Q
def tw14796479666425449677:=Q
def tw2791061615113522623:=Q
def tw13633049203482716866:=Q
def tw8670683678833644603:=Q
def tw16480244870338442005:=Q
def tw3781509943022753869:=Q
def tw17356831158335734769:=Q
def tw1157784503920569232:=Q
def tw12869418855939253105:=Q
def tw15366727604732907210:=Q
def tw1859684822900163218:=Q
def tw9331123432592736911:=Q
def tw15552227783638948588:=Q
def tw17793543266241991626:=Q
def tw13296898833096662960:=Q
def tw11964197906331728290:=Q
def tw12249292024460009181:=Q
def tw3170215601242095788:=Q
def tw8253717371082338714:=Q
def tw9146209527345307783:=Q
def tw15836490212461781211:=Q
def tw105201883518417384:=Q
def tw671243848114366754:=Q
def tw11852621739736658021:=Q
def tw6730553116610727017:=Q
def tw4377399309571542168:=Q
def tw310706285808452006:=Q
def tw3408645569858075744:=Q
def tw16923395216457538995:=Q
def tw3478749659248465481:=Q
def tw15645828626830454849:=Q
def tw17003780484828997425:=Q
def tw4433482119301298620:=Q
def tw4662624252250105307:=Q
def tw4136996276272248624:=Q
def tw5371322237153871271:=Q
def tw7889903859465803377:=Q
def tw8368312373951084788:=Q
def tw4683676706149191089:=Q
def tw13476051355645379734:=Q
def tw11905545574043798280:=Q
def tw10961244199488310378:=Q
def tw9227576700636857092:=Q
def tw7833585840773498727:=Q
def tw11908586315840611020:=Q
def tw3154482467394182829:=Q
def tw2935822250486044345:=Q
def tw16162518158587053035:=Q
def tw14393871187779377412:=Q
def tw1400613858384543618:=Q
def tw10623017120350304887:=Q
def tw7374258036720813565:=Q
def tw1713471663410848076:=Q
def tw8765349201690298136:=Q
def tw1367520320075388875:=Q
def tw1602970238764380702:=Q
def tw16087652994033953983:=Q
def tw15963570506039644328:=Q
def tw16929709592358570649:=Q
def tw469162770063015440:=Q
def tw11697498370956449086:=Q
def tw11689103036957262982:=Q
def tw7652058348364270563:=Q
def tw10894973001443959943:=Q
def tw2573657576719985467:=Q
def tw3088143577773049332:=Q
def tw16806270583692565666:=Q
def tw17191094214988671498:=Q
def tw3764712204107225240:=Q
def tw15769471204954853593:=Q
def tw9528711670396295110:=Q
def tw12162864582617243517:=Q
def tw13375044963723130607:=Q
def tw17393770904601522999:=Q
def tw11240801200924687891:=Q
def tw1192188670453296735:=Q
def tw3780230064620860623:=Q
def tw10897893041421183697:=Q
def tw7132660562300297576:=Q
def tw10056164080399000363:=Q
def tw7037517119404529374:=Q
def tw18155721911363520458:=Q
def tw9720692887295534552:=Q
def tw7881656065765590026:=Q
def tw14215266394029875286:=Q
def tw15907377730995322201:=Q
def tw1352110939817734986:=Q
def tw435237782690848214:=Q
def tw10956891798756515369:=Q
def tw164754615773589345:=Q
def tw5934354836716041619:=Q
def tw7161575699256266801:=Q
def tw15146662910839963716:=Q
def tw4232453299857493432:=Q
def tw1571274786183041689:=Q
def tw12775106258378880210:=Q
def tw5138679223030413883:=Q
def tw5390045818977861123:=Q
def tw11952482200442787296:=Q
def tw18446672282914942018:=Q
def tw4771466459098277514:=Q
def tw14935483880020099173:=Q
def tw6389226854294907626:=Q
def tw5637935040686255209:=Q
def tw16378823859465674168:=Q
def tw1868145837737249601:=Q
def tw13061463765692109959:=Q
def tw6116448614302097135:=Q
def tw3015671494260480091:=Q
def tw15422922287658449441:=Q
def tw10435958510963414238:=Q
def tw7965017116442893591:=Q
def tw8636970372461933311:=Q
def tw12051496722768362313:=Q
def tw14942621622194666638:=Q
def tw14416218185846003348:=Q
def tw3551086717160287530:=Q
def tw7308395973934991126:=Q
def tw2892523932635565777:=Q
def tw14213825983614351296:=Q
def tw2403680684974298209:=Q
def tw15311619428657332076:=Q
def tw16767910563398089127:=Q
def tw15541136994200326380:=Q
def tw4560545406631166475:=Q
def tw17305243481781351393:=Q
def tw9992654603698283850:=Q
def tw18067461589006216356:=Q
def tw13079968625868114248:=Q
def tw16729325790333159522:=Q
def tw3617680891982590938:=Q
def tw17836938865512532696:=Q
def tw5699955908791760299:=Q
def tw1333865809843353237:=Q
def tw11203671516715986980:=Q
def tw10610213868431070388:=Q
def tw4619877778153604795:=Q
def tw13678873943265429498:=Q
def tw5445665265529258512:=Q
def tw7099148717837838660:=Q
def tw3389417705648335181:=Q
def tw10340007765492177396:=Q
def tw15674538153430607550:=Q
def tw7883945168990936391:=Q
def tw5872427888791052741:=Q
def tw14209127098394694394:=Q
def tw2764157341414785634:=Q
def tw9801473236930274431:=Q
def tw10579117632223089762:=Q
def tw15639179733871633108:=Q
def tw5994687334700459681:=Q
def tw14196556090038461711:=Q
def tw14819493584693212707:=Q
def tw5323707977912356844:=Q
def tw3467305002054704146:=Q
def tw16805139502036645829:=Q
def tw707402794969357245:=Q
def tw15652633498756465028:=Q
def tw6485328280050242378:=Q
def tw12937503221083021723:=Q
def tw5590898222004925535:=Q
def tw12257204128955429538:=Q
def tw16395475863361900142:=Q
def tw16238844824913639469:=Q
def tw9957263770630975823:=Q
def tw2275484458348381497:=Q
def tw13172282092468335700:=Q
def tw8926015637590308102:=Q
def tw17274938054296818525:=Q
def tw1668562630584762065:=Q
def tw2571473512387993338:=Q
def tw12378454841728457095:=Q
def tw3933495566478839933:=Q
def tw11630916411406531192:=Q
def tw8123419204924053654:=Q
def tw9026206051138118755:=Q
def tw5645215506238543022:=Q
def tw12268618055973565054:=Q
def tw8209341744325307401:=Q
def tw11952801191658750756:=Q
def tw13705100752391474311:=Q
def tw11816193075144224892:=Q
def tw1138567612495985183:=Q
def tw8542480227448805757:=Q
def tw1423033150890722307:=Q
def tw8210074336907729772:=Q
def tw5544122992258274002:=Q
def tw12138604232109162026:=Q
def tw7529757422771150120:=Q
def tw14653876600933535483:=Q
def tw1902276666432823643:=Q
def tw9726351569345896096:=Q
def tw5115302054869961208:=Q
def tw1190275624711879548:=Q
def tw4925024935945127662:=Q
def tw662705951510984064:=Q
def tw9945921186153911391:=Q
def tw1439588732355869713:=Q
def tw16188965549584629762:=Q
def tw14557098223625902477:=Q
def tw5936872215739375666:=Q
def tw16154254841061093505:=Q
def tw13279891927159232774:=Q
def tw13460094872944617934:=Q
def tw13924488293460300540:=Q
def tw7781857865729577494:=Q
def tw2112196011009567487:=Q
def tw9726881136042248735:=Q
def tw7440557326113855330:=Q
def tw11389174556463706676:=Q
def tw5839423293055668746:=Q
def tw9182462161878705381:=Q
def tw13122068220884179936:=Q
def tw3211394394076672792:=Q
def tw16370232463020965468:=Q
def tw2446928008657161162:=Q
def tw6168503801182196433:=Q
def tw5183206372247121962:=Q
def tw9013511662790777757:=Q
def tw2259736681923293069:=Q
def tw1631864065602100443:=Q
def tw3932167320152771401:=Q
def tw11559821366768848092:=Q
def tw6425756720217323123:=Q
def tw12039313502436446850:=Q
def tw17338636005120972271:=Q
def tw4860637718740588253:=Q
def tw11342882878706361610:=Q
def tw12520358810595945720:=Q
def tw13925642744529187430:=Q
def tw5862639985359824876:=Q
def tw4125511243947598002:=Q
def tw15336912818692203881:=Q
def tw5375210797039492030:=Q
def tw9570578572432809763:=Q
def tw6508895123599941143:=Q
def tw1594044768489203155:=Q
def tw10587261516699197606:=Q
def tw12152585563882957449:=Q
def tw12995335086538401418:=Q
def tw3771936998026566222:=Q
def tw4932251844182660132:=Q
def tw13847077047708751978:=Q
def tw8027863260491889336:=Q
def tw13673899310474332098:=Q
def tw16587627524244392668:=Q
def tw14880374109559722634:=Q
def tw15381876647526310129:=Q
def tw8878334907532552905:=Q
def tw14716668876832712421:=Q
def tw1637760325131124459:=Q
def tw3592875376288869983:=Q
def tw2530154918040571617:=Q
def tw8206668675943678886:=Q
def tw7101314577561144529:=Q
def tw8153016933490650813:=Q
def tw3963448944345024747:=Q
def tw4498728415074631196:=Q
def tw5227675612308527780:=Q
def tw13523412981432686113:=Q
def tw13865266587169924377:=Q
def tw12871825409329597579:=Q
def tw14753001777540949218:=Q
def tw497910380704015246:=Q
def tw15000978987665122643:=Q
def tw3363006909911536407:=Q
def tw5385599409694518833:=Q
def tw1114762866236689405:=Q
def tw14179323976845438084:=Q
def tw13981645264181923048:=Q
def tw12330764006151015361:=Q
def tw12545989443924032700:=Q
def tw898014434043452155:=Q
def tw17515880208866611811:=Q
def tw11805195205662747384:=Q
def tw6708174766607909470:=Q
def tw16688170796100586480:=Q
def tw17729708429941611756:=Q
def tw18163136495408954354:=Q
def tw18433147401063075420:=Q
def tw9273998978426754108:=Q
def tw793098747392754969:=Q
def tw2646466262971294196:=Q
def tw17477207784550484125:=Q
def tw3933813447292823402:=Q
def tw7673540410893189607:=Q
def tw7049143961880696498:=Q
def tw15007183151266886756:=Q
def tw14479459590657209106:=Q
def tw2154160929614855027:=Q
def tw18184107335047724560:=Q
def tw17169417686697961688:=Q
def tw3163747581833528696:=Q
def tw313946605497952463:=Q
def tw17964454865549172397:=Q
def tw2328808418713800112:=Q
def tw2403011777894100891:=Q
def tw7670700304181450596:=Q
def tw5340706848509215680:=Q
def tw9771183715107210169:=Q
def tw4673654186501542254:=Q
def tw10990308430601612012:=Q
def tw16542376417804045686:=Q
def tw8595131611995991617:=Q
def tw2166404815160998523:=Q
def tw12741328876799341778:=Q
def tw4801256796497797207:=Q
def tw206046670652510021:=Q
def tw6028797476947283897:=Q
def tw7473300540088054966:=Q
def tw14210983940529412227:=Q
def tw3359183034563745984:=Q
end PySem.W.Fast
open PySem PySem.W PyProof.Rows
set_option maxRecDepth 100000 in
set_option maxHeartbeats 0 in
theorem PySem.Challenge.cw_ohmyard_k67_one_piece_more_holds : PySem.Challenge.rw_ohmyard_k67_one_piece_more.Holds := by
  w_on; o_law; z_head; (case hw => w_witness2)
  k_fill
  refine L2.Px (fun _ => by kernel_rfl) (K67.qe9 (l := PySem.Challenge.rw_ohmyard_k67_one_piece_more) rfl rfl (fun w h Y => Y) ?F)
  case F =>
    intro w mg fa h KX G hmg
    refine' K67.Ve KX G hmg ?y_Row ?y_Piece ?y_Push ?y_Hold ?y_Net ?a1 ?l1 ?c1 ?k1 ?a2 ?l2 ?c2 ?k2 ?a3 ?l3 ?c3 ?k3 ?a4 ?l4 ?c4 ?k4 ?lt4 ?a5 ?l5 ?c5 ?k5 ?a6 ?l6 ?c6 ?k6 ?a7 ?l7 ?c7 ?k7 ?a8 ?l8 ?c8 ?k8 ?a9_0 ?a9_1 ?a9_2 ?i9 ?l9 ?c9 ?k9 ?a10_0 ?i10 ?l10 ?c10 ?k10 ?a11_0 ?i11 ?l11 ?c11 ?k11 ?a12_0 ?i12 ?l12 ?c12 ?k12 ?a13_0 ?i13 ?l13 ?c13 ?k13 ?a14_0 ?i14 ?l14 ?c14 ?k14 ?a15_0 ?i15 ?l15 ?c15 ?k15 ?a16_0 ?a16_1 ?a16_2 ?i16 ?l16 ?c16 ?k16 ?a17 ?l17 ?c17 ?k17 ?a18 ?l18 ?c18 ?k18 ?a19 ?l19 ?c19 ?k19 ?a20 ?l20 ?c20 ?k20 ?a21 ?l21 ?c21 ?k21 ?a22 ?l22 ?c22 ?k22 ?a23_0 ?i23 ?l23 ?c23 ?k23 ?a24_0 ?i24 ?l24 ?c24 ?k24 ?a25_0 ?i25 ?l25 ?c25 ?k25 ?a26_0 ?i26 ?l26 ?c26 ?k26 ?a27_0 ?i27 ?l27 ?c27 ?k27 ?a28 ?l28 ?c28 ?k28 ?a29 ?l29 ?c29 ?k29 ?a30 ?l30 ?c30 ?k30 ?a31 ?l31 ?c31 ?k31 ?a32 ?l32 ?c32 ?k32 ?a33 ?l33 ?c33 ?k33 ?lt33 ?a34 ?l34 ?c34 ?k34 ?a35 ?l35 ?c35 ?k35 ?a36 ?l36 ?c36 ?k36 ?a37 ?l37 ?c37 ?k37 ?a38 ?l38 ?c38 ?k38 ?a39 ?l39 ?c39 ?k39 ?a40 ?l40 ?c40 ?k40 ?a41 ?l41 ?c41 ?k41 ?a42 ?l42 ?c42 ?k42 ?a43 ?l43 ?c43 ?k43 ?a44 ?l44 ?c44 ?k44 ?a45 ?l45 ?c45 ?k45 ?a46 ?l46 ?c46 ?k46 ?a47 ?l47 ?c47 ?k47 ?a48 ?l48 ?c48 ?k48 ?a49 ?l49 ?c49 ?k49 ?a50 ?l50 ?c50 ?k50 ?a51 ?l51 ?c51 ?k51 ?a52 ?l52 ?c52 ?k52 ?a53 ?l53 ?c53 ?k53 ?a54 ?l54 ?c54 ?k54 ?a55 ?l55 ?c55 ?k55 ?a56 ?l56 ?c56 ?k56 ?a57 ?l57 ?c57 ?k57 ?a58 ?l58 ?c58 ?k58 ?a59 ?l59 ?c59 ?k59 ?a60 ?l60 ?c60 ?k60 ?a61 ?l61 ?c61 ?k61 ?a62 ?l62 ?c62 ?k62 ?a63 ?l63 ?c63 ?k63 ?a64 ?l64 ?c64 ?k64 ?a65 ?l65 ?c65 ?k65 ?a66 ?l66 ?c66 ?k66 ?a67 ?l67 ?c67 ?k67 ?a68 ?l68 ?c68 ?k68 ?a69 ?l69 ?c69 ?k69 ?v_ONE ?v_NOUGHT ?v_JOINING_WORDS ?v_MOST_POINTS ?v_MOST_ROWS ?lO ?lN ?lJ ?pg_Piece ?hd_Piece ?po_Piece ?sa_Piece ?mk_Piece ?kc_Piece ?t1_Piece ?t4_Piece ?na_Piece_start ?na_Piece_goal ?na_Piece_size ?pg_Push ?hd_Push ?po_Push ?sa_Push ?mk_Push ?kc_Push ?t1_Push ?t4_Push ?na_Push_start ?na_Push_goal ?na_Push_size ?pg_Hold ?hd_Hold ?po_Hold ?sa_Hold ?mk_Hold ?kc_Hold ?t1_Hold ?t4_Hold ?na_Hold_start ?na_Hold_goal ?na_Hold_size ?tt2 ?tt3 ?isR_Piece ?isR_Push ?isR_Hold ?isK_Piece_Push ?isK_Piece_Hold ?isK_Push_Piece ?isK_Push_Hold ?isK_Hold_Piece ?isK_Hold_Push ?pg_Net ?hd_Net ?po_Net ?sa_Net ?mk_Net ?kc_Net ?t1_Net ?t4_Net ?na_Net_point_count ?na_Net_kept ?z1 ?z2 ?z3 ?z4 ?z5 ?z6 ?z7 ?z8 ?z9 ?z10 ?z11 ?z12
    (case y_Row=>k_is)
    (case y_Piece=>k_is)
    (case y_Push=>k_is)
    (case y_Hold=>k_is)
    (case y_Net=>k_is)
    (case a1=>k_is);(case l1=>k_is);(case c1=>k_is);(case k1=>show _=_;k_is)
    (case a2=>k_is);(case l2=>k_is);(case c2=>k_is);(case k2=>show _=_;k_is)
    (case a3=>k_is);(case l3=>k_is);(case c3=>k_is);(case k3=>show _=_;k_is)
    (case a4=>k_is);(case l4=>k_is);(case c4=>k_is);(case k4=>show _=_;k_is);(case lt4=>k_is)
    (case a5=>k_is);(case l5=>k_is);(case c5=>k_is);(case k5=>show _=_;k_is)
    (case a6=>k_is);(case l6=>k_is);(case c6=>k_is);(case k6=>show _=_;k_is)
    (case a7=>k_is);(case l7=>k_is);(case c7=>k_is);(case k7=>show _=_;k_is)
    (case a8=>k_is);(case l8=>k_is);(case c8=>k_is);(case k8=>show _=_;k_is)
    (case a9_0=>k_is);(case a9_1=>k_is);(case a9_2=>k_is);(case i9=>k_is);(case l9=>k_is);(case c9=>k_is);(case k9=>show _=_;k_is)
    (case a10_0=>k_is);(case i10=>k_is);(case l10=>k_is);(case c10=>k_is);(case k10=>show _=_;k_is)
    (case a11_0=>k_is);(case i11=>k_is);(case l11=>k_is);(case c11=>k_is);(case k11=>show _=_;k_is)
    (case a12_0=>k_is);(case i12=>k_is);(case l12=>k_is);(case c12=>k_is);(case k12=>show _=_;k_is)
    (case a13_0=>k_is);(case i13=>k_is);(case l13=>k_is);(case c13=>k_is);(case k13=>show _=_;k_is)
    (case a14_0=>k_is);(case i14=>k_is);(case l14=>k_is);(case c14=>k_is);(case k14=>show _=_;k_is)
    (case a15_0=>k_is);(case i15=>k_is);(case l15=>k_is);(case c15=>k_is);(case k15=>show _=_;k_is)
    (case a16_0=>k_is);(case a16_1=>k_is);(case a16_2=>k_is);(case i16=>k_is);(case l16=>k_is);(case c16=>k_is);(case k16=>show _=_;k_is)
    (case a17=>k_is);(case l17=>k_is);(case c17=>k_is);(case k17=>show _=_;k_is)
    (case a18=>k_is);(case l18=>k_is);(case c18=>k_is);(case k18=>show _=_;k_is)
    (case a19=>k_is);(case l19=>k_is);(case c19=>k_is);(case k19=>show _=_;k_is)
    (case a20=>k_is);(case l20=>k_is);(case c20=>k_is);(case k20=>show _=_;k_is)
    (case a21=>k_is);(case l21=>k_is);(case c21=>k_is);(case k21=>show _=_;k_is)
    (case a22=>k_is);(case l22=>k_is);(case c22=>k_is);(case k22=>show _=_;k_is)
    (case a23_0=>k_is);(case i23=>k_is);(case l23=>k_is);(case c23=>k_is);(case k23=>show _=_;k_is)
    (case a24_0=>k_is);(case i24=>k_is);(case l24=>k_is);(case c24=>k_is);(case k24=>show _=_;k_is)
    (case a25_0=>k_is);(case i25=>k_is);(case l25=>k_is);(case c25=>k_is);(case k25=>show _=_;k_is)
    (case a26_0=>k_is);(case i26=>k_is);(case l26=>k_is);(case c26=>k_is);(case k26=>show _=_;k_is)
    (case a27_0=>k_is);(case i27=>k_is);(case l27=>k_is);(case c27=>k_is);(case k27=>show _=_;k_is)
    (case a28=>k_is);(case l28=>k_is);(case c28=>k_is);(case k28=>show _=_;k_is)
    (case a29=>k_is);(case l29=>k_is);(case c29=>k_is);(case k29=>show _=_;k_is)
    (case a30=>k_is);(case l30=>k_is);(case c30=>k_is);(case k30=>show _=_;k_is)
    (case a31=>k_is);(case l31=>k_is);(case c31=>k_is);(case k31=>show _=_;k_is)
    (case a32=>k_is);(case l32=>k_is);(case c32=>k_is);(case k32=>show _=_;k_is)
    (case a33=>k_is);(case l33=>k_is);(case c33=>k_is);(case k33=>show _=_;k_is);(case lt33=>k_is)
    (case a34=>k_is);(case l34=>k_is);(case c34=>k_is);(case k34=>show _=_;k_is)
    (case a35=>k_is);(case l35=>k_is);(case c35=>k_is);(case k35=>show _=_;k_is)
    (case a36=>k_is);(case l36=>k_is);(case c36=>k_is);(case k36=>show _=_;k_is)
    (case a37=>k_is);(case l37=>k_is);(case c37=>k_is);(case k37=>show _=_;k_is)
    (case a38=>k_is);(case l38=>k_is);(case c38=>k_is);(case k38=>show _=_;k_is)
    (case a39=>k_is);(case l39=>k_is);(case c39=>k_is);(case k39=>show _=_;k_is)
    (case a40=>k_is);(case l40=>k_is);(case c40=>k_is);(case k40=>show _=_;k_is)
    (case a41=>k_is);(case l41=>k_is);(case c41=>k_is);(case k41=>show _=_;k_is)
    (case a42=>k_is);(case l42=>k_is);(case c42=>k_is);(case k42=>show _=_;k_is)
    (case a43=>k_is);(case l43=>k_is);(case c43=>k_is);(case k43=>show _=_;k_is)
    (case a44=>k_is);(case l44=>k_is);(case c44=>k_is);(case k44=>show _=_;k_is)
    (case a45=>k_is);(case l45=>k_is);(case c45=>k_is);(case k45=>show _=_;k_is)
    (case a46=>k_is);(case l46=>k_is);(case c46=>k_is);(case k46=>show _=_;k_is)
    (case a47=>k_is);(case l47=>k_is);(case c47=>k_is);(case k47=>show _=_;k_is)
    (case a48=>k_is);(case l48=>k_is);(case c48=>k_is);(case k48=>show _=_;k_is)
    (case a49=>k_is);(case l49=>k_is);(case c49=>k_is);(case k49=>show _=_;k_is)
    (case a50=>k_is);(case l50=>k_is);(case c50=>k_is);(case k50=>show _=_;k_is)
    (case a51=>k_is);(case l51=>k_is);(case c51=>k_is);(case k51=>show _=_;k_is)
    (case a52=>k_is);(case l52=>k_is);(case c52=>k_is);(case k52=>show _=_;k_is)
    (case a53=>k_is);(case l53=>k_is);(case c53=>k_is);(case k53=>show _=_;k_is)
    (case a54=>k_is);(case l54=>k_is);(case c54=>k_is);(case k54=>show _=_;k_is)
    (case a55=>k_is);(case l55=>k_is);(case c55=>k_is);(case k55=>show _=_;k_is)
    (case a56=>k_is);(case l56=>k_is);(case c56=>k_is);(case k56=>show _=_;k_is)
    (case a57=>k_is);(case l57=>k_is);(case c57=>k_is);(case k57=>show _=_;k_is)
    (case a58=>k_is);(case l58=>k_is);(case c58=>k_is);(case k58=>show _=_;k_is)
    (case a59=>k_is);(case l59=>k_is);(case c59=>k_is);(case k59=>show _=_;k_is)
    (case a60=>k_is);(case l60=>k_is);(case c60=>k_is);(case k60=>show _=_;k_is)
    (case a61=>k_is);(case l61=>k_is);(case c61=>k_is);(case k61=>show _=_;k_is)
    (case a62=>k_is);(case l62=>k_is);(case c62=>k_is);(case k62=>show _=_;k_is)
    (case a63=>k_is);(case l63=>k_is);(case c63=>k_is);(case k63=>show _=_;k_is)
    (case a64=>k_is);(case l64=>k_is);(case c64=>k_is);(case k64=>show _=_;k_is)
    (case a65=>k_is);(case l65=>k_is);(case c65=>k_is);(case k65=>show _=_;k_is)
    (case a66=>k_is);(case l66=>k_is);(case c66=>k_is);(case k66=>show _=_;k_is)
    (case a67=>k_is);(case l67=>k_is);(case c67=>k_is);(case k67=>show _=_;k_is)
    (case a68=>k_is);(case l68=>k_is);(case c68=>k_is);(case k68=>show _=_;k_is)
    (case a69=>k_is);(case l69=>k_is);(case c69=>k_is);(case k69=>show _=_;k_is)
    (case v_ONE=>k_is)
    (case v_NOUGHT=>k_is)
    (case v_JOINING_WORDS=>k_is)
    (case v_MOST_POINTS=>k_is)
    (case v_MOST_ROWS=>k_is)
    (case lO=>k_is)
    (case lN=>k_is)
    (case lJ=>k_is)
    (case pg_Piece=>k_is)
    (case hd_Piece=>k_is)
    (case po_Piece=>k_is)
    (case sa_Piece=>k_is)
    (case mk_Piece=>k_is)
    (case kc_Piece=>show _=_;k_is)
    (case t1_Piece=>k_is)
    (case t4_Piece=>k_is)
    (case na_Piece_start=>k_is)
    (case na_Piece_goal=>k_is)
    (case na_Piece_size=>k_is)
    (case pg_Push=>k_is)
    (case hd_Push=>k_is)
    (case po_Push=>k_is)
    (case sa_Push=>k_is)
    (case mk_Push=>k_is)
    (case kc_Push=>show _=_;k_is)
    (case t1_Push=>k_is)
    (case t4_Push=>k_is)
    (case na_Push_start=>k_is)
    (case na_Push_goal=>k_is)
    (case na_Push_size=>k_is)
    (case pg_Hold=>k_is)
    (case hd_Hold=>k_is)
    (case po_Hold=>k_is)
    (case sa_Hold=>k_is)
    (case mk_Hold=>k_is)
    (case kc_Hold=>show _=_;k_is)
    (case t1_Hold=>k_is)
    (case t4_Hold=>k_is)
    (case na_Hold_start=>k_is)
    (case na_Hold_goal=>k_is)
    (case na_Hold_size=>k_is)
    (case tt2=>k_is)
    (case tt3=>k_is)
    (case isR_Piece=>kit_is)
    (case isR_Push=>kit_is)
    (case isR_Hold=>kit_is)
    (case isK_Piece_Push=>kit_is)
    (case isK_Piece_Hold=>kit_is)
    (case isK_Push_Piece=>kit_is)
    (case isK_Push_Hold=>kit_is)
    (case isK_Hold_Piece=>kit_is)
    (case isK_Hold_Push=>kit_is)
    (case pg_Net=>k_is)
    (case hd_Net=>k_is)
    (case po_Net=>k_is)
    (case sa_Net=>k_is)
    (case mk_Net=>k_is)
    (case kc_Net=>show _=_;k_is)
    (case t1_Net=>k_is)
    (case t4_Net=>k_is)
    (case na_Net_point_count=>k_is)
    (case na_Net_kept=>k_is)
    (case z1=>k_is)
    (case z2=>k_is)
    (case z3=>k_is)
    (case z4=>k_is)
    (case z5=>k_is)
    (case z6=>k_is)
    (case z7=>k_is)
    (case z8=>k_is)
    (case z9=>k_is)
    (case z10=>k_is)
    (case z11=>k_is)
    (case z12=>k_is)
