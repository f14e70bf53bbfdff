import PyProof.Rows.All
import Wide.Line
import OpenK.ZGo
import OpenK.KOwn
import KE.RegKIsAll
import KE.RegKTryMore
import Wide.FinOn
import Lean
import PyProof.EqAt
import PyProof.EqKinds
import PyProof.TupleCall
import PyProof.Cells
import PyProof.SumWalkG
import PyProof.EnumStmt
import PyProof.EnumMake
import PyProof.InstStoreFacts
import KE.KDictList
import KE.KItem
import KE.KIntText
import PySem.Challenge.RW_ohmyard_k70_refused_between
set_option Elab.async false
set_option linter.all false
local macro_rules|`(())=>`(by lia)
local macro_rules|`(∅)=>`(by decide +kernel)
local macro_rules|`(⋯)=>`(by simp)
set_option maxRecDepth 100000
open PySem.W (Frag)
set_option maxHeartbeats 4000000
open List
namespace L2
open PySem PySem.Spec PyProof.Rows
abbrev Key:=Sum Int Str
def zK:Key->Value->Bool
 | .inl k,v=>Value.isInt k v
 | .inr x,v=>Value.isStrOf x v
def qt5 (w:World):Key->Int
 | .inl k=>hashInt k
 | .inr x=>hashStr w x
theorem eI:∀{k:Key} {v:Value},zK k v=true->(∃i t,k=Sum.inl i/\v=Value.int i t)\/(∃x t,k=Sum.inr x/\v=Value.str x t)
 | .inl i,v,h=>by
  obtain⟨t,e⟩:=Value.isInt_shape (k:=i) (v:=v) h;exact .inl ⟨i,t,rfl,e⟩
 | .inr x,v,h=>by
  obtain⟨t,e⟩:=Value.isStrOf_shape (x:=x) (v:=v) h;exact .inr ⟨x,t,rfl,e⟩
theorem Ml (i:Int)(t:Tok):zK (.inl i) (.int i t)=true:=by simp[zK,Value.isInt]
theorem Md (x:Str)(t:Tok):zK (.inr x) (.str x t)=true:=by simp[zK,Value.isStrOf]
theorem qi3 (a b:Int):decide ((Sum.inl a:Key)=Sum.inl b)=(a == b):=by
 by_cases e:a=b
 ·subst e;simp
 ·have h:¬(Sum.inl a:Key)=Sum.inl b:=λq=>e (Sum.inl.inj q);rw[decide_eq_false h];exact(beq_eq_false_iff_ne.mpr e).symm
theorem qg3 (a b:Str):decide ((Sum.inr a:Key)=Sum.inr b)=decide (a=b):=by
 by_cases e:a=b
 ·subst e;simp
 ·have h:¬(Sum.inr a:Key)=Sum.inr b:=λq=>e (Sum.inr.inj q);rw[decide_eq_false h,decide_eq_false e]
theorem qg0 (a:Int)(b:Str):decide ((Sum.inl a:Key)=Sum.inr b)=false:=decide_eq_false (λq=>nomatch q)
theorem qg1 (a:Str)(b:Int):decide ((Sum.inr a:Key)=Sum.inl b)=false:=decide_eq_false (λq=>nomatch q)
def eK (prog:Program)(w:World):PySem.KeyKind prog w Key where
 is:=zK
 hash:=qt5 w
 inj:=λv a b ha hb=>by
  rcases eI ha with ⟨i,t,rfl,rfl⟩ | ⟨x,t,rfl,rfl⟩
  ·rcases eI hb with ⟨j,u,rfl,e⟩ | ⟨y,u,rfl,e⟩
   ·injection e with e1 _;rw[e1]
   ·exact nomatch e
  ·rcases eI hb with ⟨j,u,rfl,e⟩ | ⟨y,u,rfl,e⟩
   ·exact nomatch e
   ·injection e with e1 _;rw[e1]
 byValue:=λk v h=>by
  rcases eI h with ⟨i,t,rfl,rfl⟩ | ⟨x,t,rfl,rfl⟩<;>rfl
 pyHash:=λhv h=>by
  rcases eI hv with ⟨i,t,rfl,rfl⟩ | ⟨x,t,rfl,rfl⟩
  ·exact wpAny_pyHash_int h
  ·exact wpAny_pyHash_str h
 eqBool:=λhu hv h=>by
  rcases eI hu with ⟨i,t,rfl,rfl⟩ | ⟨x,t,rfl,rfl⟩
  ·rcases eI hv with ⟨j,u,rfl,rfl⟩ | ⟨y,u,rfl,rfl⟩
   ·rw[qi3] at h;exact wpAny_eqBool_int h
   ·rw[qg0] at h;exact SeqAt.EqAt.int_str i t y u _ _ _ _ h
  ·rcases eI hv with ⟨j,u,rfl,rfl⟩ | ⟨y,u,rfl,rfl⟩
   ·rw[qg1] at h;exact SeqAt.EqAt.str_int x t j u _ _ _ _ h
   ·rw[qg3] at h;exact wpAny_eqBool_str h
 «strs»:=λk x t v h=>by
  rcases eI h with ⟨i,u,rfl,e⟩ | ⟨y,u,rfl,e⟩
  ·exact nomatch e
  ·injection e with e1 _
   subst e1
   cases v<;>rfl
theorem Er (prog:Program)(w:World)(i:Int)(t:Tok):(eK prog w).is (.inl i) (.int i t)=true:=Ml i t
theorem Ea (prog:Program)(w:World)(x:Str)(t:Tok):(eK prog w).is (.inr x) (.str x t)=true:=Md x t
inductive V where
 |non | bl (b:Bool) | int (i:Int) | str (x:Str) | byt (b:Array UInt8) | flt (b:UInt64) | ref (a:Addr) | ty (n:String)
 deriving DecidableEq
def cB:V->Value->Prop
 | .non,u=>u=Value.none
 | .bl b,u=>u=Value.bool b
 | .int i,u=>∃t,u=Value.int i t
 | .str x,u=>∃t,u=Value.str x t
 | .byt b,u=>∃t,u=Value.bytes b t
 | .flt b,u=>∃t,u=Value.float b t
 | .ref a,u=>u=Value.ref a
 | .ty n,u=>u=Value.type n
abbrev cA:List V->List Value->Prop:=Paired cB
theorem cA.length (r:cA xs us):xs.length=us.length:=Paired.length r
theorem cA.get:∀{xs:List V} {us:List Value} {i:Nat} {x:V},cA xs us->xs[i]?=some x->∃u,us[i]?=some u/\cB x u
 |_,_,_,_,.nil,e=>by simp at e
 |_,_,0,_,.cons r _,e=>by simp at e;subst e;exact⟨_,rfl,r⟩
 |_,_,i+1,x,.cons _ t,e=>by
  obtain⟨u,h1,h2⟩:=cA.get (i:=i) (x:=x) t (by simpa using e);exact⟨u,by simpa using h1,h2⟩
theorem cA.set (r:cB x u):∀{xs:List V} {us:List Value} (i:Nat),cA xs us->cA (xs.set i x) (us.set i u)
 |_,_,_,.nil=>.nil
 |_,_,0,.cons _ t=>.cons r t
 |_,_,i+1,.cons q t=>.cons q (cA.set r i t)
theorem cA.append:∀{xs ys:List V} {us ws:List Value},cA xs us->cA ys ws->cA (xs++ys) (us++ws)
 |_,_,_,_,.nil,s=>s
 |_,_,_,_,.cons r t,s=>.cons r (cA.append t s)
theorem cA.take:∀{xs:List V} {us:List Value} (n:Nat),cA xs us->cA (xs.take n) (us.take n)
 |_,_,0,_=>.nil
 |_,_,_+1,.nil=>.nil
 |_,_,n+1,.cons r t=>.cons r (cA.take n t)
theorem cA.drop:∀{xs:List V} {us:List Value} (n:Nat),cA xs us->cA (xs.drop n) (us.drop n)
 |_,_,0,r=>r
 |_,_,_+1,.nil=>.nil
 |_,_,n+1,.cons _ t=>cA.drop n t
def jT:Option V->Option Value->Prop
 |some v,some u=>cB v u
 |none,none=>True
 |_,_=>False
def KV {κ:Type}:List (κ × V)->List (κ × Value)->Prop:=Paired λ(p:κ × V) (q:κ × Value)=>p.1=q.1/\cB p.2 q.2
def kV:Key->V
 | .inl i=>.int i
 | .inr x=>.str x
inductive HO where
 |lst (xs:List V)
 |tup (xs:List V)
 |dK (kvs:List (Key × V)) | dT (kvs:List (List Key × V))
 |set (S:Int->Bool) (n:Nat)
 |ins (C dx:Addr) (fs:List (Str × V))
 |own (x:Addr)
 |xd (fs:List (Str × V))
 |met (f x:Addr)
 |rng (lo hi:Int)
 |frz (o:Obj) (u:HO)
 |tbl (ps:Array Value)
 |ext (φ:Heap->Prop)
abbrev Hp:=Addr->Option HO
def upd (H:Hp)(a:Addr)(o:HO):Hp:=λb=>if b=a then some o else H b
theorem aB:upd H a o a=some o:=by unfold upd;rw[if_pos rfl]
theorem aR (h:b≠a):upd H a o b=H b:=by unfold upd;rw[if_neg h]
theorem qC:upd (upd H a o) a u=upd H a u:=by
 funext b;unfold upd;split<;>rfl
theorem jP {H:Hp}(h:H a=some o)(h':H b=some u)(d:o≠u):a≠b:=by
 intro e;subst e;rw[h] at h';exact d (Option.some.inj h')
theorem bK {H:Hp}(h:H a=some o)(h':H b=none):a≠b:=by
 intro e;subst e;rw[h] at h';cases h'
section
variable (P:Program) (w:World)
def cL (H:Hp)(h:Heap)(a:Addr):HO->Prop
 | .lst xs=>xs.length<=sizeLine/\∃(its:List Value) (n:Nat),cA xs its/\h.get? a=some { cls:=.type "list",data:=.seq its.toArray n }
 | .tup xs=>xs.length<=sizeLine/\∃its:List Value,cA xs its/\IsTup h a its.toArray
 | .dK kvs=>kvs.length<=sizeLine/\(a == sysModules)=false/\∃vs,KV kvs vs/\h.DictOf (eK P w) a vs
 | .dT kvs=>kvs.length<=sizeLine/\(a == sysModules)=false/\∃xs:List (List Key × Addr × Value),
   Paired (λ(p:List Key × V) (q:List Key × Addr × Value)=>p.1=q.1/\H q.2.1=some (.tup (p.1.map kV))/\cB p.2 q.2.2) kvs xs/\
   ∃o es ep,h.get? a=some o/\o.ExactDict/\o.data=.dict es ep/\es.toList=xs.map (entryOfKey (tupleKind (eK P w)))/\(xs.map (·.1)).Nodup
 | .set S n=>h.SetOf (intKind P w) a S n
 | .ins C dx fs=>H dx=some (.own a)/\fs.length<=1000/\dx≠a/\h.get? a=some (W.instObj C dx)/\
   ∃mA,h.Ns1 dx mA/\(∀f,jT (fs.lookup f) (mA f))/\PySem.Within mA (fs.map (·.1))
 | .own _=>∃o,h.get? a=some o
 | .xd fs=>∃mA,h.Ns1 a mA/\∀f,jT (fs.lookup f) (mA f)
 | .rng lo hi=>∃t u v,h.get? a=some { cls:=.type "range",data:=.fields #[.int lo t,.int hi u,.int 1 v] }
 | .frz o u=>h.get? a=some o/\cL H h a u
 | .tbl ps=>h.get? a=some { cls:=.none,data:=.fields ps }
 | .met f x=>h.get? a=some (W.methodObj (.ref f) (.ref x))
 | .ext φ=>φ h/\(∃o,h.get? a=some o)/\∀h1 h2:Heap,φ h1->(∀o,h1.get? a=some o->h2.get? a=some o)->φ h2
def HOk (H:Hp)(h:Heap):Prop:=∀a o,H a=some o->cL P w H h a o
end
section
variable {P:Program} {w:World} {H H':Hp} {h h':Heap} {a:Addr} {o:HO}
theorem cL.lt (x:cL P w H h a o):a < h.objs.size:=by
 cases o with
 |lst xs=>obtain⟨_,_,_,_,e⟩:=x;exact Heap.lt_size e
 |tup xs=>obtain⟨_,_,_,p⟩:=x;exact p.lt
 |dK kvs=>obtain⟨_,_,_,_,o,_,_,e,_⟩:=x;exact Heap.lt_size e
 |dT kvs=>obtain⟨_,_,_,_,o,_,_,e,_⟩:=x;exact Heap.lt_size e
 |set S n=>obtain⟨o,_,_,_,e,_⟩:=x;exact Heap.lt_size e
 |ins C dx fs=>obtain⟨_,_,_,e,_⟩:=x;exact Heap.lt_size e
 |own y=>obtain⟨_,e⟩:=x;exact Heap.lt_size e
 |xd fs=>obtain⟨_,⟨_,_,_,e,_⟩,_⟩:=x;exact Heap.lt_size e
 |rng lo hi=>obtain⟨_,_,_,e⟩:=x;exact Heap.lt_size e
 |frz ob u=>obtain⟨e,_⟩:=x;exact Heap.lt_size e
 |tbl ps=>exact Heap.lt_size (show h.get? a=some _ from x)
 |met f y=>exact Heap.lt_size (show h.get? a=some _ from x)
 |ext φ=>obtain⟨_,⟨_,e⟩,_⟩:=x;exact Heap.lt_size e
theorem Paired.mapP:∀{l₁:List α} {l₂:List β},Paired F l₁ l₂->(∀a b,F a b->G a b)->Paired G l₁ l₂
 |_,_,.nil,_=>.nil
 |_,_,.cons r t,f=>.cons (f _ _ r) (Paired.mapP t f)
theorem cL.stay (x:cL P w H h a o)(k:∀b u,(b=a\/H b=some (.own a))->h.get? b=some u->h'.get? b=some u)(ho:∀b,H b=some (.own a)->H' b=some (.own a))(ht:∀b xs,H b=some (.tup xs)->H' b=some (.tup xs)):cL P w H' h' a o:=by
 induction o with
 |lst xs=>obtain⟨z,its,n,r,e⟩:=x;exact⟨z,its,n,r,k _ _ (.inl rfl) e⟩
 |tup xs=>obtain⟨z,its,r,ob,e,c⟩:=x;exact⟨z,its,r,ob,k _ _ (.inl rfl) e,c⟩
 |dK kvs=>obtain⟨z,y,vs,r,ob,es,ep,e,c⟩:=x;exact⟨z,y,vs,r,ob,es,ep,k _ _ (.inl rfl) e,c⟩
 |dT kvs=>
  obtain⟨z,y,xs,r,ob,es,ep,e,c⟩:=x;exact⟨z,y,xs,Paired.mapP r λp q z=>⟨z.1,ht _ _ z.2.1,z.2.2⟩,ob,es,ep,k _ _ (.inl rfl) e,c⟩
 |set S n=>obtain⟨ob,es,ep,t,e,c⟩:=x;exact⟨ob,es,ep,t,k _ _ (.inl rfl) e,c⟩
 |ins C dx fs=>
  obtain⟨d,z,ne,e,mA,⟨od,es,ep,e2,c⟩,r⟩:=x;exact⟨ho _ d,z,ne,k _ _ (.inl rfl) e,mA,⟨od,es,ep,k _ _ (.inr d) e2,c⟩,r⟩
 |own y=>obtain⟨ob,e⟩:=x;exact⟨ob,k _ _ (.inl rfl) e⟩
 |xd fs=>obtain⟨mA,⟨od,es,ep,e,c⟩,r⟩:=x;exact⟨mA,⟨od,es,ep,k _ _ (.inl rfl) e,c⟩,r⟩
 |rng lo hi=>obtain⟨t,u,v,e⟩:=x;exact⟨t,u,v,k _ _ (.inl rfl) e⟩
 |frz ob u ih=>obtain⟨e,q⟩:=x;exact⟨k _ _ (.inl rfl) e,ih q⟩
 |tbl ps=>
  have e:h.get? a=some { cls:=.none,data:=.fields ps }:=x;show h'.get? a=some { cls:=.none,data:=.fields ps };exact k a _ (.inl rfl) e
 |met f y=>
  have e:h.get? a=some (W.methodObj (.ref f) (.ref y)):=x;show h'.get? a=some (W.methodObj (.ref f) (.ref y));exact k a _ (.inl rfl) e
 |ext φ=>obtain⟨p,⟨o,e⟩,st⟩:=x;exact⟨st _ _ p λo q=>k _ _ (.inl rfl) q,⟨o,k _ _ (.inl rfl) e⟩,st⟩
theorem HOk.lt (x:HOk P w H h)(e:H a=some o):a < h.objs.size:=(x a o e).lt
theorem HOk.fresh (x:HOk P w H h)(e:h.objs.size<=a):H a=none:=by
 cases q:H a with
 |none=>rfl
 |some u=>exact absurd (Nat.lt_of_lt_of_le (x.lt q) e) (Nat.lt_irrefl _)
theorem HOk.kept (x:HOk P w H h)(k:∀b u,h.get? b=some u->h'.get? b=some u):HOk P w H h':=λa o e=>
 (x a o e).stay (λb u _ q=>k b u q) (λ_ q=>q) λ_ _ q=>q
theorem HOk.laid (x:HOk P w H h)(k:∀b u,h.get? b=some u->h'.get? b=some u)(hp:h.objs.size<=a)(new:cL P w (upd H a o) h' a o):HOk P w (upd H a o) h':=λb u e=>by
 have hn:=x.fresh hp
 by_cases hb:b=a
 ·subst hb;rw[aB] at e;cases e;exact new
 ·rw[aR hb] at e;exact(x b u e).stay (λc v _ q=>k c v q) (λc q=>by rw[aR (bK q hn)];exact q) λc xs q=>by rw[aR (bK q hn)];exact q
end
def Rd (H:Hp)(a:Addr)(u:HO):Prop:=H a=some u\/∃o,H a=some (.frz o u)
theorem Rd.ok (r:Rd H a u)(x:HOk P w H h):cL P w H h a u:=by
 rcases r with r | ⟨o,r⟩
 ·exact x a u r
 ·obtain⟨_,q⟩:=x a _ r;exact q
def Mut:Option HO->Prop
 |some (.lst _)=>True
 |some (.dK _)=>True
 |some (.dT _)=>True
 |some (.set _ _)=>True
 |some (.ins _ _ _)=>True
 |some (.ext _)=>True
 |_=>False
section
variable {P:Program} {w:World} {H:Hp} {h h':Heap} {x e:Addr} {o':HO}
theorem HOk.write (ok:HOk P w H h)(mu:Mut (H x))(he:e=x\/H e=some (.own x))(k:∀b u,b≠e->h.get? b=some u->h'.get? b=some u)(heo:∃u,h'.get? e=some u)(new:cL P w (upd H x o') h' x o'):HOk P w (upd H x o') h':=λb u q=>by
 have nown:∀c y,H c=some (.own y)->c≠x:=λc y r z=>by subst z;rw[r] at mu;exact mu
 have ntup:∀c xs,H c=some (.tup xs)->c≠x:=λc xs r z=>by subst z;rw[r] at mu;exact mu
 by_cases hb:b=x
 ·subst hb;rw[aB] at q;cases q;exact new
 ·rw[aR hb] at q
  by_cases hbe:b=e
  ·have q':H b=some (.own x):=by
    rcases he with z | z
    ·exact absurd (hbe.trans z) hb
    ·rw[hbe];exact z
   rw[q] at q';cases q';obtain⟨v,hv⟩:=heo;exact⟨v,by rw[hbe];exact hv⟩
  ·refine(ok b u q).stay (λc v hc r=>k c v ?_ r) (λc r=>by rw[aR (nown c b r)];exact r) λc xs r=>by rw[aR (ntup c xs r)];exact r
   rcases hc with rfl | hc
   ·exact hbe
   ·rintro rfl;rcases he with z | z
    ·exact nown c b hc z
    ·rw[hc] at z;cases z;exact hb rfl
end
structure Un (fs ex:List Addr) (H H':Hp) (h h':Heap):Prop where
 keep:∀b o,h.get? b=some o->H b=none->b∉fs->b∉ex->h'.get? b=some o
 slot:∀b o,h.get? b=some o->H b=none->b∈fs->b∉ex->∃sl,h'.get? b=some { o with slots:=sl }
 free:∀b o,h.get? b=some o->H b=none->b∉ex->H' b=none
 there:∀b o,h.get? b=some o->b∉ex->∃o',h'.get? b=some o'
 tups:∀b xs,H b=some (.tup xs)->H' b=some (.tup xs)
 frzs:∀b o u,H b=some (.frz o u)->H' b=some (.frz o u)
 tbls:∀b ps,H b=some (.tbl ps)->∃more,H' b=some (.tbl (ps++more))
section
variable {fs fs' ex ex':List Addr} {H H1 H2:Hp} {h h1 h2 h':Heap} {a x e:Addr} {o:HO}
theorem Un.any (u:Un fs ex H H1 h h1)(q:h.get? b=some ob)(n:H b=none)(hx:b∉ex):∃sl,h1.get? b=some { ob with slots:=sl }:=by
 by_cases hb:b∈fs
 ·exact u.slot b ob q n hb hx
 ·exact⟨ob.slots,u.keep b ob q n hb hx⟩
theorem Un.kept (k:∀b u,h.get? b=some u->h'.get? b=some u):Un fs ex H H h h':=
 ⟨λb ob q _ _ _=>k b ob q,λb ob q _ _ _=>⟨ob.slots,k b ob q⟩,λ_ _ _ n _=>n,λb ob q _=>⟨ob,k b ob q⟩,λ_ _ q=>q,λ_ _ _ q=>q,λ_ ps q=>⟨#[],by rw[q];simp⟩⟩
theorem Un.refl:Un fs ex H H h h:=Un.kept λ_ _ q=>q
theorem Un.laid (k:∀b u,h.get? b=some u->h'.get? b=some u)(hp:h.objs.size<=a)(hn:H a=none):Un fs ex H (upd H a o) h h' where
 keep:=λb u q _ _ _=>k b u q
 slot:=λb u q _ _ _=>⟨u.slots,k b u q⟩
 free:=λb u q n _=>by rw[aR (Nat.ne_of_lt (Nat.lt_of_lt_of_le (Heap.lt_size q) hp))];exact n
 there:=λb u q _=>⟨u,k b u q⟩
 tups:=λb xs q=>by rw[aR (bK q hn)];exact q
 frzs:=λb u xs q=>by rw[aR (bK q hn)];exact q
 tbls:=λb ps q=>⟨#[],by rw[aR (bK q hn),q];simp⟩
theorem Un.write (mu:Mut (H x))(he:e=x\/H e=some (.own x))(k:∀b u,b≠e->h.get? b=some u->h'.get? b=some u)(heo:∃u,h'.get? e=some u):Un fs ex H (upd H x o) h h':=by
 have hx:∀b,H b=none->b≠x:=λb n z=>by subst z;rw[n] at mu;exact mu
 have hb:∀b,H b=none->b≠e:=λb n z=>by
  subst z;rcases he with r | r
  ·exact hx b n r
  ·rw[n] at r;cases r
 have hm:∀b u,H b=some u->¬Mut (some u)->b≠x:=λb u q nm z=>by subst z;rw[q] at mu;exact nm mu
 refine⟨λb u q n _ _=>k b u (hb b n) q,λb u q n _ _=>⟨u.slots,k b u (hb b n) q⟩,λb u q n _=>by rw[aR (hx b n)];exact n,λb u q _=>?_,
  λb xs q=>by rw[aR (hm b _ q λz=>z)];exact q,λb u xs q=>by rw[aR (hm b _ q λz=>z)];exact q,λb ps q=>⟨#[],by rw[aR (hm b _ q λz=>z),q];simp⟩⟩
 by_cases hbe:b=e
 ·subst hbe;exact heo
 ·exact⟨u,k b u hbe q⟩
end
def trk (h:Heap)(H:Hp):List Addr:=(List.range h.objs.size).filter λa=>(H a).isSome
def Bw (h:Heap)(H:Hp):Heap:=W.hideAll h (trk h H)
theorem Lj (h:Heap)(H:Hp):(Bw h H).objs.size=h.objs.size:=W.hideAll_size _ _
theorem Sm (e:h.get? b=some o)(n:H b=none):(Bw h H).get? b=some o:=
 W.hideAll_get _ e λhm=>by
  have q:(H b).isSome=true:=(mem_filter.mp hm).2;rw[n] at q;simp at q
theorem Ud (e:(Bw h H).get? b=some o):h.get? b=some o/\H b=none:=by
 have e':h.get? b=some o:=W.of_hideAll (trk h H) e;refine⟨e',?_⟩
 cases q:H b with
 |none=>rfl
 |some x=>
  have hm:b∈trk h H:=mem_filter.mpr ⟨mem_range.mpr (Heap.lt_size e'),by simp[q]⟩;have z:(Bw h H).get? b=none:=W.hideAll_none (trk h H) hm;rw[z] at e;cases e
structure Mod (K:Frag) (mg:Str->Option Value) (base:Heap):Prop where
 kin:K.In base
 glob:base.Ns mainGlobals mg
 blt:∃mb,base.Ns builtinsNs mb/\∀x:Str,x≠"__name__"->mb x=bootBuiltins x
 nolimit:base.NoLimit
structure Cx where
 prog:Program
 w:World
 K:Frag
 mg:Str->Option Value
 base:Heap
 A:Around
 N:List Str
 s₀:Shared
 H₀:Hp
 env:Env
 outer:List Env
 stack:List Env
 ex:List Addr
 fn:Str->Bool
 calm:Bool
 pn:List (Addr × Obj)
 xe:Value->Shared->Prop
def frs (l:List Env):List Addr:=l.filterMap (·.frame)
abbrev Cx.fs (X:Cx):List Addr:=frs X.outer
def Vis (sc:Scope)(x:Str):Prop:=sc.names.lookup x=some .local\/sc.names.lookup x=some .cell\/sc.names.lookup x=some .free
def Loc (sc:Scope)(x:Str):Prop:=sc.names.lookup x=some .local\/sc.names.lookup x=some .cell
def qq8 (env:Env)(h:Heap)(m:Str->Option Value)(x:Str)(u:Value):Prop:=
 (env.kindOf x=some .local/\m x=some u)\/((env.kindOf x=some .cell\/env.kindOf x=some .free)/\∃c,env.cells.lookup x=some c/\h.IsCell c (some u))
structure Cx.Ok (X:Cx):Prop where
 mod:Mod X.K X.mg X.base
 kind:X.env.scope.kind=.function
 glob:X.env.globals=mainGlobals
 blt:X.env.builtins=builtinsNs
 above:X.s₀.heap.objs.size<=X.env.locals
 inj:∀x y c,X.env.cells.lookup x=some c->X.env.cells.lookup y=some c->x=y
 has:∀x,(X.env.kindOf x=some .cell\/X.env.kindOf x=some .free)->∃c,X.env.cells.lookup x=some c
 cab:∀x c,X.fn x=true->X.env.cells.lookup x=some c->X.s₀.heap.objs.size<=c
 hd:X.calm=true->X.A.handled=none
 frames:X.A.frames=some X.stack
 stk:X.stack=X.outer\/(X.stack=X.env :: X.outer/\X.env.frame=some X.env.locals)
 exf:∀b∈X.ex,b≠X.env.locals/\∀x c,X.env.cells.lookup x=some c->c≠b
 bs:∀b o,X.base.get? b=some o->X.s₀.heap.get? b=some o/\X.H₀ b=none
 bsz:X.base.objs.size<=X.s₀.heap.objs.size
 noex:∀b o,X.base.get? b=some o->b∉X.ex
 exfs:∀b∈X.ex,b∉X.fs
 funs:X.s₀.heap.FunFrames X.base X.outer
 frf:∀b∈X.fs,X.H₀ b=none
structure Inv (X:Cx) (pins:List (Addr × Obj)) (σ:List (Option V)) (H:Hp) (s:Shared):Prop where
 ok:X.Ok
 os:s.os=X.s₀.os
 bare:AllBare s.gens
 base:Un X.fs X.ex X.H₀ H X.s₀.heap s.heap
 loc:∃m,s.heap.Ns X.env.locals m/\∀(i:Nat) (x:Str) (v:V),X.N[i]?=some x->σ[i]?=some (some v)->Vis X.env.scope x->∃u,cB v u/\qq8 X.env s.heap m x u
 cell:∀x c,X.env.cells.lookup x=some c->∃v,s.heap.IsCell c v
 free:H X.env.locals=none
 freeC:∀x c,X.env.cells.lookup x=some c->H c=none
 pin:∀p∈X.pn++pins,s.heap.get? p.1=some p.2/\H p.1=none/\p.1≠X.env.locals/\p.1∉X.fs/\∀v,p.2.data≠.cell v
 hok:HOk X.prog X.w H s.heap
 len:σ.length=X.N.length
section
variable {X:Cx} {pins:List (Addr × Obj)} {σ:List (Option V)} {H H':Hp} {s:Shared} {h':Heap}
theorem Cx.Ok.nofr (ok:X.Ok)(e:X.base.get? b=some o):b∉X.fs:=λhb=>by
 have:=(ok.funs.mem hb).1;rw[e] at this;cases this
theorem Inv.bs (I:Inv X pins σ H s):∀b o,X.base.get? b=some o->s.heap.get? b=some o/\H b=none:=λb o e=>
 ⟨I.base.keep b o (I.ok.bs b o e).1 (I.ok.bs b o e).2 (I.ok.nofr e) (I.ok.noex b o e),I.base.free b o (I.ok.bs b o e).1 (I.ok.bs b o e).2 (I.ok.noex b o e)⟩
theorem Inv.bk (I:Inv X pins σ H s):∀b o,X.base.get? b=some o->s.heap.get? b=some o:=λb o e=>(I.bs b o e).1
theorem Inv.mod (I:Inv X pins σ H s):Mod X.K X.mg X.base:=I.ok.mod
theorem Inv.kIn (I:Inv X pins σ H s):X.K.In s.heap:=I.ok.mod.kin.keeps I.bk
theorem Inv.lt (I:Inv X pins σ H s):X.env.locals < s.heap.objs.size:=let ⟨_,hn,_⟩:=I.loc;hn.lt
theorem Inv.sz (I:Inv X pins σ H s):X.s₀.heap.objs.size<=s.heap.objs.size:=Nat.le_trans I.ok.above (Nat.le_of_lt I.lt)
theorem Inv.nofs (I:Inv X pins σ H s)(h:s.heap.objs.size<=a):a∉X.fs:=λhb=>by
 obtain⟨_,o,ho,_⟩:=I.ok.funs.mem hb;exact absurd (Nat.lt_of_lt_of_le (Heap.lt_size ho) (Nat.le_trans I.sz h)) (Nat.lt_irrefl _)
theorem Inv.cne (I:Inv X pins σ H s):∀x c,X.env.cells.lookup x=some c->c≠X.env.locals:=λx c e z=>by
 obtain⟨v,o,ho,hd⟩:=I.cell x c e;obtain⟨m,⟨o',es,ep,ho',hd',_⟩,_⟩:=I.loc;rw[z,ho'] at ho;cases ho;rw[hd'] at hd;cases hd
theorem Inv.funs (I:Inv X pins σ H s):s.heap.FunFrames X.base X.outer:=by
 have all:∀(l:List Env),(∀b∈frs l,b∈X.fs)->X.s₀.heap.FunFrames X.base l->s.heap.FunFrames X.base l:=by
  intro l
  induction l with
  |nil=>intro _ _;trivial
  |cons env r ih=>
   intro hs hl;obtain⟨hk,⟨L,o,hf,hn,ho,hd⟩,hr⟩:=hl;have hL:L∈X.fs:=hs L (by unfold frs;rw[filterMap_cons,hf];exact mem_cons_self);obtain⟨sl,e⟩:=I.base.slot L o ho (I.ok.frf L hL) hL λz=>I.ok.exfs L z hL;exact⟨hk,⟨L,_,hf,hn,e,hd⟩,ih (λb hb=>hs b (by unfold frs;rw[filterMap_cons,hf];exact mem_cons_of_mem _ hb)) hr⟩
 exact all X.outer (λ_ hb=>hb) I.ok.funs
theorem Inv.stack (I:Inv X pins σ H s):s.heap.FunFrames X.base X.stack:=by
 rcases I.ok.stk with e | ⟨e,hf⟩
 ·rw[e];exact I.funs
 ·rw[e];obtain⟨m,hn,_⟩:=I.loc;refine .cons (by rw[I.ok.kind];decide) hf hn ?_ I.funs;exact Heap.get?_none_of_le (Nat.le_trans I.ok.bsz I.ok.above)
theorem Inv.stkSub (I:Inv X pins σ H s):∀b∈frs X.stack,b∈X.env.locals :: X.fs:=λb hb=>by
 rcases I.ok.stk with e | ⟨e,hf⟩
 ·rw[e] at hb;exact mem_cons_of_mem _ hb
 ·rw[e] at hb;unfold frs at hb;rw[filterMap_cons,hf] at hb;exact hb
theorem Inv.stkFree (I:Inv X pins σ H s):∀b∈frs X.stack,H b=none:=λb hb=>by
 rcases mem_cons.mp (I.stkSub b hb) with e | hb
 ·rw[e];exact I.free
 ·obtain⟨_,o,ho,_⟩:=I.ok.funs.mem hb;exact I.base.free b o ho (I.ok.frf b hb) λz=>I.ok.exfs b z hb
theorem Inv.step {ch:List Addr}(I:Inv X pins σ H s)(hch:∀b∈ch,(b∈X.ex\/X.s₀.heap.objs.size<=b)/\b≠X.env.locals/\(∀x c,X.env.cells.lookup x=some c->c≠b)/\∀p∈X.pn++pins,p.1≠b)(keep:∀b o,b≠X.env.locals->b∉X.fs->b∉ch->s.heap.get? b=some o->H b=none->h'.get? b=some o)(slot:∀b o,b≠X.env.locals->b∈X.fs->b∉ch->s.heap.get? b=some o->H b=none->∃sl,h'.get? b=some { o with slots:=sl })(free:∀b o,b∉ch->s.heap.get? b=some o->H b=none->H' b=none)(there:∀b o,b∉ch->s.heap.get? b=some o->∃o',h'.get? b=some o')(tups:∀b xs,H b=some (.tup xs)->H' b=some (.tup xs))(frzs:∀b o u,H b=some (.frz o u)->H' b=some (.frz o u))(tbls:∀b ps,H b=some (.tbl ps)->∃more,H' b=some (.tbl (ps++more)))(ns:∀m,s.heap.Ns X.env.locals m->h'.Ns X.env.locals m)(hok:HOk X.prog X.w H' h')(hg:AllBare g'):
  Inv X pins σ H' { s with heap:=h',gens:=g',drawn:=d',toks:=t' }:=by
 have neL:∀b o,X.s₀.heap.get? b=some o->b≠X.env.locals:=λb o e=>Nat.ne_of_lt (Nat.lt_of_lt_of_le (Heap.lt_size e) I.ok.above);have neC:∀b o,X.s₀.heap.get? b=some o->b∉X.ex->b∉ch:=λb o e hx hb=>by
  rcases (hch b hb).1 with z | z
  ·exact hx z
  ·exact absurd (Nat.lt_of_lt_of_le (Heap.lt_size e) z) (Nat.lt_irrefl _)
 have cellK:∀x c,X.env.cells.lookup x=some c->∀v,s.heap.IsCell c v->h'.IsCell c v:=λx c e v ⟨o,ho,hd⟩=>by
  have nch:c∉ch:=λz=>(hch c z).2.2.1 x c e rfl
  by_cases hc:c∈X.fs
  ·obtain⟨sl,q⟩:=slot c o (I.cne x c e) hc nch ho (I.freeC x c e);exact⟨_,q,hd⟩
  ·exact⟨o,keep c o (I.cne x c e) hc nch ho (I.freeC x c e),hd⟩
 refine⟨I.ok,I.os,hg,⟨λb o e n hb hx=>?_,λb o e n hb hx=>?_,λb o e n hx=>?_,λb o e hx=>?_,λb xs e=>tups b xs (I.base.tups b xs e),λb o xs e=>frzs b o xs (I.base.frzs b o xs e),λb ps e=>?_⟩,?_,λx c e=>?_,?_,λx c e=>?_,λp hp=>?_,hok,I.len⟩
 ·exact keep b o (neL b o e) hb (neC b o e hx) (I.base.keep b o e n hb hx) (I.base.free b o e n hx)
 ·obtain⟨sl,e1⟩:=I.base.slot b o e n hb hx;obtain⟨sl',e2⟩:=slot b _ (neL b o e) hb (neC b o e hx) e1 (I.base.free b o e n hx);exact⟨sl',e2⟩
 ·obtain⟨o',e1⟩:=I.base.there b o e hx;exact free b o' (neC b o e hx) e1 (I.base.free b o e n hx)
 ·obtain⟨o',e1⟩:=I.base.there b o e hx;exact there b o' (neC b o e hx) e1
 ·obtain⟨m1,e1⟩:=I.base.tbls b ps e;obtain⟨m2,e2⟩:=tbls b _ e1;exact⟨m1++m2,by rw[e2,Array.append_assoc]⟩
 ·obtain⟨m,hn,hl⟩:=I.loc;refine⟨m,ns m hn,λi x v e1 e2 e3=>?_⟩;obtain⟨u,r,l⟩:=hl i x v e1 e2 e3;refine⟨u,r,?_⟩;rcases l with l | ⟨k,c,e,z⟩
  ·exact .inl l
  ·exact .inr ⟨k,c,e,cellK x c e _ z⟩
 ·obtain⟨v,z⟩:=I.cell x c e;exact⟨v,cellK x c e v z⟩
 ·obtain⟨m,⟨o,_,_,ho,_⟩,_⟩:=I.loc;exact free _ o (λz=>(hch _ z).2.1 rfl) ho I.free
 ·obtain⟨v,o,ho,hd⟩:=I.cell x c e;exact free c o (λz=>(hch c z).2.2.1 x c e rfl) ho (I.freeC x c e)
 ·obtain⟨e,n,ne,nf,d⟩:=I.pin p hp;have nch:p.1∉ch:=λz=>(hch p.1 z).2.2.2 p hp rfl;exact⟨keep p.1 p.2 ne nf nch e n,free p.1 p.2 nch e n,ne,nf,d⟩
theorem Inv.un (I:Inv X pins σ H s)(u:Un X.fs [] H H' s.heap h')(hok:HOk X.prog X.w H' h'):Inv X pins σ H' { s with heap:=h',toks:=t' }:=by
 obtain⟨m,⟨o,es,ep,ho,r⟩,_⟩:=id I.loc;obtain⟨sl,hL⟩:=u.any ho I.free ⋯;exact I.step (g':=s.gens) (d':=s.drawn) (ch:=[]) (λ_ z=>nomatch z) (λb o _ hb _ e n=>u.keep b o e n hb ⋯) (λb o _ hb _ e n=>u.slot b o e n hb ⋯) (λb o _ e n=>u.free b o e n ⋯) (λb o _ e=>u.there b o e ⋯) u.tups u.frzs u.tbls (λm' hm=>by
  obtain⟨o',es',ep',ho',r'⟩:=hm;rw[ho] at ho';cases ho';exact⟨_,es',ep',hL,r'⟩) hok I.bare
theorem Inv.call (I:Inv X pins σ H s)(u:Un (frs X.stack) ch H H' s.heap h')(hok:HOk X.prog X.w H' h')(hg:AllBare g')(hch:∀b∈ch,(b∈X.ex\/X.s₀.heap.objs.size<=b)/\b≠X.env.locals/\(∀x c,X.env.cells.lookup x=some c->c≠b)/\∀p∈X.pn++pins,p.1≠b):
  Inv X pins σ H' { s with heap:=h',gens:=g',drawn:=d',toks:=t' }:=by
 obtain⟨m,⟨o,es,ep,ho,r⟩,_⟩:=id I.loc;obtain⟨sl,hL⟩:=u.any ho I.free λz=>(hch _ z).2.1 rfl;exact I.step (ch:=ch) hch (λb o hL hb hc e n=>u.keep b o e n (λz=>(mem_cons.mp (I.stkSub b z)).elim hL hb) hc) (λb o _ _ hc e n=>u.any e n hc) (λb o hc e n=>u.free b o e n hc) (λb o hc e=>u.there b o e hc) u.tups u.frzs u.tbls (λm' hm=>by
  obtain⟨o',es',ep',ho',r'⟩:=hm;rw[ho] at ho';cases ho';exact⟨_,es',ep',hL,r'⟩) hok hg
theorem Inv.turned (I:Inv X pins σ H s)(k:∀b o,b≠it->s.heap.get? b=some o->h'.get? b=some o)(hn:H it=none)(hL:it≠X.env.locals)(h1:it∈X.ex\/X.s₀.heap.objs.size<=it)(h2:∀x c,X.env.cells.lookup x=some c->c≠it)(h3:∀p∈X.pn++pins,p.1≠it):Inv X pins σ H { s with heap:=h',toks:=t' }:=by
 have nit:∀b u,H b=some u->b≠it:=λb u e z=>by rw[z,hn] at e;cases e
 refine I.step (g':=s.gens) (d':=s.drawn) (ch:=[it]) (λb hb=>?_) (λb o _ _ hc e _=>k b o (λz=>hc (by simp[z])) e) (λb o _ _ hc e _=>⟨o.slots,k b o (λz=>hc (by simp[z])) e⟩) (λ_ _ _ _ n=>n)
  (λb o hc e=>⟨o,k b o (λz=>hc (by simp[z])) e⟩) (λ_ _ e=>e) (λ_ _ _ e=>e) (λb ps e=>⟨#[],by rw[e];simp⟩) (λm hm=>?_) (λb u e=>?_) I.bare
 ·have e:b=it:=by simpa using hb
  subst e;exact⟨h1,hL,h2,h3⟩
 ·obtain⟨o,es,ep,ho,r⟩:=hm;exact⟨o,es,ep,k _ o (Ne.symm hL) ho,r⟩
 ·refine(I.hok b u e).stay (λc v hc q=>k c v ?_ q) (λ_ q=>q) λ_ _ q=>q;rcases hc with z | z
  ·rw[z];exact nit b u e
  ·exact nit c _ z
theorem Inv.tok (I:Inv X pins σ H s)(t:Nat):Inv X pins σ H { s with toks:=t }:=I.un (h':=s.heap) (t':=t) Un.refl I.hok
theorem Inv.kept (I:Inv X pins σ H s)(k:∀b u,s.heap.get? b=some u->h'.get? b=some u):Inv X pins σ H { s with heap:=h',toks:=t' }:=I.un (Un.kept k) (I.hok.kept k)
theorem Inv.laid (I:Inv X pins σ H s)(k:∀b u,s.heap.get? b=some u->h'.get? b=some u)(hp:s.heap.objs.size<=a)(new:cL X.prog X.w (upd H a o) h' a o):
  Inv X pins σ (upd H a o) { s with heap:=h',toks:=t' }:=I.un (Un.laid k hp (I.hok.fresh hp)) (I.hok.laid k hp new)
theorem Inv.write (I:Inv X pins σ H s)(mu:Mut (H x))(he:e=x\/H e=some (.own x))(k:∀b u,b≠e->s.heap.get? b=some u->h'.get? b=some u)(heo:∃u,h'.get? e=some u)(new:cL X.prog X.w (upd H x o) h' x o):Inv X pins σ (upd H x o) { s with heap:=h',toks:=t' }:=I.un (Un.write mu he k heo) (I.hok.write mu he k heo new)
theorem Inv.weak (I:Inv X pins σ H s)(hl:σ'.length=σ.length)(w:∀(i:Nat) v,σ'[i]?=some (some v)->σ[i]?=some (some v)):Inv X pins σ' H s:=
 ⟨I.ok,I.os,I.bare,I.base,let ⟨m,hn,hl'⟩:=I.loc;⟨m,hn,λi x v e1 e2 e3=>hl' i x v e1 (w i v e2) e3⟩,I.cell,I.free,I.freeC,I.pin,I.hok,hl.trans I.len⟩
theorem Inv.pins_of (I:Inv X pins σ H s)(h:∀p∈pins',s.heap.get? p.1=some p.2/\H p.1=none/\p.1≠X.env.locals/\p.1∉X.fs/\∀v,p.2.data≠.cell v):Inv X pins' σ H s:=
 ⟨I.ok,I.os,I.bare,I.base,I.loc,I.cell,I.free,I.freeC,λp hp=>(mem_append.mp hp).elim (λz=>I.pin p (mem_append_left _ z)) (h p),I.hok,I.len⟩
theorem vQ {N:List Str}(hN:N.Nodup){i j:Nat}(a:N[i]?=some x)(b:N[j]?=some x):i=j:=by
 obtain⟨h1,e1⟩:=List.getElem?_eq_some_iff.mp a;obtain⟨h2,e2⟩:=List.getElem?_eq_some_iff.mp b;exact(getElem_inj hN).mp (e1.trans e2.symm)
theorem zQ (I:Inv X pins σ H s)(hN:X.N.Nodup)(hi:X.N[i]?=some x)(hx:Loc X.env.scope x)(r:cB v u)(h:∀s',Inv X pins (σ.set i (some v)) H s'->(∃a,Heap.SameBut a s.heap s'.heap/\(a=X.env.locals\/X.env.cells.lookup x=some a))->Q .unit s')(hf:X.fn x=true\/X.env.scope.names.lookup x=some .local:=by first | exact .inl rfl | exact .inr rfl | assumption):wpAny M A (storeName X.env x u) Q E s:=by
 obtain⟨m,hn,hl⟩:=id I.loc;have hcls:(X.env.scope.kind == .class || (X.env.scope.kind == .module && X.env.locals != X.env.globals))=false:=by rw[I.ok.kind];rfl
 have hiσ:i < σ.length:=by rw[I.len];exact(List.getElem?_eq_some_iff.mp hi).1
 have cne:=I.cne;have tracked:∀{a:Addr} {h':Heap},(∃o,s.heap.get? a=some o/\H a=none)->Heap.SameBut a s.heap h'->HOk X.prog X.w H h':=λ{a h'} ha hs b ob e=>by
  obtain⟨_,_,hfree⟩:=ha;refine(I.hok b ob e).stay (λc w' hc q=>(hs.2 c ?_).trans q) (λ_ q=>q) λ_ _ q=>q;rintro rfl;rcases hc with rfl | hc
  ·rw[hfree] at e;cases e
  ·rw[hfree] at hc;cases hc
 rcases hx with hk | hk
 ·refine wpAny_storeName_local hk hn (λh' hn' hs=>?_) hcls;obtain⟨oL,_,_,hoL,_⟩:=id hn;refine h _ ⟨I.ok,I.os,I.bare,⟨λb o e n hb hx=>?_,λb o e n hb hx=>?_,I.base.free,λb o e hx=>?_,I.base.tups,I.base.frzs,I.base.tbls⟩,⟨_,hn',λj y v' e1 e2 e3=>?_⟩,λy c e=>?_,I.free,I.freeC,λp hp=>?_,tracked ⟨oL,hoL,I.free⟩ hs,by simpa using I.len⟩ ⟨_,hs,.inl rfl⟩
  ·exact(hs.2 b (Nat.ne_of_lt (Nat.lt_of_lt_of_le (Heap.lt_size e) I.ok.above))).trans (I.base.keep b o e n hb hx)
  ·obtain⟨sl,e1⟩:=I.base.slot b o e n hb hx;exact⟨sl,(hs.2 b (Nat.ne_of_lt (Nat.lt_of_lt_of_le (Heap.lt_size e) I.ok.above))).trans e1⟩
  ·obtain⟨o',e1⟩:=I.base.there b o e hx;exact⟨o',(hs.2 b (Nat.ne_of_lt (Nat.lt_of_lt_of_le (Heap.lt_size e) I.ok.above))).trans e1⟩
  ·by_cases hj:j=i
   ·subst hj;rw[hi] at e1;cases e1;rw[getElem?_set_self hiσ] at e2
    cases e2
    exact⟨u,r,.inl ⟨hk,⋯⟩⟩
   ·rw[getElem?_set_ne (Ne.symm hj)] at e2;obtain⟨u',r',q⟩:=hl j y v' e1 e2 e3;refine⟨u',r',?_⟩;rcases q with ⟨k,e⟩ | ⟨k,c,e,z⟩
    ·refine .inl ⟨k,?_⟩;have:y≠x:=λe=>hj (vQ hN e1 (e ▸ hi));simp[this,e]
    ·exact .inr ⟨k,c,e,z.sameBut hs (cne y c e)⟩
  ·obtain⟨w',z⟩:=I.cell y c e;exact⟨w',z.sameBut hs (cne y c e)⟩
  ·obtain⟨e,n,ne,nf,d⟩:=I.pin p hp;exact⟨(hs.2 p.1 ne).trans e,n,ne,nf,d⟩
 ·have hfn:X.fn x=true:=by
   rcases hf with z | z
   ·exact z
   ·rw[z] at hk;cases hk
  obtain⟨c,hc⟩:=I.ok.has x (.inl hk);obtain⟨w',z⟩:=I.cell x c hc;refine wpAny_storeName_cell I.ok.kind hk hc z (λh' hc' hs=>?_);obtain⟨oc,hoc,hocd⟩:=id z;refine h { s with heap:=h' } ⟨I.ok,I.os,I.bare,⟨λb o e n hb hx=>?_,λb o e n hb hx=>?_,I.base.free,λb o e hx=>?_,I.base.tups,I.base.frzs,I.base.tbls⟩,⟨m,hn.sameBut hs (Ne.symm (cne x c hc)),λj y v' e1 e2 e3=>?_⟩,λy c' e=>?_,I.free,I.freeC,λp hp=>?_,tracked ⟨oc,hoc,I.freeC x c hc⟩ hs,by simpa using I.len⟩ ⟨c,hs,.inr hc⟩
  ·exact(hs.2 b (Nat.ne_of_lt (Nat.lt_of_lt_of_le (Heap.lt_size e) (I.ok.cab x c hfn hc)))).trans (I.base.keep b o e n hb hx)
  ·obtain⟨sl,e1⟩:=I.base.slot b o e n hb hx;exact⟨sl,(hs.2 b (Nat.ne_of_lt (Nat.lt_of_lt_of_le (Heap.lt_size e) (I.ok.cab x c hfn hc)))).trans e1⟩
  ·obtain⟨o',e1⟩:=I.base.there b o e hx;exact⟨o',(hs.2 b (Nat.ne_of_lt (Nat.lt_of_lt_of_le (Heap.lt_size e) (I.ok.cab x c hfn hc)))).trans e1⟩
  ·by_cases hj:j=i
   ·subst hj;rw[hi] at e1;cases e1;rw[getElem?_set_self hiσ] at e2
    cases e2
    exact⟨u,r,.inr ⟨.inl hk,c,hc,hc'⟩⟩
   ·rw[getElem?_set_ne (Ne.symm hj)] at e2;obtain⟨u',r',q⟩:=hl j y v' e1 e2 e3;refine⟨u',r',?_⟩;rcases q with q | ⟨k,c',e,z'⟩
    ·exact .inl q
    ·refine .inr ⟨k,c',e,z'.sameBut hs ?_⟩;rintro rfl;exact hj (vQ hN e1 (I.ok.inj _ _ _ e hc ▸ hi))
  ·by_cases hcc:c'=c
   ·subst hcc;exact⟨_,hc'⟩
   ·obtain⟨w2,z2⟩:=I.cell y c' e;exact⟨w2,z2.sameBut hs hcc⟩
  ·obtain⟨e,n,ne,nf,d⟩:=I.pin p hp;refine⟨(hs.2 p.1 ?_).trans e,n,ne,nf,d⟩;intro q;rw[q,hoc] at e;have q':oc=p.2:=Option.some.inj e;exact d w' (by rw[<- q'];exact hocd)
theorem jZ (I:Inv X pins σ H s)(hN:X.N.Nodup)(hi:X.N[i]?=some x)(hx:Loc X.env.scope x)(r:cB v u)(h:∀s',Inv X pins (σ.set i (some v)) H s'->Q .unit s')(hf:X.fn x=true\/X.env.scope.names.lookup x=some .local:=by first | exact .inl rfl | exact .inr rfl | assumption):wpAny M A (storeName X.env x u) Q E s:=
 zQ I hN hi hx r (λs' I' _=>h s' I') hf
theorem Inv.call' (I:Inv X pins σ H s)(ho:s'.os=s.os)(u:Un (frs X.stack) ch H H' s.heap s'.heap)(hok:HOk X.prog X.w H' s'.heap)(hg:AllBare s'.gens)(hch:∀b∈ch,(b∈X.ex\/X.s₀.heap.objs.size<=b)/\b≠X.env.locals/\(∀x c,X.env.cells.lookup x=some c->c≠b)/\∀p∈X.pn++pins,p.1≠b):Inv X pins σ H' s':=by
 obtain⟨h',g',d',t',o'⟩:=s';have e:o'=s.os:=ho;subst e;exact I.call (g':=g') (t':=t') (d':=d') u hok hg hch
end
abbrev XK:=Value->Option Addr->Hp->Prop
abbrev St:=List (Option V)
abbrev VK:=V->Hp->Prop
abbrev TE:=St->Hp->VK->Prop
abbrev TT:=St->Hp->(Bool->Hp->Prop)->Prop
abbrev TA:=St->Hp->(List V->Hp->Prop)->Prop
structure kL where
 nx:St->Hp->Prop
 rt:VK
 bk:St->Hp->Prop:=λ_ _=>False
 ct:St->Hp->Prop:=λ_ _=>False
abbrev TS:=kL->St->Hp->Prop
def EP (X:Cx)(pins:List (Addr × Obj))(σ:St)(Q:VK)(u:Value)(s':Shared):Prop:=∃v H',Inv X pins σ H' s'/\cB v u/\Q v H'
def TP (X:Cx)(pins:List (Addr × Obj))(σ:St)(Q:Bool->Hp->Prop)(b:Bool)(s':Shared):Prop:=∃H',Inv X pins σ H' s'/\Q b H'
def AP (X:Cx)(pins:List (Addr × Obj))(σ:St)(Q:List V->Hp->Prop)(us:List Value)(s':Shared):Prop:=∃vs H',Inv X pins σ H' s'/\cA vs us/\Q vs H'
def SP (X:Cx)(pins:List (Addr × Obj))(D:kL)(f:Flow)(s':Shared):Prop:=
 match f with
 | .next=>∃σ' H',Inv X pins σ' H' s'/\D.nx σ' H'
 | .brk=>∃σ' H',Inv X pins σ' H' s'/\D.bk σ' H'
 | .cont=>∃σ' H',Inv X pins σ' H' s'/\D.ct σ' H'
 | .ret u=>∃v σ' H',Inv X pins σ' H' s'/\cB v u/\D.rt v H'
def PE (X:Cx)(e:Expr)(t:TE):Prop:=
 ∀(pins:List (Addr × Obj)) (s:Shared) (σ:St) (H:Hp) (Q:VK),Inv X pins σ H s->t σ H Q->wpAny (model X.prog X.w) X.A (eval e X.env) (EP X pins σ Q) X.xe s
def PT (X:Cx)(e:Expr)(t:TT):Prop:=
 ∀(pins:List (Addr × Obj)) (s:Shared) (σ:St) (H:Hp) (Q:Bool->Hp->Prop),Inv X pins σ H s->t σ H Q->wpAny (model X.prog X.w) X.A (isTrue e X.env (eval e X.env)) (TP X pins σ Q) X.xe s
def PW (X:Cx)(e:Expr)(t:TT):Prop:=
 ∀(whole:Sem Value) (pins:List (Addr × Obj)) (s:Shared) (σ:St) (H:Hp) (Q:Bool->Hp->Prop),Inv X pins σ H s->t σ H Q->wpAny (model X.prog X.w) X.A (isTrue e X.env whole) (TP X pins σ Q) X.xe s
theorem PW.pt (h:PW X e t):PT X e t:=h _
def PA (X:Cx)(es:List Expr)(t:TA):Prop:=
 ∀(pos:Pos) (pins:List (Addr × Obj)) (s:Shared) (σ:St) (H:Hp) (Q:List V->Hp->Prop),Inv X pins σ H s->t σ H Q->wpAny (model X.prog X.w) X.A (spliced (backTo pos (starEach es X.env))) (AP X pins σ Q) X.xe s
def PS (X:Cx)(st:Stmt)(t:TS):Prop:=
 ∀(pins:List (Addr × Obj)) (s:Shared) (σ:St) (H:Hp) (D:kL),Inv X pins σ H s->t D σ H->wpAny (model X.prog X.w) X.A (exec st X.env) (SP X pins D) X.xe s
def PSs (X:Cx)(st:List Stmt)(t:TS):Prop:=
 ∀(pins:List (Addr × Obj)) (s:Shared) (σ:St) (H:Hp) (D:kL),Inv X pins σ H s->t D σ H->wpAny (model X.prog X.w) X.A (execs st X.env) (SP X pins D) X.xe s
theorem thn (h:wpAny M A t Q E s)(hQ:∀a s,Q a s->Q' a s):wpAny M A t Q' E s:=wpAny_mono h hQ λ_ _ x=>x
section
variable {X:Cx}
inductive Tm (i:Nat) (σ:St) (H:Hp) (Q:VK):Prop where
 |mk (v):σ[i]?=some (some v)->Q v H->Tm i σ H Q
def tC (v:V):TE:=λ_ H Q=>Q v H
theorem Tk (hN:X.N[i]?=some x)(hv:Vis X.env.scope x)(hd:(x == ("__debug__":Str))=false:=by decide)(hcd:(x == ("__classdict__":Str))=false:=by decide):PE X (.Name x pos) (Tm i):=by
 intro pins s σ H Q I h;obtain⟨v,e,h⟩:=h;obtain⟨m,hn,hl⟩:=I.loc;obtain⟨u,r,l⟩:=hl i x v hN e hv;have fin:EP X pins σ Q u s:=⟨v,H,I,r,h⟩
 rcases l with ⟨hk,hm⟩ | ⟨hk,c,hc,hcell⟩
 ·exact wpAny_Name (wpAny_loadName_local I.ok.kind hk hn hm fin) hd
 ·rcases hk with hk | hk
  ·exact wpAny_Name (wpAny_loadName_cell I.ok.kind hk hc hcell fin) hd
  ·exact wpAny_Name (wpAny_loadName_free I.ok.kind hk hc hcell fin hcd) hd
theorem aG {i j pos}:PE X (.Constant (.int i) j pos) (tC (.int i)):=λ_ _ _ H _ I h=>wpAny_Constant_int ⟨.int i,H,I.tok _,⟨_,rfl⟩,h⟩
theorem jE {b j pos}:PE X (.Constant (.bool b) j pos) (tC (.bl b)):=λ_ _ _ H _ I h=>Constant_bool ⟨.bl b,H,I,rfl,h⟩
theorem xX {j pos}:PE X (.Constant .none j pos) (tC .non):=λ_ _ _ H _ I h=>Constant_none ⟨.non,H,I,rfl,h⟩
theorem aX {x j pos}:PE X (.Constant (.str x) j pos) (tC (.str x)):=λ_ _ _ H _ I h=>Calls.Constant_str ⟨.str x,H,I.tok _,⟨_,rfl⟩,h⟩
def Gl (X:Cx)(x:Str):Prop:=X.env.kindOf x=some .globalImplicit
theorem iO (I:Inv X pins σ H s)(hg:Gl X x)(hm:X.mg x=some u)(h:Q u s)(hd:(x == ("__debug__":Str))=false:=by decide):wpAny (model X.prog X.w) X.A (eval (.Name x pos) X.env) Q E s:=
 Calls.Name_function_global I.ok.kind hg (Calls.loadGlobal_global (by rw[I.ok.glob];exact I.mod.glob.keeps I.bk) hm h) hd
theorem jV (I:Inv X pins σ H s)(hg:Gl X x)(hm:X.mg x=none)(hv:bootBuiltins x=some u)(h:Q u s)(hn:x≠"__name__":=by decide)(hd:(x == ("__debug__":Str))=false:=by decide):wpAny (model X.prog X.w) X.A (eval (.Name x pos) X.env) Q E s:=by
 obtain⟨mb,h1,h2⟩:=I.mod.blt;exact Calls.Name_function_global I.ok.kind hg (Calls.loadGlobal_builtin (by rw[I.ok.glob];exact I.mod.glob.keeps I.bk) hm (by rw[I.ok.blt];exact h1.keeps I.bk) ((h2 x hn).trans hv) h) hd
theorem dG (hg:Gl X x)(hm:X.mg x=some u)(r:cB v u)(hd:(x == ("__debug__":Str))=false:=by decide):PE X (.Name x pos) (tC v):=
 λ_ _ _ H _ I h=>iO I hg hm ⟨v,H,I,r,h⟩ hd
theorem Kx (hg:Gl X x)(hm:X.mg x=none)(hv:bootBuiltins x=some u)(r:cB v u)(hn:x≠"__name__":=by decide)(hd:(x == ("__debug__":Str))=false:=by decide):PE X (.Name x pos) (tC v):=
 λ_ _ _ H _ I h=>jV I hg hm hv ⟨v,H,I,r,h⟩ hn hd
variable {a b:Expr} {ta tb:TE} {pos:Pos}
def PC (X:Cx)(op:CmpOp)(a b:Expr)(t:TE):Prop:=
 ∀(pins:List (Addr × Obj)) (s:Shared) (σ:St) (H:Hp) (Q:VK),Inv X pins σ H s->t σ H Q->
  wpAny (model X.prog X.w) X.A (eval a X.env) (λv s₁=>wpAny (model X.prog X.w) X.A (eval b X.env) (λu s₂=>wpAny (model X.prog X.w) X.A (compareOp op v u) (EP X pins σ Q) X.xe s₂) X.xe s₁) X.xe s
theorem Ey (b:Expr)(h:op≠.In)(h2:op≠.NotIn):behindInMarks op b=false:=by
 have e1:(op == CmpOp.In)=false:=by cases op<;>first | rfl | exact absurd rfl h
 have e2:(op == CmpOp.NotIn)=false:=by cases op<;>first | rfl | exact absurd rfl h2
 cases b<;>simp[behindInMarks,e1,e2]
def qs0 (ta:TE):TE:=λσ H Q=>ta σ H λx H1=>Q (.bl (decide (x=.non))) H1
def qp6 (ta:TE):TE:=λσ H Q=>ta σ H λx H1=>Q (.bl (!decide (x=.non))) H1
theorem cB.none_iff (r:cB x v):(v == Value.none)=decide (x=.non):=by
 cases x with
 |non=>cases r;rfl
 |bl _=>cases r;rfl
 |int _=>obtain⟨t,rfl⟩:=r;rfl
 |str _=>obtain⟨t,rfl⟩:=r;rfl
 |byt _=>obtain⟨t,rfl⟩:=r;rfl
 |flt _=>obtain⟨t,rfl⟩:=r;rfl
 |ref _=>cases r;rfl
 |ty _=>cases r;rfl
theorem Bj {j pos'}(ha:PE X a ta):PC X .Is a (.Constant .none j pos') (qs0 ta):=by
 intro pins s σ H Q I h;refine thn (ha pins s σ H _ I h) λv s1 ⟨x,H1,I1,r1,q1⟩=>?_;exact Constant_none (is_none_gen ⟨.bl _,H1,I1,by rw[r1.none_iff];rfl,q1⟩)
theorem Iz {j pos'}(ha:PE X a ta):PC X .IsNot a (.Constant .none j pos') (qp6 ta):=by
 intro pins s σ H Q I h;refine thn (ha pins s σ H _ I h) λv s1 ⟨x,H1,I1,r1,q1⟩=>?_;exact Constant_none (isnot_none_gen ⟨.bl _,H1,I1,by rw[r1.none_iff];rfl,q1⟩)
inductive BlT (x:V) (q:Bool->Prop):Prop where
 |mk (c:Bool) (_:x=.bl c) (_:q c):BlT x q
def tB (t:TE):TT:=λσ H Q=>t σ H λx H1=>BlT x λc=>Q c H1
theorem Zh (h:PC X op a b t)(h1:behindInMarks op b=false:=by first | exact Ey _ ∅ ∅ | rfl):PE X (.Compare a [op] [b] pos) t:=λpins s σ H Q I hw=>wpAny_Compare1 (h pins s σ H Q I hw) h1
theorem nC (h:PC X op a b t)(h1:behindInMarks op b=false:=by first | exact Ey _ ∅ ∅ | rfl):PT X (.Compare a [op] [b] pos) (tB t):=by
 intro pins s σ H Q I hw;refine wpAny_isTrue_Compare1 (thn (h pins s σ H _ I hw) λv s1 h1=>thn h1 λu s2 h2=>thn h2 λc s3 ⟨x,H1,I1,r1,q1⟩=>?_) h1;obtain⟨d,rfl,q⟩:=q1
 cases r1
 exact wpAny_truthy_bool ⟨H1,I1,q⟩
theorem fE (h:PE X e t)(he:∀whole,isTrue e X.env whole=(do let v <- whole;standAt e.pos;holding [v] (truthy v)):=by intro _;rfl):PT X e (tB t):=by
 intro pins s σ H Q I hw;refine isTrue_plain (thn (h pins s σ H _ I hw) λv s1 ⟨x,H1,I1,r1,q1⟩=>?_) (he _);obtain⟨d,rfl,q⟩:=q1
 cases r1
 exact wpAny_truthy_bool ⟨H1,I1,q⟩
variable {tA tB':TT} {rest:List Expr}
def qt0 (t u:TT):TT:=λσ H Q=>t σ H λc H1=>if c=true then u σ H1 Q else Q false H1
def tOr (t u:TT):TT:=λσ H Q=>t σ H λc H1=>if c=true then Q true H1 else u σ H1 Q
def qr7 (t:TT):TT:=λσ H Q=>t σ H λc H1=>Q (!c) H1
theorem iS (ha:PT X a tA):PW X (.BoolOp .And [a] pos) tA:=by
 intro wh pins s σ H Q I h;refine isTrue_and (thn (ha pins s σ H Q I h) λc s1 e=>?_)
 cases c with
 |true=>exact isTrue_and_nil e
 |false=>exact e
theorem rM (ha:PT X a tA):PW X (.BoolOp .Or [a] pos) tA:=by
 intro wh pins s σ H Q I h;refine isTrue_or (thn (ha pins s σ H Q I h) λc s1 e=>?_)
 cases c with
 |false=>exact isTrue_or_nil e
 |true=>exact e
theorem kZ (ha:PT X a tA)(hb:PW X (.BoolOp .And (b :: rest) pos) tB'):PW X (.BoolOp .And (a :: b :: rest) pos) (qt0 tA tB'):=by
 intro wh pins s σ H Q I h;refine isTrue_and (thn (ha pins s σ H _ I h) λc s1 ⟨H1,I1,q1⟩=>?_)
 cases c with
 |true=>exact hb wh pins s1 σ H1 Q I1 q1
 |false=>exact⟨H1,I1,q1⟩
theorem tL (ha:PT X a tA)(hb:PW X (.BoolOp .Or (b :: rest) pos) tB'):PW X (.BoolOp .Or (a :: b :: rest) pos) (tOr tA tB'):=by
 intro wh pins s σ H Q I h;refine isTrue_or (thn (ha pins s σ H _ I h) λc s1 ⟨H1,I1,q1⟩=>?_)
 cases c with
 |true=>exact⟨H1,I1,q1⟩
 |false=>exact hb wh pins s1 σ H1 Q I1 q1
theorem gZ (ha:PT X a tA):PT X (.UnaryOp .Not a pos) (qr7 tA):=by
 intro pins s σ H Q I h;exact isTrue_not (ha pins s σ H (λc H1=>Q (!c) H1) I h)
def ql3 (ta tb:TE):TE:=λσ H Q=>ta σ H λx H1=>BlT x λc=>if c=true then tb σ H1 Q else Q (.bl false) H1
def qq5 (ta tb:TE):TE:=λσ H Q=>ta σ H λx H1=>BlT x λc=>if c=true then Q (.bl true) H1 else tb σ H1 Q
def qn1 (ta:TE):TE:=λσ H Q=>ta σ H λx H1=>BlT x λc=>Q (.bl (!c)) H1
theorem pC {op}(h:PE X a t):PE X (.BoolOp op [a] pos) t:=λpins s σ H Q I hw=>BoolOp_one (h pins s σ H Q I hw)
theorem nU (ha:PE X a ta)(hb:PE X (.BoolOp .And (b :: rest) pos) tb):PE X (.BoolOp .And (a :: b :: rest) pos) (ql3 ta tb):=by
 intro pins s σ H Q I h;refine BoolOp_and (thn (ha pins s σ H _ I h) λv s1 ⟨x,H1,I1,r1,q1⟩=>?_);obtain⟨c,rfl,q1⟩:=q1
 cases r1
 refine wpAny_truthy_bool ?_
 cases c with
 |true=>exact hb pins s1 σ H1 Q I1 q1
 |false=>exact⟨.bl false,H1,I1,rfl,q1⟩
theorem qk7 (ha:PE X a ta)(hb:PE X (.BoolOp .Or (b :: rest) pos) tb):PE X (.BoolOp .Or (a :: b :: rest) pos) (qq5 ta tb):=by
 intro pins s σ H Q I h;refine BoolOp_or (thn (ha pins s σ H _ I h) λv s1 ⟨x,H1,I1,r1,q1⟩=>?_);obtain⟨c,rfl,q1⟩:=q1
 cases r1
 refine wpAny_truthy_bool ?_
 cases c with
 |false=>exact hb pins s1 σ H1 Q I1 q1
 |true=>exact⟨.bl true,H1,I1,rfl,q1⟩
theorem qe6 (ha:PE X a ta):PE X (.UnaryOp .Not a pos) (qn1 ta):=by
 intro pins s σ H Q I h;refine UnaryOp_ (thn (ha pins s σ H _ I h) λv s1 ⟨x,H1,I1,r1,q1⟩=>?_);obtain⟨c,rfl,q1⟩:=q1
 cases r1
 exact not_of (wpAny_truthy_bool ⟨.bl (!c),H1,I1,rfl,q1⟩)
def tIf (t:TT)(ta tb:TE):TE:=λσ H Q=>t σ H λc H1=>if c=true then ta σ H1 Q else tb σ H1 Q
theorem pW (hc:PT X c tA)(ha:PE X a ta)(hb:PE X b tb):PE X (.IfExp c a b pos) (tIf tA ta tb):=by
 intro pins s σ H Q I h;refine wpAny_IfExp (thn (hc pins s σ H _ I h) λd s1 ⟨H1,I1,q1⟩=>?_)
 cases d with
 |true=>exact ha pins s1 σ H1 Q I1 q1
 |false=>exact hb pins s1 σ H1 Q I1 q1
end
def SqL (K:Frag)(H:Hp)(a:Addr)(xs:List V):Prop:=
 Rd H a (.lst xs)\/
  ∃(o:Obj) (its:Array Value) (n:Nat),K.lookup a=some o/\o.cls=.type "list"/\o.dict=none/\o.data=.seq its n/\its.size<=sizeLine/\cA xs its.toList
def SqT (K:Frag)(H:Hp)(a:Addr)(xs:List V):Prop:=
 Rd H a (.tup xs)\/
  ∃(o:Obj) (its:Array Value) (n:Nat),K.lookup a=some o/\o.cls=.type "tuple"/\o.data=.seq its n/\its.size<=sizeLine/\cA xs its.toList
def qr9:Value->Option V
 | .none=>some .non
 | .bool b=>some (.bl b)
 | .int i _=>some (.int i)
 | .str x _=>some (.str x)
 | .bytes b _=>some (.byt b)
 | .float b _=>some (.flt b)
 | .ref a=>some (.ref a)
 | .type n=>some (.ty n)
 |_=>none
theorem cB.abs (r:cB x u):qr9 u=some x:=by
 cases x with
 |non=>cases r;rfl
 |bl _=>cases r;rfl
 |int _=>obtain⟨t,rfl⟩:=r;rfl
 |str _=>obtain⟨t,rfl⟩:=r;rfl
 |byt _=>obtain⟨t,rfl⟩:=r;rfl
 |flt _=>obtain⟨t,rfl⟩:=r;rfl
 |ref _=>cases r;rfl
 |ty _=>cases r;rfl
theorem cB.inj (r:cB x u)(q:cB y u):x=y:=Option.some.inj (r.abs.symm.trans q.abs)
theorem cA.inj:∀{xs ys:List V} {us:List Value},cA xs us->cA ys us->xs=ys
 |_,_,_,.nil,.nil=>rfl
 |_,_,_,.cons r t,.cons r' t'=>by rw[r.inj r',cA.inj t t']
section
variable {X:Cx} {pins:List (Addr × Obj)} {σ:St} {H:Hp} {s:Shared} {a:Addr} {xs ys:List V}
theorem SqL.of {K:Frag}(h:H a=some (.lst xs)):SqL K H a xs:=.inl (.inl h)
theorem SqT.of {K:Frag}(h:H a=some (.tup xs)):SqT K H a xs:=.inl (.inl h)
theorem Inv.list (I:Inv X pins σ H s)(h:SqL X.K H a xs):∃its:List Value,cA xs its/\PlainL s.heap a its.toArray/\xs.length<=sizeLine:=by
 rcases h with h | ⟨o,its,n,hk,hc,hd,hs,hz,r⟩
 ·obtain⟨z,its,n,r,e⟩:=h.ok I.hok;exact⟨its,r,⟨_,n,e,rfl,rfl,rfl⟩,z⟩
 ·refine⟨its.toList,r,⟨o,n,I.kIn a o hk,hc,hd,by simpa using hs⟩,?_⟩;have e:=r.length;simp only[Array.length_toList] at e;lia
theorem Inv.tuple (I:Inv X pins σ H s)(h:SqT X.K H a xs):∃its:List Value,cA xs its/\IsTup s.heap a its.toArray/\xs.length<=sizeLine:=by
 rcases h with h | ⟨o,its,n,hk,hc,hs,hz,r⟩
 ·obtain⟨z,its,r,p⟩:=h.ok I.hok;exact⟨its,r,p,z⟩
 ·refine⟨its.toList,r,⟨o,I.kIn a o hk,hc,n,by simpa using hs⟩,?_⟩;have e:=r.length;simp only[Array.length_toList] at e;lia
theorem Inv.list_inj (I:Inv X pins σ H s)(h:SqL X.K H a xs)(h':SqL X.K H a ys):xs=ys:=by
 obtain⟨its,r,⟨o,n,e,_,_,d⟩,_⟩:=I.list h;obtain⟨its',r',⟨o',n',e',_,_,d'⟩,_⟩:=I.list h';rw[e] at e';cases e';rw[d] at d';injection d' with d1 _
 have:its=its':=by simpa using congrArg Array.toList d1
 subst this;exact r.inj r'
end
abbrev Cx.wish (X:Cx)(E:Value->Shared->Prop):Cx:={ X with xe:=E }
abbrev Cx.nox (X:Cx):Cx:=X.wish λ_ _=>False
theorem Cx.Ok.wish {X:Cx}(ok:X.Ok)(E:Value->Shared->Prop):(X.wish E).Ok:=
 ⟨ok.mod,ok.kind,ok.glob,ok.blt,ok.above,ok.inj,ok.has,ok.cab,ok.hd,ok.frames,ok.stk,ok.exf,ok.bs,ok.bsz,ok.noex,ok.exfs,ok.funs,ok.frf⟩
theorem Cx.Ok.unwish {X:Cx}(ok:(X.wish E).Ok):X.Ok:=
 ⟨ok.mod,ok.kind,ok.glob,ok.blt,ok.above,ok.inj,ok.has,ok.cab,ok.hd,ok.frames,ok.stk,ok.exf,ok.bs,ok.bsz,ok.noex,ok.exfs,ok.funs,ok.frf⟩
section
variable {X:Cx} {pins:List (Addr × Obj)} {σ:St} {H:Hp} {s:Shared} {E:Value->Shared->Prop}
theorem Inv.wish (I:Inv X pins σ H s)(E:Value->Shared->Prop):Inv (X.wish E) pins σ H s:=⟨I.ok.wish E,I.os,I.bare,I.base,I.loc,I.cell,I.free,I.freeC,I.pin,I.hok,I.len⟩
theorem Inv.unwish (I:Inv (X.wish E) pins σ H s):Inv X pins σ H s:=⟨I.ok.unwish,I.os,I.bare,I.base,I.loc,I.cell,I.free,I.freeC,I.pin,I.hok,I.len⟩
theorem SP.unwish (h:SP (X.wish E) pins D f s'):SP X pins D f s':=by
 cases f with
 |next=>obtain⟨σ',H',I,q⟩:=h;exact⟨σ',H',I.unwish,q⟩
 |brk=>obtain⟨σ',H',I,q⟩:=h;exact⟨σ',H',I.unwish,q⟩
 |cont=>obtain⟨σ',H',I,q⟩:=h;exact⟨σ',H',I.unwish,q⟩
 |ret u=>obtain⟨v,σ',H',I,r,q⟩:=h;exact⟨v,σ',H',I.unwish,r,q⟩
theorem PSs.nox {st:List Stmt}(h:PSs X.nox st t):PSs X st t:=λpins s σ H D I hw=>
 wpAny_mono (h pins s σ H D (I.wish _) hw) (λ_ _ q=>q.unwish) λ_ _ z=>False.elim z
end
section
variable {X:Cx} {st:Stmt} {rest:List Stmt} {t u:TS} {e:Expr} {te:TE} {pos:Pos}
def qq2:TS:=λD σ H=>D.nx σ H
def kO (t u:TS):TS:=λD σ H=>t { D with nx:=u D } σ H
theorem bC:PSs X [] qq2:=λ_ _ σ H _ I h=>wpAny_execs_nil ⟨σ,H,I,h⟩
theorem aD (h1:PS X st t)(h2:PSs X rest u):PSs X (st :: rest) (kO t u):=by
 intro pins s σ H D I h;refine wpAny_execs_cons (thn (h1 pins s σ H { D with nx:=u D } I h) λf s1 q=>?_)
 cases f with
 |next=>
  obtain⟨σ',H',I',q⟩:=q;exact h2 pins s1 σ' H' D I' q
 |ret v=>exact q
 |brk=>exact q
 |cont=>exact q
theorem aF (h1:PS X st t):PSs X [st] t:=by
 intro pins s σ H D I h;refine wpAny_execs_cons (thn (h1 pins s σ H D I h) λf s1 q=>?_)
 cases f with
 |next=>exact wpAny_execs_nil q
 |ret v=>exact q
 |brk=>exact q
 |cont=>exact q
def qo7:TS:=λD σ H=>D.ct σ H
theorem Dh:PS X (.Continue pos) qo7:=λ_ _ σ H _ I h=>wpAny_Continue ⟨σ,H,I,h⟩
theorem Inv.quiet (I:Inv X pins σ H s):interactive X.env=false:=by simp[interactive,I.ok.kind]
def qp3 (te:TE):TS:=λD σ H=>te σ H λ_ H1=>D.nx σ H1
theorem bS (he:PE X e te)(hs:swapsWith e none pos.line X.env=pure false:=by rfl):PS X (.Expr e pos) (qp3 te):=by
 intro pins s σ H D I h;exact wpAny_Expr_any (thn (he pins s σ H _ I h) λv s1 ⟨x,H1,I1,r1,q1⟩=>⟨σ,H1,I1,q1⟩) I.quiet hs
def qr6 (te:TE):TS:=λD σ H=>te σ H D.rt
theorem aV (he:PE X e te):PS X (.Return (some e) pos) (qr6 te):=by
 intro pins s σ H D I h;exact wpAny_Return_some (thn (he pins s σ H _ I h) λv s1 ⟨x,H1,I1,r1,q1⟩=>⟨x,σ,H1,I1,r1,q1⟩)
def qr8 (c:TT)(t u:TS):TS:=λD σ H=>c σ H λb H1=>if b=true then t D σ H1 else u D σ H1
theorem bX (hc:PT X c tc)(ha:PSs X a t)(hb:PSs X b u):PS X (.If c a b pos) (qr8 tc t u):=by
 intro pins s σ H D I h;refine wpAny_If (thn (hc pins s σ H _ I h) λd s1 ⟨H1,I1,q1⟩=>?_)
 cases d with
 |true=>exact ha pins s1 σ H1 D I1 q1
 |false=>exact hb pins s1 σ H1 D I1 q1
def Qn:TS:=λ_ _ _=>False
theorem jH:PS X st Qn:=λ_ _ _ _ _ _ h=>h.elim
theorem Mo:PSs X sts Qn:=λ_ _ _ _ _ _ h=>h.elim
end
abbrev TG:=V->St->Hp->(St->Hp->Prop)->Prop
abbrev TGs:=List V->St->Hp->(St->Hp->Prop)->Prop
def PG (X:Cx)(target:Expr)(t:TG):Prop:=
 ∀(pins:List (Addr × Obj)) (s:Shared) (σ:St) (H:Hp) (v:V) (u:Value) (Q:St->Hp->Prop),Inv X pins σ H s->cB v u->t v σ H Q->
  wpAny (model X.prog X.w) X.A (assign target X.env u) (λ_ s'=>∃σ' H',Inv X pins σ' H' s'/\Q σ' H') X.xe s
def PGs (X:Cx)(ts:List Expr)(t:TGs):Prop:=
 ∀(pins:List (Addr × Obj)) (s:Shared) (σ:St) (H:Hp) (vs:List V) (us:List Value) (Q:St->Hp->Prop),Inv X pins σ H s->cA vs us->t vs σ H Q->
  wpAny (model X.prog X.w) X.A (assignInOrder ((assignEach ts X.env).map (·.2)) us) (λ_ s'=>∃σ' H',Inv X pins σ' H' s'/\Q σ' H') X.xe s
abbrev qc4:=V->V->V->Hp->(Hp->Prop)->Prop
def ql5 (X:Cx)(t:qc4):Prop:=
 ∀(pins:List (Addr × Obj)) (s:Shared) (σ:St) (H:Hp) (o i v:V) (ov iv u:Value) (Q:Hp->Prop),Inv X pins σ H s->cB o ov->cB i iv->cB v u->t o i v H Q->
  wpAny (model X.prog X.w) X.A (setItem ov iv u) (λ_ s'=>∃H',Inv X pins σ H' s'/\Q H') X.xe s
abbrev TIp:=V->V->Hp->VK->Prop
def PIp (X:Cx)(op:Operator)(t:TIp):Prop:=
 ∀(pins:List (Addr × Obj)) (s:Shared) (σ:St) (H:Hp) (x y:V) (v u:Value) (Q:VK),Inv X pins σ H s->cB x v->cB y u->t x y H Q->
  wpAny (model X.prog X.w) X.A (inplaceOp op v u) (EP X pins σ Q) X.xe s
section
variable {X:Cx} {pos:Pos}
def iF (i:Nat):TG:=λv σ H Q=>Q (σ.set i (some v)) H
theorem aZ (hN:X.N.Nodup)(hi:X.N[i]?=some x)(hx:Loc X.env.scope x)(hf:X.fn x=true\/X.env.scope.names.lookup x=some .local:=by first | exact .inl rfl | exact .inr rfl | assumption):PG X (.Name x pos) (iF i):=by
 intro pins s σ H v u Q I r h;exact wpAny_assign_Name (jZ I hN hi hx r (λs' I'=>⟨_,H,I',h⟩) hf)
def Eh:TGs:=λvs σ H Q=>vs=[]/\Q σ H
def jA (t:TG)(u:TGs):TGs:=λvs σ H Q=>∃v r,vs=v :: r/\t v σ H λσ' H'=>u r σ' H' Q
theorem gF:PGs X [] Eh:=by
 intro pins s σ H vs us Q I r h;obtain⟨e,h⟩:=h;subst e
 cases r
 exact assignInOrder_nil ⟨σ,H,I,h⟩
theorem bZ (h1:PG X e t)(h2:PGs X es u)(hs:(assignEach (e :: es) X.env).map (·.2)=assign e X.env :: (assignEach es X.env).map (·.2):=by rfl):PGs X (e :: es) (jA t u):=by
 intro pins s σ H vs us Q I r h;obtain⟨v,vr,e1,h⟩:=h;subst e1
 cases r with
 |cons r rr=>
  rw[hs];refine assignInOrder_cons (thn (h1 pins s σ H _ _ _ I r h) λ_ s1 ⟨σ1,H1,I1,q1⟩=>?_);exact h2 pins s1 σ1 H1 _ _ Q I1 rr q1
def Ef (K:Frag)(n:Nat)(t:TGs):TG:=λv σ H Q=>∃a xs,v=.ref a/\SqT K H a xs/\xs.length=n/\t xs σ H Q
theorem iJ (hc:X.calm=true)(h:PGs X es t)(hn:(assignEach es X.env).length=n:=by rfl)(hst:(assignEach es X.env).findIdx? (·.1)=none:=by rfl):PG X (.Tuple es k pos) (Ef X.K n t):=by
 intro pins s σ H v u Q I r hw;obtain⟨a,xs,e1,hq,hl,hw⟩:=hw;subst e1
 cases r
 obtain⟨its,rv,ht,hz⟩:=I.tuple hq;refine assign_Tuple_tuple (I.ok.hd hc) ht (by simp[hn,<- hl,rv.length]) hst λh' hx=>?_;have I1:Inv X pins σ H { s with heap:=h' }:=I.kept (t':=s.toks) λb o e=>hx b o (Nat.ne_of_lt (Heap.lt_size e)) e;exact h pins _ σ H xs _ Q I1 (by simpa using rv) hw
def qq7 (to ti:TE)(t:qc4):TG:=λv σ H Q=>to σ H λo H1=>ti σ H1 λi H2=>t o i v H2 λH3=>Q σ H3
theorem tK (ho:PE X o to)(hi:PE X i ti)(hs:ql5 X t)(ha:∀v,assign (.Subscript o i pos) X.env v=(do
   let ov <- holding [v] (eval o X.env)
   let iv <- holding [v,ov] (eval i X.env)
   standAt pos
   holding [v,ov,iv] (setItem ov iv v)
   release [v,ov,iv] []):=by intro _;rfl):PG X (.Subscript o i pos) (qq7 to ti t):=by
 intro pins s σ H v u Q I r h;rw[ha];refine wpAny_bind (wpAny_holding (thn (ho pins s σ H _ I h) λov s1 ⟨x,H1,I1,r1,q1⟩=>?_));refine wpAny_bind (wpAny_holding (thn (hi pins s1 σ H1 _ I1 q1) λiv s2 ⟨y,H2,I2,r2,q2⟩=>?_));refine wpAny_bind (wpAny_standAt (wpAny_bind (wpAny_holding (thn (hs pins s2 σ H2 x y v ov iv u _ I2 r1 r2 r q2) λ_ s3 ⟨H3,I3,q3⟩=>?_))));exact wpAny_release ⟨σ,H3,I3,q3⟩
def qb6 (te:TE)(g:TG):TS:=λD σ H=>te σ H λx H1=>g x σ H1 D.nx
theorem pJ (he:PE X e te)(hg:PG X tg g)(hs:swapsWithSole [tg] e pos.line X.env=pure false:=by rfl)(hw:swappedStores [tg] e X.env=pure none:=by rfl)(h1:(assignEach [tg] X.env).map (·.2)=[assign tg X.env]:=by rfl):PS X (.Assign [tg] e pos) (qb6 te g):=by
 intro pins s σ H D I h;refine wpAny_Assign_stores (thn (he pins s σ H _ I h) λv s1 ⟨x,H1,I1,r1,q1⟩=>?_) hs hw;rw[h1];exact thn (hg pins s1 σ H1 x v _ I1 r1 q1) λ_ s2 q=>q
theorem aQ (hN:X.N.Nodup)(hi:X.N[i]?=some x)(hx:Loc X.env.scope x)(he:PE X e te)(hs:swapsWith e (some (.Name x pos')) pos.line X.env=pure false:=by rfl)(hf:X.fn x=true\/X.env.scope.names.lookup x=some .local:=by first | exact .inl rfl | exact .inr rfl | assumption):
  PS X (.Assign [.Name x pos'] e pos) (qb6 te (iF i)):=by
 intro pins s σ H D I h;refine wpAny_Assign_Name (thn (he pins s σ H _ I h) λv s1 ⟨y,H1,I1,r1,q1⟩=>?_) hs;exact jZ I1 hN hi hx r1 (λs2 I2=>⟨_,H1,I2,q1⟩) hf
inductive Ya (i j:Nat) (D:kL) (σ:St) (vs:List V) (H1:Hp):Prop where
 |mk (v w):vs=[v,w]->D.nx ((σ.set i (some v)).set j (some w)) H1->Ya i j D σ vs H1
def qs1 (i j:Nat)(ta:TA):TS:=λD σ H=>ta σ H λvs H1=>Ya i j D σ vs H1
theorem Sy {kt k2 pt2}(hc:X.calm=true)(hN:X.N.Nodup)(hi:X.N[i]?=some x)(hj:X.N[j]?=some y)(hij:i≠j)(hx:X.env.scope.names.lookup x=some .local)(hy:X.env.scope.names.lookup y=some .local)(ha:PA X [a,b] ta)(hw:swappedStores [.Tuple [.Name x px,.Name y py] kt pt] (.Tuple [a,b] k2 pt2) X.env=pure (some [x,y]))(hs:swapsWithSole [.Tuple [.Name x px,.Name y py] kt pt] (.Tuple [a,b] k2 pt2) pos.line X.env=pure false:=by rfl):
  PS X (.Assign [.Tuple [.Name x px,.Name y py] kt pt] (.Tuple [a,b] k2 pt2) pos) (qs1 i j ta):=by
 intro pins s σ H D I h;rw[exec_Assign_arm];refine wpAny_bind (wpAny_standAt ?_);rw[hs];refine wpAny_bind (wpAny_pure ?_);rw[if_neg ∅];refine wpAny_bind (Tuple_ (thn (ha _ pins s σ H _ I h) λus s1 ⟨vs,H1,I1,r1,q1⟩=>?_));obtain⟨v,w,e1,q1⟩:=q1;subst e1;obtain⟨u1,u2,rfl,rv,rw'⟩:∃u1 u2,us=[u1,u2]/\cB v u1/\cB w u2:=by
  cases r1 with
  |cons p q=>
   cases q with
   |cons p' q'=>
    cases q'
    exact⟨_,_,rfl,p,p'⟩
 refine wpAny_newObj_type ?_ (by show 2<=sizeLine;decide);have I2:Inv X pins σ H1 { s1 with heap:=s1.heap.push { cls:=.type "tuple",data:=.seq [u1,u2].toArray } }:=I1.kept (t':=s1.toks) λb o e=>Heap.get?_push_of_some _ e;rw[hw];refine wpAny_bind (wpAny_pure ?_);show wpAny (model X.prog X.w) X.A (do rule "assign.swapped-stores";let items <- unpackItems (.ref s1.heap.objs.size) 2 none;assignInOrder [λv=>bindName X.env y v,λv=>bindName X.env x v] items.reverse;pure Flow.next) _ _ _;refine wpAny_bind (wpAny_rule (wpAny_bind (unpackItems_tuple (items:=#[u1,u2]) (I.ok.hd hc) (IsTup.new s1.heap _) λh' hx'=>?_)));have I3:=I2.kept (h':=h') (t':=s1.toks) λb o e=>hx' b o (Nat.ne_of_lt (Heap.lt_size e)) e;show wpAny _ _ (assignInOrder [λv=>bindName X.env y v,λv=>bindName X.env x v] [u2,u1] >>= λ_=>pure Flow.next) _ _ _;refine wpAny_bind (assignInOrder_cons (wpAny_bindName (jZ I3 hN hj (.inl hy) rw' (λs2 I4=>?_) (.inr hy))));refine assignInOrder_cons (wpAny_bindName (jZ I4 hN hi (.inl hx) rv (λs3 I5=>assignInOrder_nil (wpAny_pure ?_)) (.inr hx)));rw[set_comm _ _ (Ne.symm hij)] at I5;exact⟨_,H1,I5,q1⟩
def qt7 (i:Nat)(te:TE)(ti:TIp):TS:=λD σ H=>∃x,σ[i]?=some (some x)/\te σ H λy H1=>ti x y H1 λz H2=>D.nx (σ.set i (some z)) H2
theorem Pl (hN:X.N.Nodup)(hi:X.N[i]?=some x)(hx:Loc X.env.scope x)(he:PE X e te)(ho:PIp X op ti)(hf:X.fn x=true\/X.env.scope.names.lookup x=some .local:=by first | exact .inl rfl | exact .inr rfl | assumption):
  PS X (.AugAssign (.Name x pos') op e pos) (qt7 i te ti):=by
 intro pins s σ H D I h;obtain⟨v,e1,h⟩:=h;obtain⟨m,hn,hl⟩:=I.loc;have vis:Vis X.env.scope x:=by rcases hx with k | k;exact .inl k;exact .inr (.inl k)
 obtain⟨u,r,l⟩:=hl i x v hi e1 vis;refine wpAny_AugAssign_Name ?_;have go:wpAny (model X.prog X.w) X.A (eval e X.env) (λw s₂=>wpAny (model X.prog X.w) X.A (inplaceOp op u w) (λr s₃=>wpAny (model X.prog X.w) X.A (storeName X.env x r) (λ_=>SP X pins D .next) X.xe s₃) X.xe s₂) X.xe s:=by
  refine thn (he pins s σ H _ I h) λw s1 ⟨y,H1,I1,r1,q1⟩=>?_;refine thn (ho pins s1 σ H1 v y u w _ I1 r r1 q1) λz s2 ⟨zv,H2,I2,r2,q2⟩=>?_;exact jZ I2 hN hi hx r2 (λs3 I3=>⟨_,H2,I3,q2⟩) hf
 rcases l with ⟨hk,hm⟩ | ⟨hk,c,hc,hcell⟩
 ·exact wpAny_loadName_local I.ok.kind hk hn hm go
 ·rcases hk with hk | hk
  ·exact wpAny_loadName_cell I.ok.kind hk hc hcell go
  ·rcases hx with k | k
   ·have:X.env.scope.names.lookup x=some .free:=hk;rw[k] at this;cases this
   ·have:X.env.scope.names.lookup x=some .free:=hk;rw[k] at this;cases this
def ipI (f:Int->Int->Int):TIp:=λx y H Q=>∃i j,x=.int i/\y=.int j/\Q (.int (f i j)) H
theorem Qr:PIp X .Add (ipI λi j=>i+j):=by
 intro pins s σ H x y v u Q I r1 r2 h;obtain⟨i,j,e1,e2,q⟩:=h;subst e1;subst e2;obtain⟨t,rfl⟩:=r1;obtain⟨t',rfl⟩:=r2;exact iadd_int ⟨.int _,H,I.tok _,⟨_,rfl⟩,q⟩
def Rz (c:TT)(tb:TS):TS:=λD σ H=>∃W:Nat->St->Hp->Prop,(∃m,W m σ H)/\∀m σ H,W m σ H->
 c σ H λb H1=>if b=true then ∃N:St->Hp->Prop,(∀σ' H',N σ' H'->∃m',m' < m/\W m' σ' H')/\tb { D with nx:=N,ct:=N,bk:=D.nx } σ H1 else D.nx σ H1
theorem xW (hp:PassesOwn (model X.prog X.w) X.A X.env X.xe)(hc:PT X c tc)(hb:PSs X body tb):PS X (.While c body [] pos) (Rz tc tb):=by
 intro pins s σ H D I h;obtain⟨W,⟨m0,w0⟩,turn⟩:=h;refine wpAny_While (codeAny_whileLoop (λn s'=>∃σ' H',Inv X pins σ' H' s'/\W n σ' H') ?_ m0 ⟨σ,H,I,w0⟩);rintro n s1 ⟨σ1,H1,I1,w1⟩;refine wpAny_passesOwn hp (thn (hc pins s1 σ1 H1 _ I1 (turn n σ1 H1 w1)) λb s2 ⟨H2,I2,q2⟩=>?_)
 cases b with
 |true=>
  obtain⟨N,hN,q2⟩:=q2;rw[if_pos rfl];refine wpAny_passesOwn hp (thn (hb pins s2 σ1 H2 _ I2 q2) λf s3 q3=>?_)
  cases f with
  |next=>
   obtain⟨σ3,H3,I3,n3⟩:=q3;obtain⟨m',hm,w3⟩:=hN σ3 H3 n3;exact⟨m',hm,σ3,H3,I3,w3⟩
  |cont=>
   obtain⟨σ3,H3,I3,n3⟩:=q3;obtain⟨m',hm,w3⟩:=hN σ3 H3 n3;exact⟨m',hm,σ3,H3,I3,w3⟩
  |brk=>exact q3
  |ret v=>exact q3
 |false=>
  rw[if_neg Bool.false_ne_true];exact wpAny_execs_nil ⟨σ1,H2,I2,q2⟩
end
structure It where
 go:Nat->Hp->Prop
 yld:Nat->Hp->V->Hp->Prop
 stop:Nat->Hp->Prop
def oQ (X:Cx)(pins:List (Addr × Obj))(H:Hp)(b:Addr):Prop:=
 H b=none/\b≠X.env.locals/\b∉X.fs/\(b∈X.ex\/X.s₀.heap.objs.size<=b)/\(∀x c,X.env.cells.lookup x=some c->c≠b)/\∀p∈X.pn++pins,p.1≠b
theorem Inv.fpOk (I:Inv X pins σ H s)(hb:s.heap.objs.size<=b)(hn:H' b=none):oQ X pins H' b:=by
 refine⟨hn,Nat.ne_of_gt (Nat.lt_of_lt_of_le I.lt hb),I.nofs hb,.inr (Nat.le_trans I.sz hb),λx c e z=>?_,λp hp z=>?_⟩
 ·obtain⟨v,q⟩:=I.cell x c e;exact absurd (Nat.lt_of_lt_of_le q.lt (by rw[z];exact hb)) (Nat.lt_irrefl _)
 ·exact absurd (Nat.lt_of_lt_of_le (Heap.lt_size (I.pin p hp).1) (by rw[z];exact hb)) (Nat.lt_irrefl _)
structure Oq (P:Program) (w:World) (K:Frag) (tg:Expr) (J:It) (fp:List Addr) (it:Addr) (tn:Nat->Heap->Prop):Prop where
 mem:it∈fp
 obj:∀i h,tn i h->∀b∈fp,∃o,h.get? b=some o/\∀v,o.data≠.cell v
 keep:∀i h h',tn i h->(∀b∈fp,∀o,h.get? b=some o->h'.get? b=some o)->tn i h'
 item:∀(X:Cx),X.prog=P->X.w=w->X.K=K->X.calm=true->∀(i:Nat) (pins:List (Addr × Obj)) (s:Shared) (σ:St) (H:Hp) (E:Value->Shared->Prop),Inv X pins σ H s->(∀b∈fp,oQ X pins H b)->tn i s.heap->J.go i H->
  wpAny (model P w) X.A (pyNext (.ref it)) (λr s1=>∃u,r=some u/\
   wpAny (model P w) X.A (letOwnedTupleGo tg (.ref it) u) (λ_ s2=>∃x H',Inv X pins σ H' s2/\cB x u/\J.yld i H x H'/\tn (i+1) s2.heap/\∀b∈fp,H' b=none) E s1) E s
 done:∀(X:Cx),X.prog=P->X.w=w->X.K=K->X.calm=true->∀(i:Nat) (pins:List (Addr × Obj)) (s:Shared) (σ:St) (H:Hp) (E:Value->Shared->Prop),Inv X pins σ H s->(∀b∈fp,oQ X pins H b)->tn i s.heap->J.stop i H->
  wpAny (model P w) X.A (pyNext (.ref it)) (λr s1=>r=none/\Inv X pins σ H s1) E s
 self:∀(A:Around) (i:Nat) (s:Shared) (Q:Value->Shared->Prop) (E:Value->Shared->Prop),tn i s.heap->Q (.ref it) s->wpAny (model P w) A (pyIter (.ref it)) Q E s
abbrev TI:=St->Hp->(It->Hp->Prop)->Prop
def PIE (X:Cx)(pins:List (Addr × Obj))(σ:St)(tg:Expr)(R:It->Hp->Prop)(itv:Value)(s2:Shared):Prop:=
 ∃(it:Addr) (fp:List Addr) (tn:Nat->Heap->Prop) (J:It) (H':Hp),itv=.ref it/\Inv X pins σ H' s2/\Oq X.prog X.w X.K tg J fp it tn/\tn 0 s2.heap/\(∀b∈fp,oQ X pins H' b)/\R J H'
def PI (X:Cx)(tg iter:Expr)(wi:TI):Prop:=
 ∀(pins:List (Addr × Obj)) (s:Shared) (σ:St) (H:Hp) (R:It->Hp->Prop),Inv X pins σ H s->wi σ H R->
  wpAny (model X.prog X.w) X.A (eval iter X.env) (λv s1=>wpAny (model X.prog X.w) X.A (pyIter v) (PIE X pins σ tg R) X.xe s1) X.xe s
theorem Xz (ho : s.heap.get? it = some o)(hc : o.cls = .type n)(hd : o.data = .fields vs)(hn : ["enumerate", "zip", "dict_itemiterator", "dict_reverseitemiterator", "odict_iterator", "itertools.zip_longest", "itertools.pairwise"].contains n = false)(hQ : Q .unit s): wpAny M A (letOwnedTupleGo tg (.ref it) u) Q E s := by
  unfold letOwnedTupleGo
  cases tg <;> first
    | exact wpAny_pure hQ
    | (cases u <;> first
        | exact wpAny_pure hQ
        | (refine wpAny_bind (wpAny_load ho ?_)
           rw [hc, hd];show wpAny M A (if (["enumerate", "zip", "dict_itemiterator", "dict_reverseitemiterator", "odict_iterator", "itertools.zip_longest", "itertools.pairwise"].contains n && vs[0]? == some (rawInt _)) = true then _ else _) Q E s;rw [if_neg (by intro h; rw [hn, Bool.false_and] at h; cases h)];exact wpAny_pure hQ))
def Itl (K:Frag)(a:Addr):It:=
 ⟨λi H=>∃xs x,SqL K H a xs/\xs[i]?=some x,λi H x H'=>H'=H/\∀xs,SqL K H a xs->xs[i]?=some x,λi H=>∃xs,SqL K H a xs/\xs.length<=i⟩
def Itr (lo:Int)(n:Nat):It:=⟨λi _=>i < n,λi H x H'=>H'=H/\x=.int (lo+i),λi _=>n<=i⟩
theorem Ng {K:Frag}(a it:Addr):Oq P w K tg (Itl K a) [it] it (λi h=>h.IsListIter it a i) where
 mem:=by simp
 obj:=λi h st b hb=>by
  have e:b=it:=by simpa using hb
  subst e;obtain⟨o,e,c,d⟩:=st;exact⟨o,e,λv z=>by rw[d] at z;cases z⟩
 keep:=λi h h' st k=>st.at λo e=>k it ⋯ o e
 item:=by
  intro X hP hw hK hc i pins s σ H E I hf st hg;subst hP hw hK;obtain⟨xs,x,hq,hx⟩:=hg;obtain⟨its,rv,p,hz⟩:=I.list hq;obtain⟨u,hu,ru⟩:=rv.get hx;obtain⟨f0,f1,f2,f3,f4,f5⟩:=hf it ⋯;refine wpAny_pyNext_list_item st p.isList (x:=u) (by simpa using hu) λh' st' sb=>?_;have I1:Inv X pins σ H { s with heap:=h' }:=I.turned (t':=s.toks) (λb o hb e=>(sb.2 b hb).trans e) f0 f1 f3 f4 f5;obtain⟨o,e,c,d⟩:=id st';exact⟨u,rfl,Xz (s:={ s with heap:=h' }) e c d ∅ ⟨x,H,I1,ru,⟨rfl,λys hy=>by rw[I.list_inj hy hq];exact hx⟩,st',λb hb=>(hf b hb).1⟩⟩
 done:=by
  intro X hP hw hK hc i pins s σ H E I hf st hg;subst hP hw hK;obtain⟨xs,hq,hx⟩:=hg;obtain⟨its,rv,p,hz⟩:=I.list hq;obtain⟨f0,f1,f2,f3,f4,f5⟩:=hf it ⋯;have hl:=rv.length;exact wpAny_pyNext_list_end (I.ok.hd hc) st p.isList (by simp;lia) λh' eb=>⟨rfl,I.turned (t':=s.toks) (λb o hb e=>eb b o hb e) f0 f1 f3 f4 f5⟩
 self:=λ_ _ _ _ _ st h=>wpAny_pyIter_listiter st h
theorem Hs {K:Frag}(it:Addr)(lo:Int)(n:Nat):Oq P w K tg (Itr lo n) [it] it (λi h=>IsRangeIter h it (lo+(i:Nat)*1) ((n:Int) - (i:Nat)) 1) where
 mem:=by simp
 obj:=λi h st b hb=>by
  have e:b=it:=by simpa using hb
  subst e;exact⟨_,st,λv z=>by
   have z':Data.fields _=Data.cell v:=z
   cases z'⟩
 keep:=λi h h' st k=>k it ⋯ _ st
 item:=by
  intro X hP hw hK hc i pins s σ H E I hf st hg;subst hP hw hK;obtain⟨f0,f1,f2,f3,f4,f5⟩:=hf it ⋯;have W:=Walks.range (prog:=X.prog) (w:=X.w) (I.ok.hd hc) it lo 1 n;refine W.item i s _ _ hg st λv h' tk hv st' kk=>?_;obtain⟨t,rfl⟩:=hv;have I1:Inv X pins σ H { s with heap:=h',toks:=tk }:=I.turned (λb o hb e=>kk b o (by simpa using hb) e) f0 f1 f3 f4 f5;refine⟨_,rfl,Xz (s:={ s with heap:=h',toks:=tk }) (n:="range_iterator") st' rfl rfl ∅ ⟨.int (lo+i),H,I1,⟨t,?_⟩,⟨rfl,rfl⟩,st',λb hb=>(hf b hb).1⟩⟩;rw[Int.mul_one]
 done:=by
  intro X hP hw hK hc i pins s σ H E I hf st hg;subst hP hw hK;obtain⟨f0,f1,f2,f3,f4,f5⟩:=hf it ⋯;exact wpAny_pyNext_range_end (I.ok.hd hc) st (by have:n<=i:=hg;lia) λh' eb=>⟨rfl,I.turned (t':=s.toks) (λb o hb e=>eb b o hb e) f0 f1 f3 f4 f5⟩
 self:=λ_ _ _ _ _ st h=>wpAny_pyIter_rangeiter st h
section
variable {X:Cx} {tg:Expr}
def qj4 (K:Frag)(tl:TE):TI:=λσ H R=>tl σ H λx H1=>∃a,x=.ref a/\(∃xs,SqL K H1 a xs)/\R (Itl K a) H1
theorem cE (hl:PE X l tl):PI X tg l (qj4 X.K tl):=by
 intro pins s σ H R I h;refine thn (hl pins s σ H _ I h) λv s1 ⟨x,H1,I1,r1,q1⟩=>?_;obtain⟨a,e,⟨xs,hq⟩,q⟩:=q1;subst e
 cases r1
 obtain⟨its,rv,p,hz⟩:=I1.list hq;refine wpAny_pyIter_list p.isList ?_;refine⟨s1.heap.objs.size,[s1.heap.objs.size],_,_,H1,rfl,I1.kept (t':=s1.toks) λb o e=>Heap.get?_push_of_some _ e,Ng a _,⟨_,Heap.get?_push_size _ rfl,rfl,rfl⟩,λb hb=>?_,q⟩;have e:b=s1.heap.objs.size:=by simpa using hb
 subst e;exact I1.fpOk (Nat.le_refl _) (I1.hok.fresh (Nat.le_refl _))
theorem Dr {lo hi:Int}(I:Inv X pins σ H s)(h1:-(2 ^ 62)<=lo)(h2:lo < 2 ^ 62)(h3:-(2 ^ 62)<=hi)(h4:hi < 2 ^ 62)(q:R (Itr lo (hi - lo).toNat) H):wpAny (model X.prog X.w) X.A (pyIter (.ref s.heap.objs.size)) (PIE X pins σ tg R) E { s with heap:=s.heap.push { cls:=.type "range",data:=.fields #[.int lo t,.int hi u,.int 1 v] },toks:=tk }:=by
 refine wpAny_pyIter_range (IsRange.new ..) (small_one h1 h2 h3 h4) ?_;have I1:Inv X pins σ H { s with heap:=s.heap.push { cls:=.type "range",data:=.fields #[.int lo t,.int hi u,.int 1 v] },toks:=tk }:=I.kept λb o e=>Heap.get?_push_of_some _ e;refine⟨(s.heap.push { cls:=.type "range",data:=.fields #[.int lo t,.int hi u,.int 1 v] }).objs.size,[(s.heap.push { cls:=.type "range",data:=.fields #[.int lo t,.int hi u,.int 1 v] }).objs.size],_,_,H,rfl,
  I1.kept (t':=tk) λb o e=>Heap.get?_push_of_some _ e,Hs _ lo (hi - lo).toNat,?_,λb hb=>?_,q⟩
 ·have e1:lo+((0:Nat):Int)*1=lo:=by simp
  have e2:(((hi - lo).toNat:Nat):Int) - ((0:Nat):Int)=Builtin.Range.rangeSize lo hi 1:=by rw[rangeSize_one];split<;>lia
  show IsRangeIter _ _ (lo+((0:Nat):Int)*1) ((((hi - lo).toNat:Nat):Int) - ((0:Nat):Int)) 1;rw[e1,e2];exact Heap.get?_push_size _ rfl
 ·have e:b=(s.heap.push { cls:=.type "range",data:=.fields #[.int lo t,.int hi u,.int 1 v] }).objs.size:=by simpa using hb
  subst e;exact I1.fpOk (Nat.le_refl _) (I1.hok.fresh (Nat.le_refl _))
def qm5 (ta:TA):TI:=λσ H R=>ta σ H λvs H1=>∃j:Int,vs=[.int j]/\-(2 ^ 62)<=j/\j < 2 ^ 62/\R (Itr 0 j.toNat) H1
def qk4 (ta:TA):TI:=λσ H R=>ta σ H λvs H1=>∃i j:Int,vs=[.int i,.int j]/\(-(2 ^ 62)<=i/\i < 2 ^ 62/\-(2 ^ 62)<=j/\j < 2 ^ 62)/\R (Itr i (j - i).toNat) H1
theorem eZ (hg:Gl X "range")(hm:X.mg "range"=none)(ha:PA X [a] ta)(hs:starEach [a] X.env=[(false,eval a X.env)]:=by rfl):PI X tg (.Call (.Name "range" p) [a] [] pos) (qm5 ta):=by
 intro pins s σ H R I h;refine Call_ (jV I hg hm boot_range (PyProof.Rows.callWith_type1 (thn (ha pos pins s σ H _ I h) λus s1 ⟨vs,H1,I1,r1,q1⟩=>?_) hs rfl));obtain⟨j,e,q1,q2,q⟩:=q1;subst e
 cases r1 with
 |cons r rr=>
  cases rr
  obtain⟨t,rfl⟩:=r;exact call_range_1 (Dr I1 () () q1 q2 (by simpa using q))
theorem Me (hg:Gl X "range")(hm:X.mg "range"=none)(ha:PA X [a,b] ta)(hs:starEach [a,b] X.env=[(false,eval a X.env),(false,eval b X.env)]:=by rfl)(hs2:starEach [b] X.env=[(false,eval b X.env)]:=by rfl):
  PI X tg (.Call (.Name "range" p) [a,b] [] pos) (qk4 ta):=by
 intro pins s σ H R I h;refine Call_ (jV I hg hm boot_range (PyProof.Rows.callWith_type1 (thn (ha pos pins s σ H _ I h) λus s1 ⟨vs,H1,I1,r1,q1⟩=>?_) (by rw[hs,hs2]) (by rw[hs2];rfl)));obtain⟨i,j,e,⟨q1,q2,q3,q4⟩,q⟩:=q1;subst e
 cases r1 with
 |cons r rr=>
  cases rr with
  |cons r' rr=>
   cases rr
   obtain⟨t,rfl⟩:=r;obtain⟨t',rfl⟩:=r';exact call_range_2 (Dr I1 q1 q2 q3 q4 q)
def qt4 (wi:TI)(g:TG)(tb:TS):TS:=λD σ H=>wi σ H λJ H1=>∃W:Nat->Nat->St->Hp->Prop,(∃m,W 0 m σ H1)/\∀i m σ H,W i m σ H->
 (J.stop i H/\D.nx σ H)\/(J.go i H/\∃N:St->Hp->Prop,(∀σ' H',N σ' H'->∃m',m' < m/\W (i+1) m' σ' H')/\∀x H',J.yld i H x H'->g x σ H' λσ2 H2=>tb { D with nx:=N,ct:=N,bk:=D.nx } σ2 H2)
def xG (fp:List Addr)(h:Heap):List (Addr × Obj):=fp.filterMap λb=>(h.get? b).map λo=>(b,o)
theorem lL (hb:b∈fp)(e:h.get? b=some o):(b,o)∈xG fp h:=mem_filterMap.mpr ⟨b,hb,by rw[e];rfl⟩
theorem Ly (hp:p∈xG fp h):p.1∈fp/\h.get? p.1=some p.2:=by
 obtain⟨b,hb,e⟩:=mem_filterMap.mp hp
 cases q:h.get? b with
 |none=>rw[q] at e;cases e
 |some o=>
  rw[q] at e;have e':(b,o)=p:=Option.some.inj e;subst e';exact⟨hb,q⟩
theorem Inv.pinned (I:Inv X pins σ H s)(hf:∀b∈fp,oQ X pins H b)(ho:∀b∈fp,∃o,s.heap.get? b=some o/\∀v,o.data≠.cell v):Inv X (pins++xG fp s.heap) σ H s:=
 I.pins_of λp hp=>(mem_append.mp hp).elim (λz=>I.pin p (mem_append_right _ z)) λz=>by
  obtain⟨hb,e⟩:=Ly z;obtain⟨f0,f1,f2,_⟩:=hf p.1 hb;obtain⟨o,e',d⟩:=ho p.1 hb;rw[e] at e';cases e';exact⟨e,f0,f1,f2,d⟩
theorem Inv.unpinned (I:Inv X (pins++pl) σ H s):Inv X pins σ H s:=I.pins_of λp hp=>I.pin p (mem_append_right _ (mem_append_left _ hp))
theorem dQ {iter:Expr}(hp:PassesOwn (model X.prog X.w) X.A X.env X.xe)(hc:X.calm=true)(hi:PI X tg iter wi)(hg:PG X tg g)(hb:PSs X body tb)(hs:∀x,foldedSetIterable iter X.env x=pure x:=by intro _;rfl):PS X (.For tg iter body [] pos) (qt4 wi g tb):=by
 intro pins s σ H D I h;refine wpAny_For (thn (hi pins s σ H _ I h) λv s1 h1=>thn h1 λitv s2 h2=>?_) hs;obtain⟨it,fp,tn,J,H2,e,I2,T,st2,f2,W,⟨m0,w0⟩,turn⟩:=h2;subst e;have stat:∀{H':Hp},(∀b∈fp,H' b=none)->∀b∈fp,oQ X pins H' b:=λhn b hb=>⟨hn b hb,(f2 b hb).2⟩
 refine codeAny_forLoop_any (λn s'=>∃i σ' H',Inv X pins σ' H' s'/\tn i s'.heap/\(∀b∈fp,H' b=none)/\W i n σ' H') ?_ m0 ⟨0,σ,H2,I2,st2,λb hb=>(f2 b hb).1,w0⟩;rintro n s3 ⟨i,σ3,H3,I3,st3,fr3,w3⟩;rcases turn i n σ3 H3 w3 with ⟨stop,qn⟩ | ⟨go,N,hN,step⟩
 ·refine wpAny_passesOwn hp (thn (T.done X rfl rfl rfl hc i pins s3 σ3 H3 X.xe I3 (stat fr3) st3 stop) λr s4 ⟨hr,I4⟩=>?_);subst hr;exact wpAny_execs_nil ⟨σ3,H3,I4,qn⟩
 ·refine wpAny_passesOwn hp (thn (T.item X rfl rfl rfl hc i pins s3 σ3 H3 X.xe I3 (stat fr3) st3 go) λr s4 ⟨u,hr,h4⟩=>?_);subst hr;refine wpAny_passesOwn hp (thn h4 λ_ s5 ⟨x,H5,I5,r5,y5,st5,fr5⟩=>?_);have I5':=I5.pinned (stat fr5) (T.obj _ _ st5);refine wpAny_passesOwn hp (thn (hg _ s5 σ3 H5 x u _ I5' r5 (step x H5 y5)) λ_ s6 ⟨σ6,H6,I6,q6⟩=>?_);refine wpAny_passesOwn hp (thn (hb _ s6 σ6 H6 _ I6 q6) λf s7 q7=>?_);have again:∀{σ7:St} {H7:Hp},Inv X (pins++xG fp s5.heap) σ7 H7 s7->N σ7 H7->∃m,m < n/\∃i σ' H',Inv X pins σ' H' s7/\tn i s7.heap/\(∀b∈fp,H' b=none)/\W i m σ' H':=λ{σ7 H7} I7 n7=>by
   obtain⟨m',hm,w7⟩:=hN σ7 H7 n7;refine⟨m',hm,i+1,σ7,H7,I7.unpinned,T.keep _ _ _ st5 λb hb o e=>(I7.pin (b,o) (mem_append_right _ (mem_append_right _ (lL hb e)))).1,λb hb=>?_,w7⟩;obtain⟨o,e,d⟩:=T.obj _ _ st5 b hb;exact(I7.pin (b,o) (mem_append_right _ (mem_append_right _ (lL hb e)))).2.1
  cases f with
  |next=>obtain⟨σ7,H7,I7,n7⟩:=q7;exact again I7 n7
  |cont=>obtain⟨σ7,H7,I7,n7⟩:=q7;exact again I7 n7
  |brk=>obtain⟨σ7,H7,I7,q7⟩:=q7;exact⟨σ7,H7,I7.unpinned,q7⟩
  |ret v=>obtain⟨x7,σ7,H7,I7,r7,q7⟩:=q7;exact⟨x7,σ7,H7,I7.unpinned,r7,q7⟩
end
theorem dX {K:Frag}{g:TG}{tb:TS}{D:kL}(Pv:Nat->St->Hp->Prop)(h0:Pv 0 σ H)(hl:∀i σ H,i<=xs.length->Pv i σ H->SqL K H a xs)(hs:∀i x σ H,xs[i]?=some x->Pv i σ H->g x σ H λσ2 H2=>tb { D with nx:=Pv (i+1),ct:=Pv (i+1),bk:=D.nx } σ2 H2)(hd:∀σ H,Pv xs.length σ H->D.nx σ H):
  ∃W:Nat->Nat->St->Hp->Prop,(∃m,W 0 m σ H)/\∀i m σ H,W i m σ H->
   ((Itl K a).stop i H/\D.nx σ H)\/((Itl K a).go i H/\∃N:St->Hp->Prop,(∀σ' H',N σ' H'->∃m',m' < m/\W (i+1) m' σ' H')/\∀x H',(Itl K a).yld i H x H'->g x σ H' λσ2 H2=>tb { D with nx:=N,ct:=N,bk:=D.nx } σ2 H2):=by
 refine⟨λi m σ H=>m=xs.length - i/\i<=xs.length/\Pv i σ H,⟨xs.length,⋯,Nat.zero_le _,h0⟩,?_⟩;rintro i m σ H ⟨rfl,hi,p⟩;have q:=hl i σ H hi p
 by_cases hlt:i < xs.length
 ·refine .inr ⟨⟨xs,xs[i],q,by simp[hlt]⟩,Pv (i+1),λσ' H' p'=>⟨xs.length - (i+1),(),rfl,hlt,p'⟩,λx H' y=>?_⟩;obtain⟨e,y⟩:=y;subst e;exact hs i x σ _ (y xs q) p
 ·have e:i=xs.length:=by lia
  subst e;exact .inl ⟨⟨xs,q,Nat.le_refl _⟩,hd σ H p⟩
theorem gU {lo:Int}{g:TG}{tb:TS}{D:kL}(Pv:Nat->St->Hp->Prop)(h0:Pv 0 σ H)(hs:∀i σ H,i < n->Pv i σ H->g (.int (lo+i)) σ H λσ2 H2=>tb { D with nx:=Pv (i+1),ct:=Pv (i+1),bk:=D.nx } σ2 H2)(hd:∀σ H,Pv n σ H->D.nx σ H):
  ∃W:Nat->Nat->St->Hp->Prop,(∃m,W 0 m σ H)/\∀i m σ H,W i m σ H->
   ((Itr lo n).stop i H/\D.nx σ H)\/((Itr lo n).go i H/\∃N:St->Hp->Prop,(∀σ' H',N σ' H'->∃m',m' < m/\W (i+1) m' σ' H')/\∀x H',(Itr lo n).yld i H x H'->g x σ H' λσ2 H2=>tb { D with nx:=N,ct:=N,bk:=D.nx } σ2 H2):=by
 refine⟨λi m σ H=>m=n - i/\i<=n/\Pv i σ H,⟨n,⋯,Nat.zero_le _,h0⟩,?_⟩;rintro i m σ H ⟨rfl,hi,p⟩
 by_cases hlt:i < n
 ·refine .inr ⟨hlt,Pv (i+1),λσ' H' p'=>⟨n - (i+1),(),rfl,hlt,p'⟩,λx H' y=>?_⟩;obtain⟨e,y⟩:=y;subst e y;exact hs i σ _ hlt p
 ·have e:i=n:=by lia
  subst e;exact .inl ⟨Nat.le_refl _,hd σ H p⟩
theorem xE (Pv:St->Hp->Prop)(μ:St->Hp->Nat)(h0:Pv σ H)(hs:∀σ H,Pv σ H->c σ H λb H1=>if b=true then tb { D with nx:=λσ' H'=>Pv σ' H'/\μ σ' H' < μ σ H,ct:=λσ' H'=>Pv σ' H'/\μ σ' H' < μ σ H,bk:=D.nx } σ H1 else D.nx σ H1)(mono:∀σ H Q Q',(∀b H1,Q b H1->Q' b H1)->c σ H Q->c σ H Q'):Rz c tb D σ H:=by
 refine⟨λm σ H=>m=μ σ H/\Pv σ H,⟨_,rfl,h0⟩,?_⟩;rintro m σ H ⟨rfl,p⟩;refine mono σ H _ _ (λb H1 q=>?_) (hs σ H p)
 cases b with
 |true=>exact⟨_,λσ' H' ⟨p',l⟩=>⟨_,l,rfl,p'⟩,q⟩
 |false=>exact q
abbrev R2:=V->V->Hp->VK->Prop
def OpR (X:Cx)(f:Value->Value->Sem Value)(r:R2):Prop:=
 ∀(pins:List (Addr × Obj)) (s:Shared) (σ:St) (H:Hp) (x y:V) (v u:Value) (Q:VK),Inv X pins σ H s->cB x v->cB y u->r x y H Q->
  wpAny (model X.prog X.w) X.A (f v u) (EP X pins σ Q) X.xe s
def UnR (X:Cx)(f:Value->Sem Value)(r:V->Hp->VK->Prop):Prop:=
 ∀(pins:List (Addr × Obj)) (s:Shared) (σ:St) (H:Hp) (x:V) (v:Value) (Q:VK),Inv X pins σ H s->cB x v->r x H Q->
  wpAny (model X.prog X.w) X.A (f v) (EP X pins σ Q) X.xe s
def kC (X:Cx)(f:Value)(r:List V->Hp->VK->Prop):Prop:=
 ∀(pins:List (Addr × Obj)) (s:Shared) (σ:St) (H:Hp) (xs:List V) (us:List Value) (Q:VK),Inv X pins σ H s->cA xs us->r xs H Q->
  wpAny (model X.prog X.w) X.A (call f us) (EP X pins σ Q) X.xe s
def tOp (r:R2)(ta tb:TE):TE:=λσ H Q=>ta σ H λx H1=>tb σ H1 λy H2=>r x y H2 Q
def tUn (r:V->Hp->VK->Prop)(ta:TE):TE:=λσ H Q=>ta σ H λx H1=>r x H1 Q
inductive rI (C:Int->Int->Prop) (g:Int->Int->V) (x:V) (y:V) (H:Hp) (Q:VK):Prop where
 |mk (i j):x=.int i->y=.int j->C i j->Q (g i j) H->rI C g x y H Q
inductive rI0 (g:Int->Int->V) (x:V) (y:V) (H:Hp) (Q:VK):Prop where
 |mk (i j):x=.int i->y=.int j->Q (g i j) H->rI0 g x y H Q
inductive rU (g:Int->V) (x:V) (H:Hp) (Q:VK):Prop where
 |mk (i):x=.int i->Q (g i) H->rU g x H Q
section
variable {X:Cx} {a b c:Expr} {ta tb tc:TE} {pos:Pos}
theorem Zf (ha:PE X a ta)(hb:PE X b tb){R:V->V->Hp->Prop}(I:Inv X pins σ H s)(h:ta σ H λx H1=>tb σ H1 λy H2=>R x y H2){f:Value->Value->Sem Value}(hf:∀v u s2 x y H2,Inv X pins σ H2 s2->cB x v->cB y u->R x y H2->wpAny (model X.prog X.w) X.A (f v u) Q X.xe s2):
  wpAny (model X.prog X.w) X.A (eval a X.env) (λv s₁=>wpAny (model X.prog X.w) X.A (eval b X.env) (λu s₂=>wpAny (model X.prog X.w) X.A (f v u) Q X.xe s₂) X.xe s₁) X.xe s:=by
 refine thn (ha pins s σ H _ I h) λv s1 ⟨x,H1,I1,r1,q1⟩=>?_;refine thn (hb pins s1 σ H1 _ I1 q1) λu s2 ⟨y,H2,I2,r2,q2⟩=>?_;exact hf v u s2 x y H2 I2 r1 r2 q2
theorem bB (ho:OpR X (binaryOp op) r)(ha:PE X a ta)(hb:PE X b tb):PE X (.BinOp a op b pos) (tOp r ta tb):=by
 intro pins s σ H Q I h;exact wpAny_BinOp (Zf ha hb I h λv u s2 x y H2 I2 rx ry q=>ho pins s2 σ H2 x y v u Q I2 rx ry q)
theorem Ag (ho:UnR X (unaryOp op) r)(ha:PE X a ta):PE X (.UnaryOp op a pos) (tUn r ta):=by
 intro pins s σ H Q I h;exact UnaryOp_ (thn (ha pins s σ H _ I h) λv s1 ⟨x,H1,I1,r1,q1⟩=>ho pins s1 σ H1 x v Q I1 r1 q1)
theorem opI {g:Int->Int->Int}(rule:∀(i j:Int) (t u:Tok) (s:Shared) (Q:Value->Shared->Prop) (E:Value->Shared->Prop),C i j->Q (.int (g i j) s.toks) { s with toks:=s.toks+1 }->wpAny (model X.prog X.w) X.A (f (.int i t) (.int j u)) Q E s):
  OpR X f (rI C λi j=>.int (g i j)):=by
 intro pins s σ H x y v u Q I rx ry h;obtain⟨i,j,rfl,rfl,hc,q⟩:=h;obtain⟨t,rfl⟩:=rx;obtain⟨t',rfl⟩:=ry;exact rule i j t t' s _ _ hc ⟨.int (g i j),H,I.tok _,⟨_,rfl⟩,q⟩
theorem qn2 {g:Int->Int->Int}(rule:∀(i j:Int) (t u:Tok) (s:Shared) (Q:Value->Shared->Prop) (E:Value->Shared->Prop),Q (.int (g i j) s.toks) { s with toks:=s.toks+1 }->wpAny (model X.prog X.w) X.A (f (.int i t) (.int j u)) Q E s):
  OpR X f (rI0 λi j=>.int (g i j)):=by
 intro pins s σ H x y v u Q I rx ry h;obtain⟨i,j,rfl,rfl,q⟩:=h;obtain⟨t,rfl⟩:=rx;obtain⟨t',rfl⟩:=ry;exact rule i j t t' s _ _ ⟨.int (g i j),H,I.tok _,⟨_,rfl⟩,q⟩
theorem qh8 {g:Int->Int->Bool}(rule:∀(i j:Int) (t u:Tok) (s:Shared) (Q:Value->Shared->Prop) (E:Value->Shared->Prop),Q (.bool (g i j)) s->wpAny (model X.prog X.w) X.A (f (.int i t) (.int j u)) Q E s):
  OpR X f (rI0 λi j=>.bl (g i j)):=by
 intro pins s σ H x y v u Q I rx ry h;obtain⟨i,j,rfl,rfl,q⟩:=h;obtain⟨t,rfl⟩:=rx;obtain⟨t',rfl⟩:=ry;exact rule i j t t' s _ _ ⟨.bl (g i j),H,I,rfl,q⟩
def qs2 (i j:Int):Prop:=0 < j/\j < 1073741824
def qt1 (i j:Int):Prop:=0<=j/\j<=1000000/\i.natAbs < 2 ^ 64
def qd3 (i j:Int):Prop:=(-(2 ^ 64) < i/\i < 2 ^ 64)\/(-(2 ^ 64) < j/\j < 2 ^ 64)
theorem qd3.ok (h:qd3 i j):IntMulOk i j:=by
 rcases h with ⟨h1,h2⟩ | ⟨h1,h2⟩
 ·exact .of_left (intBits_le_64 h1 h2)
 ·exact .of_right (intBits_le_64 h1 h2)
theorem gD:OpR X (binaryOp .Add) (rI0 λi j=>.int (i+j)):=qn2 λ_ _ _ _ _ _ _ q=>add_int q
theorem lU:OpR X (binaryOp .Sub) (rI0 λi j=>.int (i - j)):=qn2 λ_ _ _ _ _ _ _ q=>sub_int q
theorem wK:OpR X (binaryOp .Mult) (rI qd3 λi j=>.int (i*j)):=opI λ_ _ _ _ _ _ _ hc q=>mul_int q hc.ok
theorem qD:OpR X (binaryOp .FloorDiv) (rI qs2 λi j=>.int (i / j)):=opI λi j _ _ _ _ _ hc q=>by
 have h1:(0:Int) < j:=hc.1;have h2:j < 1073741824:=hc.2;exact floordiv_int () (by rw[Int.fdiv_eq_ediv_of_nonneg i ()];exact q) (.inl (PyProof.noPylong_small ()))
theorem wL:OpR X (binaryOp .Mod) (rI (λ_ j=>0 < j) λi j=>.int (i % j)):=opI λi j _ _ _ _ _ hc q=>by
 have h1:(0:Int) < j:=hc;exact mod_int' () (by rw[Int.fmod_eq_emod_of_nonneg i ()];exact q)
theorem qZ:OpR X (binaryOp .Mod) (rI (λ_ j=>j≠0) λi j=>.int (i.fmod j)):=opI λ_ _ _ _ _ _ _ hc q=>mod_int' hc q
theorem Hw:OpR X (binaryOp .Pow) (rI qt1 λi j=>.int (i ^ j.toNat)):=opI λ_ _ _ _ _ _ _ hc q=>pow_int_small hc.1 hc.2.1 hc.2.2 q
theorem unI {g:Int->Int}(rule:∀(i:Int) (t:Tok) (s:Shared) (Q:Value->Shared->Prop) (E:Value->Shared->Prop),Q (.int (g i) s.toks) { s with toks:=s.toks+1 }->wpAny (model X.prog X.w) X.A (f (.int i t)) Q E s):
  UnR X f (rU λi=>.int (g i)):=by
 intro pins s σ H x v Q I rx h;obtain⟨i,rfl,q⟩:=h;obtain⟨t,rfl⟩:=rx;exact rule i t s _ _ ⟨.int (g i),H,I.tok _,⟨_,rfl⟩,q⟩
theorem sQ:UnR X (unaryOp .USub) (rU λi=>.int (-i)):=unI λ_ _ _ _ _ q=>neg_int q
end
def qq1:V->V->Bool
 | .non,.non=>true | .non,.int _=>true | .int _,.non=>true | .non,.bl _=>true | .bl _,.non=>true | .non,.str _=>true | .str _,.non=>true
 | .int _,.int _=>true | .bl _,.bl _=>true | .str _,.str _=>true | .byt _,.byt _=>true
 | .int _,.str _=>true | .str _,.int _=>true | .bl _,.str _=>true | .str _,.bl _=>true
 |_,_=>false
def rEq:R2:=λx y H Q=>qq1 x y=true/\Q (.bl (decide (x=y))) H
def rNe:R2:=λx y H Q=>qq1 x y=true/\Q (.bl (!decide (x=y))) H
theorem Kb:decide (V.int i=V.int j)=(i == j):=by
 rw[Bool.eq_iff_iff];simp
theorem Qw:decide (V.bl i=V.bl j)=(i == j):=by
 rw[Bool.eq_iff_iff];simp
theorem Jq:decide (V.str i=V.str j)=(i == j):=by
 rw[Bool.eq_iff_iff];simp
theorem Ii:decide (V.byt i=V.byt j)=(i.toList == j.toList):=by
 rw[Bool.eq_iff_iff]
 cases i
 cases j
 simp
section
variable {X:Cx} {a b c:Expr} {ta tb tc:TE} {pos:Pos}
theorem cW (I:Inv X pins σ H s)(q:Q (.bl k) H)(e:k=k'):EP X pins σ Q (.bool k') s:=by
 subst e;exact⟨.bl k,H,I,rfl,q⟩
theorem dP:OpR X (compareOp .Eq) rEq:=by
 intro pins s σ H x y v u Q I rx ry h;obtain⟨hs,q⟩:=h
 cases x with
 |non=>
  cases rx
  cases y with
  |non=>cases ry;exact PySem.EqNone.eq_none_none (cW I q ⋯)
  |bl j=>cases ry;exact PySem.EqNone.eq_none_bool (cW I q ⋯)
  |int j=>obtain⟨t',rfl⟩:=ry;exact PySem.EqNone.eq_none_int (cW I q ⋯)
  |str j=>obtain⟨t',rfl⟩:=ry;exact PySem.EqNone.eq_none_str (cW I q ⋯)
  |_=>exact absurd (show false=true from hs) Bool.false_ne_true
 |bl i=>
  cases rx
  cases y with
  |non=>cases ry;exact PySem.EqNone.eq_bool_none (cW I q ⋯)
  |bl j=>cases ry;exact eq_bool (cW I q Qw)
  |str j=>obtain⟨t',rfl⟩:=ry;exact PySem.EqMixed.eq_bool_str (cW I q ⋯)
  |_=>exact absurd (show false=true from hs) Bool.false_ne_true
 |int i=>
  obtain⟨t,rfl⟩:=rx
  cases y with
  |non=>cases ry;exact PySem.EqNone.eq_int_none (cW I q ⋯)
  |int j=>obtain⟨t',rfl⟩:=ry;exact eq_int (cW I q Kb)
  |str j=>obtain⟨t',rfl⟩:=ry;exact PySem.EqMixed.eq_int_str (cW I q ⋯)
  |_=>exact absurd (show false=true from hs) Bool.false_ne_true
 |str i=>
  obtain⟨t,rfl⟩:=rx
  cases y with
  |non=>cases ry;exact PySem.EqNone.eq_str_none (cW I q ⋯)
  |bl j=>cases ry;exact PySem.EqMixed.eq_str_bool (cW I q ⋯)
  |int j=>obtain⟨t',rfl⟩:=ry;exact PySem.EqMixed.eq_str_int (cW I q ⋯)
  |str j=>obtain⟨t',rfl⟩:=ry;exact eq_str (cW I q Jq)
  |_=>exact absurd (show false=true from hs) Bool.false_ne_true
 |byt i=>
  obtain⟨t,rfl⟩:=rx
  cases y with
  |byt j=>obtain⟨t',rfl⟩:=ry;exact W.eq_bytes (cW I q Ii)
  |_=>exact absurd (show false=true from hs) Bool.false_ne_true
 |_=>cases y<;>exact absurd (show false=true from hs) Bool.false_ne_true
theorem iX:OpR X (compareOp .NotEq) rNe:=by
 intro pins s σ H x y v u Q I rx ry h;obtain⟨hs,q⟩:=h
 cases x with
 |non=>
  cases rx
  cases y with
  |non=>cases ry;exact PySem.EqNone.ne_none_none (cW I q ⋯)
  |bl j=>cases ry;exact PySem.EqNone.ne_none_bool (cW I q ⋯)
  |int j=>obtain⟨t',rfl⟩:=ry;exact PySem.EqNone.ne_none_int (cW I q ⋯)
  |str j=>obtain⟨t',rfl⟩:=ry;exact PySem.EqNone.ne_none_str (cW I q ⋯)
  |_=>exact absurd (show false=true from hs) Bool.false_ne_true
 |bl i=>
  cases rx
  cases y with
  |non=>cases ry;exact PySem.EqNone.ne_bool_none (cW I q ⋯)
  |bl j=>cases ry;exact ne_bool (cW I q (congrArg not Qw))
  |str j=>obtain⟨t',rfl⟩:=ry;exact PySem.EqMixed.ne_bool_str (cW I q ⋯)
  |_=>exact absurd (show false=true from hs) Bool.false_ne_true
 |int i=>
  obtain⟨t,rfl⟩:=rx
  cases y with
  |non=>cases ry;exact PySem.EqNone.ne_int_none (cW I q ⋯)
  |int j=>obtain⟨t',rfl⟩:=ry;exact ne_int (cW I q (congrArg not Kb))
  |str j=>obtain⟨t',rfl⟩:=ry;exact PySem.EqMixed.ne_int_str (cW I q ⋯)
  |_=>exact absurd (show false=true from hs) Bool.false_ne_true
 |str i=>
  obtain⟨t,rfl⟩:=rx
  cases y with
  |non=>cases ry;exact PySem.EqNone.ne_str_none (cW I q ⋯)
  |bl j=>cases ry;exact PySem.EqMixed.ne_str_bool (cW I q ⋯)
  |int j=>obtain⟨t',rfl⟩:=ry;exact PySem.EqMixed.ne_str_int (cW I q ⋯)
  |str j=>obtain⟨t',rfl⟩:=ry;exact ne_str (cW I q (congrArg not Jq))
  |_=>exact absurd (show false=true from hs) Bool.false_ne_true
 |byt i=>
  obtain⟨t,rfl⟩:=rx
  cases y with
  |byt j=>obtain⟨t',rfl⟩:=ry;exact W.ne_bytes (cW I q (congrArg not Ii))
  |_=>exact absurd (show false=true from hs) Bool.false_ne_true
 |_=>cases y<;>exact absurd (show false=true from hs) Bool.false_ne_true
theorem wU:OpR X (compareOp .Lt) (rI0 λi j=>.bl (decide (i < j))):=qh8 λ_ _ _ _ _ _ _ q=>lt_int q
theorem xU:OpR X (compareOp .Gt) (rI0 λi j=>.bl (decide (j < i))):=qh8 λ_ _ _ _ _ _ _ q=>gt_int q
theorem Qh:OpR X (compareOp .GtE) (rI0 λi j=>.bl (decide (j<=i))):=qh8 λ_ _ _ _ _ _ _ q=>ge_int q
theorem bA (b:Expr)(h:op≠.In:=by decide)(h2:op≠.NotIn:=by decide):behindInMarks op b=false:=by
 have e1:(op == CmpOp.In)=false:=by cases op<;>first | rfl | exact absurd rfl h
 have e2:(op == CmpOp.NotIn)=false:=by cases op<;>first | rfl | exact absurd rfl h2
 cases b<;>simp[behindInMarks,e1,e2]
theorem gH (ho:OpR X (compareOp op) r)(ha:PE X a ta)(hb:PE X b tb)(hm:behindInMarks op b=false):PE X (.Compare a [op] [b] pos) (tOp r ta tb):=by
 intro pins s σ H Q I h;exact wpAny_Compare1 (Zf ha hb I h λv u s2 x y H2 I2 rx ry q=>ho pins s2 σ H2 x y v u Q I2 rx ry q) hm
def qo0 (t:TE):TT:=λσ H Q=>t σ H λx H'=>BlT x λk=>Q k H'
theorem aY (ho:OpR X (compareOp op) r)(ha:PE X a ta)(hb:PE X b tb)(hm:behindInMarks op b=false):PT X (.Compare a [op] [b] pos) (qo0 (tOp r ta tb)):=by
 intro pins s σ H Q I h;refine wpAny_isTrue_Compare1 (thn (ha pins s σ H _ I h) λv s1 ⟨x,H1,I1,r1,q1⟩=>thn (hb pins s1 σ H1 _ I1 q1) λu s2 ⟨y,H2,I2,r2,q2⟩=>
  thn (ho pins s2 σ H2 x y v u _ I2 r1 r2 q2) λc s3 ⟨z,H3,I3,r3,k,e,q3⟩=>?_) hm
 subst e
 cases r3
 exact wpAny_truthy_bool ⟨H3,I3,q3⟩
theorem Al:(sizeLine:Nat) < 2 ^ 63:=by rw[sizeLine_eq];decide
theorem zP (r:cA [x] us):∃u,us=[u]/\cB x u:=by
 cases r with
 |cons r1 r2=>cases r2;exact⟨_,rfl,r1⟩
theorem Kz (r:cA [x,y] us):∃u w',us=[u,w']/\cB x u/\cB y w':=by
 cases r with
 |cons r1 r2=>
  cases r2 with
  |cons r3 r4=>cases r4;exact⟨_,_,rfl,r1,r3⟩
theorem xY:kC X (.builtin "abs") (λxs H Q=>∃i,xs=[.int i]/\Q (.int (if i < 0 then -i else i)) H):=by
 intro pins s σ H xs us Q I r h;obtain⟨i,rfl,q⟩:=h;obtain⟨u,rfl,t,rfl⟩:=zP r;exact call_abs_int λu tk=>⟨.int (if i < 0 then -i else i),H,I.tok _,⟨_,rfl⟩,q⟩
end
structure Gd (h:Heap) (x dx C:Addr) (mA:Str->Option Value):Prop where
 obj:h.get? x=some (W.instObj C dx)
 ns:h.Ns1 dx mA
 ne:dx≠x
theorem rH {h:Heap}(n:h.Ns1 dx mA):∃od,h.get? dx=some od/\∀name,W.lookIn name od=some (mA name):=by
 obtain⟨o,es,ep,ho,hd,hk,_,hm⟩:=n;refine⟨o,ho,λname=>?_⟩;have e:=hm name;unfold nsFind findBy at e;rw[<- Array.find?_toList] at e;unfold W.lookIn;rw[hd];dsimp only;split
 ·rename_i y q
  rw[q] at e;exact congrArg some e
 ·rename_i q
  rw[q] at e;have a:es.toList.any (·.refKey)=false:=by
   rw[any_eq_false];intro y hy;obtain⟨z,t,hkey⟩:=hk y (Array.mem_toList_iff.mp hy);simp[DictEntry.refKey,hkey]
  have a':¬es.toList.any (·.refKey)=true:=by rw[a];exact Bool.false_ne_true
  rw[if_neg a'];exact congrArg some e
theorem Gd.look (I:Gd h x dx C mA):∃od,W.InstAt h x (W.instObj C dx) C (some od)/\∀name,W.lookIn name od=some (mA name):=
 let ⟨od,ho,hl⟩:=rH I.ns
 ⟨od,⟨I.obj,rfl,rfl,ho⟩,hl⟩
section
variable {prog:Program} {w:World} {A:Around} {E:Value->Shared->Prop} {s:Shared} {K:Frag} {x dx C f:Addr} {mA:Str->Option Value} {name:Str} {v:Value}
theorem Ue (X:K.In s.heap)(I:Gd s.heap x dx C mA)(hg:W.plainGet K C name=true)(hh:W.hasDictIn K C=true)(ha:W.findIn K (.ref C) name=some none)(hv:mA name=some v)(hv':W.handedIn v=true)(h:Q v { s with toks:=s.toks+1 }):
  wpAny (model prog w) A (getAttr (.ref x) name expr) Q E s:=by
 obtain⟨od,J,hl⟩:=I.look;exact W.get_value X J (W.plainGet_of hg).1 (W.findObj_own hh ha rfl (by rw[hl,hv])) hv' h
theorem Oz (X:K.In s.heap)(I:Gd s.heap x dx C mA)(hg:W.plainGet K C name=true)(hf:W.findIn K (.ref C) name=some (some (.ref f)))(ht:W.isFn K (.ref f)=true)(hv:mA name=none)(h:Q (.ref f,[.ref x]) s):
  wpAny (model prog w) A (getMethod (.ref x) name pl) Q E s:=by
 obtain⟨od,J,hl⟩:=I.look;exact W.method_fn X J (W.plainGet_of hg).1 (W.plainGet_of hg).2 hf (beq_iff_eq.mp ht) (by show (W.lookIn name od).map (·.isSome)=some false;rw[hl,hv];rfl) h
theorem Vc (X:K.In s.heap)(I:Gd s.heap x dx C mA)(hs:W.findIn K (.ref C) "__setattr__"=some (some (.builtin "object.__setattr__")))(hp:W.plainOver K C=true)(ht:W.takerIn K C name=some none)(hh:W.hasDictIn K C=true)(hw:PySem.Within mA ns)(hsz:ns.length<=sizeLine)(h:∀h',Gd h' x dx C (λy=>if y=name then some v else mA y)->Heap.SameBut dx s.heap h'->Q .unit { s with heap:=h',toks:=s.toks+2 }):
  wpAny (model prog w) A (setAttr (.ref x) name v) Q E s:=by
 obtain⟨od,J,hl⟩:=I.look;refine W.set_plain X J hs (W.osa_open (s:={ s with toks:=s.toks+1 }) (r:=none) X J hp ht λb=>?_);obtain⟨cd,hc,hd'⟩:=W.any_some hh;have hx:s.heap.get? x=some ⟨.ref C,some dx,.plain,#[]⟩:=I.obj;refine wpAny_bind (wpAny_pure (wpAny_bind (wpAny_bind (wpAny_loadPart hx (wpAny_bind (W.Looks.here (s:={ s with toks:=s.toks+1 }) (W.looks_clsIn X hc) ?_))))));rw[hd'];refine wpAny_pure (a:=some dx) (wpAny_bind (wpAny_pure (wpAny_bind ?_)));refine wpAny_nsSet1 (s:={ s with toks:=s.toks+1 }) I.ns λh' hn2 hs2=>?_;obtain⟨oD,esD,epD,hoD,hdD,hcD⟩:=hn2.count (PySem.Within.cons name v hw);refine wpAny_bind (wpAny_lookBehind hoD (by rw[hdD];exact pastItsLine_dict (Nat.le_trans hcD (by rw[length_cons];lia))) ?_);exact wpAny_pure (h _ ⟨(hs2.2 _ (Ne.symm I.ne)).trans I.obj,hn2,I.ne⟩ hs2)
theorem Nw (X:K.In s.heap)(hm:W.makesIn K C=true)(hi:W.findIn K (.ref C) "__init__"=some (some (.ref f)))(hf:W.typeIn K (.ref f)=some (.type "function"))(h:codeAny (model prog w) (A.under (.builtin "type.__call__" ⟨.ref C :: vs,kw⟩)) (.call (.ref f) ⟨.ref (s.heap.objs.size+1) :: vs,kw⟩) (W.InitBack (s.heap.objs.size+1) R)
   { s with heap:=(s.heap.push W.emptyDict).push (W.instObj C s.heap.objs.size) }):
  codeAny (model prog w) A (.call (.ref C) ⟨vs,kw⟩) R s:=by
 obtain⟨hh,g,d,t,os⟩:=s;exact W.make_core (W.makes_of X hm) (W.looks_findIn X hi) (λself=>W.bind_fn X self hf) (.inl rfl) h
end
def iZ (f:Str)(v:V):List (Str × V)->List (Str × V)
 | []=>[(f,v)]
 | (g,x) :: r=>if g=f then (g,v) :: r else (g,x) :: iZ f v r
theorem cD (f g:Str)(v:V):∀fs:List (Str × V),(iZ f v fs).lookup g=if g=f then some v else fs.lookup g
 | []=>by
  show List.lookup g [(f,v)]=_
  by_cases h:g=f
  ·have hb:(g == f)=true:=beq_iff_eq.mpr h;simp only[List.lookup,hb,if_pos h]
  ·have hb:(g == f)=false:=beq_eq_false_iff_ne.mpr h;simp only[List.lookup,hb,if_neg h]
 | (k,x) :: r=>by
  have ih:=cD f g v r;rw[show iZ f v ((k,x) :: r)=(if k=f then (k,v) :: r else (k,x) :: iZ f v r) from rfl]
  by_cases hk:k=f
  ·rw[if_pos hk]
   by_cases h:g=k
   ·have hb:(g == k)=true:=beq_iff_eq.mpr h;simp only[List.lookup,hb,if_pos (h.trans hk)]
   ·have hb:(g == k)=false:=beq_eq_false_iff_ne.mpr h;simp only[List.lookup,hb,if_neg (λe:g=f=>h (e.trans hk.symm))]
  ·rw[if_neg hk]
   by_cases h:g=k
   ·have hb:(g == k)=true:=beq_iff_eq.mpr h;simp only[List.lookup,hb,if_neg (λe:g=f=>hk (h.symm.trans e))]
   ·have hb:(g == k)=false:=beq_eq_false_iff_ne.mpr h;simp only[List.lookup,hb];exact ih
theorem rT (f:Str)(v:V):∀fs:List (Str × V),f∈(iZ f v fs).map (·.1)/\∀g,g∈fs.map (·.1)->g∈(iZ f v fs).map (·.1)
 | []=>⟨by simp[iZ],λg h=>by simp at h⟩
 | (k,x) :: r=>by
  obtain⟨i1,i2⟩:=rT f v r;rw[show iZ f v ((k,x) :: r)=(if k=f then (k,v) :: r else (k,x) :: iZ f v r) from rfl]
  by_cases hk:k=f
  ·rw[if_pos hk];subst hk;exact⟨⋯,λg h=>by simpa using h⟩
  ·rw[if_neg hk];refine⟨?_,λg h=>?_⟩
   ·rw[map_cons];exact mem_cons_of_mem _ i1
   ·rw[map_cons] at h ⊢;rcases mem_cons.mp h with e | e
    ·exact mem_cons.mpr (.inl e)
    ·exact mem_cons_of_mem _ (i2 g e)
theorem iA (f:Str)(v:V):∀fs:List (Str × V),(iZ f v fs).length<=fs.length+1
 | []=>by simp[iZ]
 | (k,x) :: r=>by
  have ih:=iA f v r;rw[show iZ f v ((k,x) :: r)=(if k=f then (k,v) :: r else (k,x) :: iZ f v r) from rfl]
  by_cases hk:k=f
  ·rw[if_pos hk,length_cons,length_cons];lia
  ·rw[if_neg hk,length_cons,length_cons];lia
theorem jT.some_of (r:jT (some v) o):∃u,o=some u/\cB v u:=by
 cases o with
 |none=>exact(show False from r).elim
 |some u=>exact⟨u,rfl,r⟩
theorem jT.none_of (r:jT none o):o=none:=by
 cases o with
 |none=>rfl
 |some u=>exact(show False from r).elim
theorem yX (r:cB v u):W.handedIn u=true:=by
 cases v with
 |non=>cases (show u=Value.none from r);rfl
 |bl b=>cases (show u=Value.bool b from r);rfl
 |int i=>obtain⟨t,e⟩:=(show ∃t,u=Value.int i t from r);cases e;rfl
 |str x=>obtain⟨t,e⟩:=(show ∃t,u=Value.str x t from r);cases e;rfl
 |byt b=>obtain⟨t,e⟩:=(show ∃t,u=Value.bytes b t from r);cases e;rfl
 |flt b=>obtain⟨t,e⟩:=(show ∃t,u=Value.float b t from r);cases e;rfl
 |ref a=>cases (show u=Value.ref a from r);rfl
 |ty n=>cases (show u=Value.type n from r);rfl
section
variable {P:Program} {w:World} {H H':Hp} {h h':Heap} {a C dx:Addr} {fs fs':List (Str × V)}
theorem uO (hok:HOk P w H h)(e:H a=some (.ins C dx fs)):∃mA,Gd h a dx C mA/\(∀f,jT (fs.lookup f) (mA f))/\PySem.Within mA (fs.map (·.1))/\fs.length<=1000/\H dx=some (.own a):=by
 obtain⟨d,z,ne,ob,mA,n,r,q⟩:=(show cL P w H h a (.ins C dx fs) from hok a _ e)
 exact⟨mA,⟨ob,n,ne⟩,r,q,z,d⟩
end
structure Cls (K:Frag) (C:Addr):Prop where
 pg:W.plainGet K C Str.empty=true
 hd:W.hasDictIn K C=true
 po:W.plainOver K C=true
 sa:W.findIn K (.ref C) "__setattr__"=some (some (.builtin "object.__setattr__"))
theorem Cls.get {K:Frag}(c:Cls K C)(f:Str):W.plainGet K C f=true:=c.pg
def jI (K:Frag)(C:Addr)(f:Str):Prop:=W.findIn K (.ref C) f=some none
theorem jI.taker {K:Frag}(n:jI K C f):W.takerIn K C f=some none:=by
 unfold W.takerIn;rw[show W.findIn K (.ref C) f=some none from n];rfl
structure gE (K:Frag) (C:Addr) (m:Str) (f:Addr):Prop where
 at_:W.findIn K (.ref C) m=some (some (.ref f))
 fn:W.isFn K (.ref f)=true
 kp:W.keepIn K (.ref f)=true
section
variable {X:Cx} {pins:List (Addr × Obj)} {σ:St} {H:Hp} {s:Shared} {a C dx:Addr} {fs:List (Str × V)} {f:Str} {v:V} {A:Around} {E:Value->Shared->Prop}
theorem Gf (I:Inv X pins σ H s)(e:H a=some (.ins C dx fs))(c:Cls X.K C)(n:jI X.K C f)(l:fs.lookup f=some v)(h:∀u s',Inv X pins σ H s'->cB v u->Q u s'):wpAny (model X.prog X.w) A (getAttr (.ref a) f b) Q E s:=by
 obtain⟨mA,O,r,_,_,_⟩:=uO I.hok e;obtain⟨u,hu,ru⟩:=jT.some_of (v:=v) (o:=mA f) (by rw[<- l];exact r f);exact Ue I.kIn O (c.get f) c.hd n hu (yX ru) (h u _ (I.tok _) ru)
theorem pG (I:Inv X pins σ H s)(e:H a=some (.ins C dx fs))(c:Cls X.K C)(k:gE X.K C m g)(l:fs.lookup m=none)(h:Q (.ref g,[.ref a]) s):wpAny (model X.prog X.w) A (getMethod (.ref a) m pl) Q E s:=by
 obtain⟨mA,O,r,_,_,_⟩:=uO I.hok e;have hn:mA m=none:=jT.none_of (by rw[<- l];exact r m);exact Oz I.kIn O (c.get m) k.at_ k.fn hn h
theorem Gy (I:Inv X pins σ H s)(e:H a=some (.ins C dx fs))(c:Cls X.K C)(n:jI X.K C f)(hl:fs.length < 1000)(ry:cB y u)(h:∀s',Inv X pins σ (upd H a (.ins C dx (iZ f y fs))) s'->Q .unit s'):wpAny (model X.prog X.w) A (setAttr (.ref a) f u) Q E s:=by
 obtain⟨mA,O,r,wi,_,ho⟩:=uO I.hok e;have hz:(fs.map (·.1)).length<=sizeLine:=by rw[length_map,sizeLine_eq];lia
 refine Vc I.kIn O c.sa c.po n.taker c.hd wi hz λh' O' sb=>h _ ?_;have hd:∃o,h'.get? dx=some o:=let ⟨o,_,_,e',_⟩:=O'.ns;⟨o,e'⟩
 refine I.write (x:=a) (e:=dx) (by rw[e];exact True.intro) (.inr ho) (λb q hb z=>(sb.2 b hb).trans z) hd ?_;refine⟨by rw[aR O.ne];exact ho,?_,O.ne,O'.obj,_,O'.ns,λg=>?_,λg hg=>?_⟩
 ·have:=iA f y fs;lia
 ·show jT ((iZ f y fs).lookup g) (if g=f then some u else mA g);rw[cD]
  by_cases q:g=f
  ·rw[if_pos q,if_pos q];exact ry
  ·rw[if_neg q,if_neg q];exact r g
 ·by_cases q:g=f
  ·rw[q];exact(rT f y fs).1
  ·refine(rT f y fs).2 g (wi g λz=>hg ?_);show (if g=f then some u else mA g)=none;rw[if_neg q];exact z
theorem Inv.made (I:Inv X pins σ H s):Inv X pins σ (upd (upd H s.heap.objs.size (.own (s.heap.objs.size+1))) (s.heap.objs.size+1) (.ins C s.heap.objs.size []))
  { s with heap:=(s.heap.push W.emptyDict).push (W.instObj C s.heap.objs.size) }:=by
 have e1:(s.heap.push W.emptyDict).get? s.heap.objs.size=some W.emptyDict:=Heap.get?_push_size s.heap rfl;have e2:((s.heap.push W.emptyDict).push (W.instObj C s.heap.objs.size)).get? (s.heap.objs.size+1)=some (W.instObj C s.heap.objs.size):=by
  have:=Heap.get?_push_size (s.heap.push W.emptyDict) (o:=W.instObj C s.heap.objs.size) rfl
  rwa [Heap.size_push] at this
 have e3:(s.heap.push W.emptyDict).Ns s.heap.objs.size (λ_=>none):=⟨W.emptyDict,#[],_,e1,rfl,(λe he=>absurd he ⋯),λ_=>rfl⟩
 have I1:=I.laid (a:=s.heap.objs.size) (o:=.own (s.heap.objs.size+1)) (h':=s.heap.push W.emptyDict) (t':=s.toks) (λb u q=>Heap.get?_push_of_some _ q) (Nat.le_refl _) ⟨_,e1⟩;refine I1.laid (a:=s.heap.objs.size+1) (o:=.ins C s.heap.objs.size []) (t':=s.toks) (λb u q=>Heap.get?_push_of_some _ q) (Nat.le_of_eq (Heap.size_push _ _)) ?_;have ne:s.heap.objs.size≠s.heap.objs.size+1:=Nat.ne_of_lt (Nat.lt_succ_self _);refine⟨by rw[aR ne,aB],Nat.zero_le _,ne,e2,λ_=>none,(Heap.Ns1.of_empty e3).at λo q=>Heap.get?_push_of_some _ q,λ_=>True.intro,λy hy=>absurd rfl hy⟩
theorem Js (hb:attributeBase e f env (eval e env)=eval e env)(h:wpAny (model prog w) A (eval e env) (λo s₁=>wpAny (model prog w) A (getAttr o f true) Q E s₁) E s):wpAny (model prog w) A (eval (.Attribute e f pos) env) Q E s:=
 Attribute_any_ h (by rw[arm_eval_Attribute,hb])
end
inductive Yg (K:Frag) (f:Str) (Q:VK) (x:V) (H1:Hp):Prop where
 |mk (a C dx fs v):x=.ref a->H1 a=some (.ins C dx fs)->Cls K C->jI K C f->fs.lookup f=some v->Q v H1->Yg K f Q x H1
def qq0 (K:Frag)(ta:TE)(f:Str):TE:=λσ H Q=>ta σ H λx H1=>Yg K f Q x H1
inductive Xt (K:Frag) (f:Str) (D:kL) (σ:St) (x:V) (H2:Hp) (y:V):Prop where
 |mk (a C dx fs):x=.ref a->H2 a=some (.ins C dx fs)->Cls K C->jI K C f->fs.length < 1000->D.nx σ (upd H2 a (.ins C dx (iZ f y fs)))->Xt K f D σ x H2 y
def qs9 (K:Frag)(ta tv:TE)(f:Str):TS:=λD σ H=>tv σ H λy H1=>ta σ H1 λx H2=>Xt K f D σ x H2 y
section
variable {X:Cx} {o e value:Expr} {f:Str} {pos pos' tpos:Pos} {ta tv:TE}
theorem cS (he:PE X e ta)(hb:attributeBase e f X.env (eval e X.env)=eval e X.env):PE X (.Attribute e f pos) (qq0 X.K ta f):=by
 intro pins s σ H Q I h;refine Js hb (thn (he pins s σ H _ I h) λu s1 ⟨x,H1,I1,rx,a,C,dx,fs,v,ex,ea,c,n,l,q⟩=>?_);subst ex;obtain rfl:u=Value.ref a:=rx;exact Gf I1 ea c n l λu' s2 I2 ru=>⟨v,H1,I2,ru,q⟩
theorem xV (ha:PE X o ta)(hv:PE X value tv)(hs:swapsWith value (some (.Attribute o f pos')) pos.line X.env=pure false):PS X (.Assign [.Attribute o f pos'] value pos) (qs9 X.K ta tv f):=by
 intro pins s σ H D I h;refine plainObj_wpAny_Assign_Attribute (thn (hv pins s σ H _ I h) λu s1 ⟨y,H1,I1,ry,q⟩=>thn (ha pins s1 σ H1 _ I1 q) λov s2 ⟨x,H2,I2,rx,a,C,dx,fs,ex,ea,c,n,l,q2⟩=>?_) hs;subst ex;obtain rfl:ov=Value.ref a:=rx;exact Gy I2 ea c n l ry λs3 I3=>⟨σ,_,I3,q2⟩
end
section
variable {X:Cx} {pins:List (Addr × Obj)} {σ:St} {H:Hp} {s:Shared} {A:Around} {E:Value->Shared->Prop} {Q:Value->Shared->Prop} {c:Value} {b:Bool}
inductive kM (K:Frag) (H:Hp):V->Value->Prop where
 |non:kM K H .non (.type "NoneType")
 |bl (x:Bool):kM K H (.bl x) (.type "bool")
 |int (i:Int):kM K H (.int i) (.type "int")
 |str (x:Str):kM K H (.str x) (.type "str")
 |flt (x:UInt64):kM K H (.flt x) (.type "float")
 |lst {a:Addr} {xs:List V} (e:H a=some (.lst xs)):kM K H (.ref a) (.type "list")
 |frz {a:Addr} {o:Obj} {xs:List V} (e:H a=some (.frz o (.lst xs))):kM K H (.ref a) (.type "list")
 |tup {a:Addr} {xs:List V} (e:H a=some (.tup xs)):kM K H (.ref a) (.type "tuple")
 |dK {a:Addr} {kvs:List (Key × V)} (e:H a=some (.dK kvs)):kM K H (.ref a) (.type "dict")
 |dT {a:Addr} {kvs:List (List Key × V)} (e:H a=some (.dT kvs)):kM K H (.ref a) (.type "dict")
 |ins {a C dx:Addr} {fs:List (Str × V)} (e:H a=some (.ins C dx fs)) (cl:Cls K C) (ha:W.findIn K (.ref C) "__class__"=some (some (.builtin "object.__class__")))
   (hn:W.specialIn K (.builtin "object.__class__") "__get__"=some (some (.builtin "getset_descriptor.__get__"))) (htk:W.takesIn K (.builtin "object.__class__")=some true)
   (hm:W.mroIn K C (.type "object")=some true):kM K H (.ref a) (.ref C)
theorem Ms (I:Inv X pins σ H s)(rx:cB x u)(ty:kM X.K H x t)(e:W.kitOne X.K t c=some b)(h:∀tk,Q (.bool b) { s with toks:=tk }):
  wpAny (model X.prog X.w) A (call (.builtin "isinstance") [u,c]) Q E s:=by
 cases ty with
 |non=>cases (show u=Value.none from rx);exact W.kia_one W.kitx_none I.kIn True.intro e (λz=>nomatch z) h
 |bl y=>cases (show u=Value.bool y from rx);exact W.kia_one W.kitx_bool I.kIn True.intro e (λz=>nomatch z) h
 |int i=>obtain⟨t,q⟩:=(show ∃t,u=Value.int i t from rx);cases q;exact W.kia_one W.kitx_int I.kIn True.intro e (λz=>nomatch z) h
 |str y=>obtain⟨t,q⟩:=(show ∃t,u=Value.str y t from rx);cases q;exact W.kia_one W.kitx_str I.kIn True.intro e (λz=>nomatch z) h
 |flt y=>obtain⟨t,q⟩:=(show ∃t,u=Value.float y t from rx);cases q;exact W.kia_one W.kitx_float I.kIn True.intro e (λz=>nomatch z) h
 | @lst a xs ea=>
  cases (show u=Value.ref a from rx)
  obtain⟨_,_,n,_,h1⟩:=(show cL X.prog X.w H s.heap a (.lst xs) from I.hok a _ ea)
  exact W.kia_one W.kitx_list I.kIn ⟨_,h1,rfl⟩ e (λz=>nomatch z) h
 | @frz a ob xs ea=>
  cases (show u=Value.ref a from rx)
  obtain⟨_,_,_,n,_,h1⟩:=(show cL X.prog X.w H s.heap a (.frz ob (.lst xs)) from I.hok a _ ea)
  exact W.kia_one W.kitx_list I.kIn ⟨_,h1,rfl⟩ e (λz=>nomatch z) h
 | @tup a xs ea=>
  cases (show u=Value.ref a from rx)
  obtain⟨_,_,_,p⟩:=(show cL X.prog X.w H s.heap a (.tup xs) from I.hok a _ ea)
  obtain⟨o,h1,h2,_⟩:=p;exact W.kia_one W.kitx_tuple I.kIn ⟨o,h1,h2⟩ e (λz=>nomatch z) h
 | @dK a kvs ea=>
  cases (show u=Value.ref a from rx)
  obtain⟨_,_,vs,_,p⟩:=(show cL X.prog X.w H s.heap a (.dK kvs) from I.hok a _ ea)
  obtain⟨o,es,ep,h1,h2,_⟩:=p;exact W.kia_one W.kitx_dict I.kIn ⟨o,h1,h2.1⟩ e (λz=>nomatch z) h
 | @dT a kvs ea=>
  cases (show u=Value.ref a from rx)
  obtain⟨_,_,xs,_,o,es,ep,h1,h2,_⟩:=(show cL X.prog X.w H s.heap a (.dT kvs) from I.hok a _ ea)
  exact W.kia_one W.kitx_dict I.kIn ⟨o,h1,h2.1⟩ e (λz=>nomatch z) h
 | @ins a C dx fs ea cl ha hn htk hm=>
  cases (show u=Value.ref a from rx)
  obtain⟨mA,O,_⟩:=uO I.hok ea;obtain⟨od,J,_⟩:=O.look;exact W.kia_one (W.kitx_own (cl.get _) cl.hd ha hn htk hm) I.kIn J e (λz=>nomatch z) h
end
structure gM (k:Nat) (A:Around):Prop where
 hd:A.handled=none
 dp:A.depth+3*k+5 < recursionLimit
 un:A.units+16*k+200 < cLine
theorem gM.mono (r:gM k A)(h:j<=k):gM j A:=⟨r.hd,by have:=r.dp;lia,by have:=r.un;lia⟩
theorem gM.deeper (r:gM (k+1) A)(env:Env):gM k (A.deeper env):=
 ⟨r.hd,by have:=r.dp;show A.depth+1+3*k+5 < _;lia,by have:=r.un;show A.units+3+16*k+200 < _;lia⟩
theorem Hj {A:Around}:(A.under (.builtin "type.__call__" ⟨.ref C :: us,kw⟩)).depth=A.depth+1:=by
 first | rfl | simp[Around.under,Code.weight,Code.isCreation,Code.isGuard,Code.isCaller,Code.frames,Code.isFrame,guardIds]
theorem Gb {A:Around}:(A.under (.builtin "type.__call__" ⟨.ref C :: us,kw⟩)).units=A.units+1:=by
 first | rfl | simp[Around.under,Code.cUnits,Code.frames,Code.isFrame]
theorem gM.make (r:gM (k+1) A)(C:Addr)(us:List Value)(kw:List (Str × Value)):gM k (A.under (.builtin "type.__call__" ⟨.ref C :: us,kw⟩)):=
 ⟨r.hd,by have:=r.dp;rw[Hj];lia,by have:=r.un;rw[Gb];lia⟩
theorem gM.depth (r:gM k A):A.depth < recursionLimit:=by have:=r.dp;lia
theorem gM.units (r:gM k A):A.units+64 < cLine:=by have:=r.un;lia
def qf2:TA:=λ_ H Q=>Q [] H
def qp1 (ta:TE)(tr:TA):TA:=λσ H Q=>ta σ H λx H1=>tr σ H1 λxs H2=>Q (x :: xs) H2
section
variable {X:Cx} {e:Expr} {es:List Expr} {te:TE} {t:TA} {pos:Pos}
theorem aC:PA X [] qf2:=λ_ _ _ _ H Q I h=>Calls.spliced_nil ⟨[],H,I,.nil,h⟩
theorem aA (ha:PE X e te)(hr:PA X es t)(hs:starEach (e :: es) X.env=(false,eval e X.env) :: starEach es X.env:=by rfl):PA X (e :: es) (qp1 te t):=by
 intro pos pins s σ H Q I h;rw[hs];show wpAny _ _ (spliced ((false,eval e X.env) :: backTo pos (starEach es X.env))) _ _ s;refine Calls.spliced_cons (thn (ha pins s σ H _ I h) λu s1 ⟨x,H1,I1,r1,q1⟩=>?_);exact thn (hr pos pins s1 σ H1 _ I1 q1) λus s2 ⟨xs,H2,I2,r2,q2⟩=>⟨x :: xs,H2,I2,.cons r1 r2,q2⟩
def qs8 (t:TA):TE:=λσ H Q=>t σ H λxs H1=>xs.length<=sizeLine/\∀p,H1 p=none->Q (.ref p) (upd H1 p (.tup xs))
def qs6 (t:TA):TE:=λσ H Q=>t σ H λxs H1=>xs.length<=sizeLine/\∀p,H1 p=none->Q (.ref p) (upd H1 p (.lst xs))
theorem cQ {x1}(h:PA X es t):PE X (.Tuple es x1 pos) (qs8 t):=by
 intro pins s σ H Q I hq;refine wpAny_Tuple_spliced (thn (h pos pins s σ H _ I hq) λus s1 ⟨xs,H1,I1,r,z,q⟩=>⟨by rw[<- r.length];exact z,?_⟩);have hf:H1 s1.heap.objs.size=none:=I1.hok.fresh (Nat.le_refl _);refine⟨.ref s1.heap.objs.size,upd H1 s1.heap.objs.size (.tup xs),I1.laid (t':=s1.toks) (λb u e=>Heap.get?_push_of_some _ e) (Nat.le_refl _) ?_,rfl,q _ hf⟩;exact⟨z,us,r,⟨_,Heap.get?_push_size _ rfl,rfl,_,rfl⟩⟩
theorem bU (h:PA X es t):PE X (.List es pos) (qs6 t):=by
 intro pins s σ H Q I hq;refine wpAny_List_spliced (thn (h pos pins s σ H _ I hq) λus s1 ⟨xs,H1,I1,r,z,q⟩=>⟨by rw[<- r.length];exact z,?_⟩);have hf:H1 s1.heap.objs.size=none:=I1.hok.fresh (Nat.le_refl _);refine⟨.ref s1.heap.objs.size,upd H1 s1.heap.objs.size (.lst xs),I1.laid (t':=s1.toks) (λb u e=>Heap.get?_push_of_some _ e) (Nat.le_refl _) ?_,rfl,q _ hf⟩;exact⟨z,us,0,r,Heap.get?_push_size _ rfl⟩
end
abbrev Sp:=List V->Hp->VK->XK->Prop
abbrev CXT:=List Env->Hp->Shared->XK->Value->Shared->Prop
structure Hd (P:Program) (w:World) (K:Frag) (mg:Str->Option Value) (base:Heap) (A:Around) (outer:List Env) (s:Shared) (H:Hp):Prop where
 frames:A.frames=some outer
 mod:Mod K mg base
 bs:∀b o,base.get? b=some o->s.heap.get? b=some o/\H b=none
 bsz:base.objs.size<=s.heap.objs.size
 funs:s.heap.FunFrames base outer
 frf:∀b∈frs outer,H b=none
 hok:HOk P w H s.heap
 bare:AllBare s.gens
def CE (outer:List Env)(P:Program)(w:World)(H:Hp)(s:Shared)(Q:VK)(u:Value)(s':Shared):Prop:=
 ∃v H',s'.os=s.os/\AllBare s'.gens/\Un (frs outer) [] H H' s.heap s'.heap/\HOk P w H' s'.heap/\cB v u/\Q v H'
def CR (CX:CXT)(outer:List Env)(P:Program)(w:World)(H:Hp)(s:Shared)(Q:VK)(E:XK)(r:Result)(s':Shared):Prop:=
 match r with
 | .ok (.ret u)=>CE outer P w H s Q u s'
 | .ok _=>False
 | .error e=>CX outer H s E e s'
structure aK (P:Program) (w:World) (K:Frag) (mg:Str->Option Value) (base:Heap) (CX:CXT) (k:Nat) (f:Addr) (fd:FuncData) (ps:List Str) (sp:Sp):Prop where
 len:∀vs H Q E,sp vs H Q E->vs.length=ps.length
 run:∀(A:Around) (outer:List Env) (s:Shared) (H:Hp) (args:Args) (us:List Value) (vs:List V) (Q:VK) (E:XK),gM k A->Hd P w K mg base A outer s H->BindsTo s fd args (ps.zip us)->cA vs us->sp vs H Q E->
  codeAny (model P w) A (.call (.ref f) args) (CR CX outer P w H s Q E) s
theorem Hd.make {K:Frag}(e:Hd P w K mg base A outer s H)(C:Addr)(us:List Value)(kw:List (Str × Value)):
  Hd P w K mg base (A.under (.builtin "type.__call__" ⟨.ref C :: us,kw⟩)) outer s H:=⟨by first | exact e.frames | (simpa[Around.under,Code.envs,Code.isFrame,pushEnvs] using e.frames),e.mod,e.bs,e.bsz,e.funs,e.frf,e.hok,e.bare⟩
section
variable {X:Cx} {pins:List (Addr × Obj)} {σ:St} {H:Hp} {s s':Shared}
theorem Inv.env0 (I:Inv X pins σ H s):Hd X.prog X.w X.K X.mg X.base X.A X.stack s H:=
 ⟨I.ok.frames,I.ok.mod,I.bs,Nat.le_trans I.ok.bsz I.sz,I.stack,I.stkFree,I.hok,I.bare⟩
theorem Inv.after (I:Inv X pins σ H s)(h:CE X.stack X.prog X.w H s Q u s'):EP X pins σ Q u s':=by
 obtain⟨v,H',os,bare,un,hok,r,q⟩:=h;obtain⟨hh,g,d,t,os'⟩:=s';obtain rfl:os'=s.os:=os;exact⟨v,H',I.call (h':=hh) (g':=g) (d':=d) (t':=t) (ch:=[]) un hok bare (λb z=>absurd z ⋯),r,q⟩
end
def qo4 (sp:Sp)(dvs:List V)(E:XK)(t:TA):TE:=λσ H Q=>t σ H λvs H1=>sp (vs++dvs) H1 Q E
inductive Pd (C:Addr) (m:Str) (sp:Sp) (dvs:List V) (E:XK) (t:TA) (σ:St) (Q:VK) (x:V) (H1:Hp):Prop where
 |mk (a dx fs):x=.ref a->H1 a=some (.ins C dx fs)->fs.lookup m=none->(t σ H1 λvs H2=>sp (x :: (vs++dvs)) H2 Q E)->Pd C m sp dvs E t σ Q x H1
def Ye (C:Addr)(m:Str)(sp:Sp)(dvs:List V)(E:XK)(ta:TE)(t:TA):TE:=λσ H Q=>ta σ H λx H1=>Pd C m sp dvs E t σ Q x H1
def qp4 (C:Addr)(sp:Sp)(dvs:List V)(E:XK)(t:TA):TE:=λσ H Q=>t σ H λvs H1=>∀x dx,H1 x=none->H1 dx=none->dx≠x->
 sp (.ref x :: (vs++dvs)) (upd (upd H1 dx (.own x)) x (.ins C dx [])) (λv H2=>v=.non/\Q (.ref x) H2) E
def aL (K:Frag)(fd:FuncData)(ps:List Str)(ds:List Value):Prop:=
 ∀(s:Shared) (us:List Value),K.In s.heap->(us++ds).length=ps.length->BindsTo s fd ⟨us,[]⟩ (ps.zip (us++ds))
theorem aL.all {K:Frag}(h:∀us:List Value,us.length=ps.length->bindArgs fd ⟨us,[]⟩=pure (ps.zip us)):aL K fd ps []:=λs us _ hl=>by
 rw[append_nil] at hl ⊢;exact .of_eq (h us hl)
def kX (CX:CXT)(X:Cx)(E:XK):Prop:=∀(pins:List (Addr × Obj)) (σ:St) (H:Hp) (s:Shared) (e:Value) (s':Shared),Inv X pins σ H s->CX X.stack H s E e s'->X.xe e s'
section
variable {X:Cx} {CX:CXT} {k:Nat} {f C:Addr} {fd:FuncData} {ps:List Str} {sp:Sp} {dvs:List V} {ds:List Value} {E:XK} {x m:Str} {p pos apos:Pos} {e o:Expr} {es:List Expr} {ta:TE} {t:TA}
theorem Cv (F:aK X.prog X.w X.K X.mg X.base CX k f fd ps sp)(hr:gM k X.A)(hb:aL X.K fd ps ds)(hd:cA dvs ds)(hx:kX CX X E)(I:Inv X pins σ H s)(r:cA vs us)(h:sp (vs++dvs) H Q E):wpAny (model X.prog X.w) X.A (call (.ref f) us) (EP X pins σ Q) X.xe s:=by
 have r2:cA (vs++dvs) (us++ds):=r.append hd;have hl:(us++ds).length=ps.length:=by rw[<- r2.length];exact F.len _ _ _ _ h
 refine wpAny_call (codeAny_mono (F.run X.A X.stack s H ⟨us,[]⟩ (us++ds) (vs++dvs) Q E hr I.env0 (hb s us I.kIn hl) r2 h) λr s' hq=>?_)
 cases r with
 |error e=>exact hx pins σ H s e s' I hq
 |ok fl=>
  cases fl with
  |ret u=>exact I.after hq
  |next=>exact False.elim hq
  |brk=>exact False.elim hq
  |cont=>exact False.elim hq
theorem aH (F:aK X.prog X.w X.K X.mg X.base CX k f fd ps sp)(hr:gM k X.A)(hg:Gl X x)(hm:X.mg x=some (.ref f))(hk:W.keepIn X.K (.ref f)=true)(hb:aL X.K fd ps ds)(hd:cA dvs ds)(hx:kX CX X E)(ha:PA X (e :: es) t)(hdb:(x == ("__debug__":Str))=false:=by decide)(he:starEach (e :: es) X.env=(false,eval e X.env) :: starEach es X.env:=by rfl)(hpl:(backTo pos (starEach es X.env)).any (·.1)=false:=by rfl) :
  PE X (.Call (.Name x p) (e :: es) [] pos) (qo4 sp dvs E t):=by
 intro pins s σ H Q I h;refine wpAny_Call_Name_kw (iO I hg hm ?_ hdb);refine W.callWith_K (h₀:=X.base) I.ok.mod.kin hk (thn (ha pos pins s σ H _ I h) λus s1 ⟨vs,H1,I1,r,q⟩=>⟨I1.kIn,?_⟩) he hpl;exact Cv F hr hb hd hx I1 r q
theorem Ju (he:PE X o ta)(c:Cls X.K C)(hm:gE X.K C m f)(F:aK X.prog X.w X.K X.mg X.base CX k f fd ps sp)(hr:gM k X.A)(hb:aL X.K fd ps ds)(hd:cA dvs ds)(hx:kX CX X E)(ha:PA X (e :: es) t)(hst:starEach (e :: es) X.env=(false,eval e X.env) :: starEach es X.env:=by rfl)(hpl:(backTo pos (starEach es X.env)).any (·.1)=false:=by rfl)(ht:eval (.Call (.Attribute o m apos) (e :: es) [] pos) X.env=(do
   let ov <- eval o X.env
   standAt apos.atName
   let (f,first) <- holding [ov] (getMethod ov m pl)
   callWith pos f first (backTo pos (starEach (e :: es) X.env)) (backToKw pos (keywordEach [] X.env))):=by rfl):
  PE X (.Call (.Attribute o m apos) (e :: es) [] pos) (Ye C m sp dvs E ta t):=by
 intro pins s σ H Q I h;refine W.methodCall_KW (pl:=pl) (thn (he pins s σ H _ I h) λu s1 ⟨x,H1,I1,rx,a,dx,fs,ex,ea,l,q⟩=>?_) ht;subst ex;obtain rfl:u=Value.ref a:=rx;refine pG I1 ea c hm l ?_;refine W.callWith_K (first:=[.ref a]) (h₀:=X.base) I.ok.mod.kin hm.kp (thn (ha pos pins s1 σ H1 _ I1 q) λus s2 ⟨vs,H2,I2,r,q2⟩=>⟨I2.kIn,?_⟩) hst hpl;exact Cv (us:=.ref a :: us) (vs:=.ref a :: vs) F hr hb hd hx I2 (.cons rfl r) q2
theorem dE (he:PE X o ta)(c:Cls X.K C)(hm:gE X.K C m f)(F:aK X.prog X.w X.K X.mg X.base CX k f fd ps sp)(hr:gM k X.A)(hb:aL X.K fd ps ds)(hd:cA dvs ds)(hx:kX CX X E)(ht:eval (.Call (.Attribute o m apos) [] [] pos) X.env=(do
   let ov <- eval o X.env
   standAt apos.atName
   let (f,first) <- holding [ov] (getMethod ov m pl)
   callWith pos f first (backTo pos (starEach [] X.env)) (backToKw pos (keywordEach [] X.env))):=by rfl):
  PE X (.Call (.Attribute o m apos) [] [] pos) (Ye C m sp dvs E ta qf2):=by
 intro pins s σ H Q I h;refine W.methodCall_KW (pl:=pl) (thn (he pins s σ H _ I h) λu s1 ⟨x,H1,I1,rx,a,dx,fs,ex,ea,l,q⟩=>?_) ht;subst ex;obtain rfl:u=Value.ref a:=rx;refine pG I1 ea c hm l ?_;exact W.callWith_K0 (first:=[.ref a]) I1.kIn hm.kp (Cv (us:=[.ref a]) (vs:=[.ref a]) F hr hb hd hx I1 (.cons rfl .nil) q)
structure Mk (K:Frag) (C f:Addr):Prop where
 makes:W.makesIn K C=true
 init:W.findIn K (.ref C) "__init__"=some (some (.ref f))
 fn:W.isFn K (.ref f)=true
 kp:W.keepIn K (.ref C)=true
theorem Tj (M:Mk X.K C f)(F:aK X.prog X.w X.K X.mg X.base CX k f fd ps sp)(hr:gM (k+1) X.A)(hb:aL X.K fd ps ds)(hd:cA dvs ds)(hx:kX CX X E)(I:Inv X pins σ H s)(r:cA vs us)(h:∀x dx,H x=none->H dx=none->dx≠x->sp (.ref x :: (vs++dvs)) (upd (upd H dx (.own x)) x (.ins C dx [])) (λv H2=>v=.non/\Q (.ref x) H2) E):
  wpAny (model X.prog X.w) X.A (call (.ref C) us) (EP X pins σ Q) X.xe s:=by
 have hq:=h (s.heap.objs.size+1) s.heap.objs.size (I.hok.fresh (Nat.le_succ _)) (I.hok.fresh (Nat.le_refl _)) (Nat.ne_of_lt (Nat.lt_succ_self _));have I2:=Inv.made (C:=C) I;have r2:cA (V.ref (s.heap.objs.size+1) :: (vs++dvs)) (Value.ref (s.heap.objs.size+1) :: (us++ds)):=.cons rfl (r.append hd);have hl:(Value.ref (s.heap.objs.size+1) :: us++ds).length=ps.length:=by
  have e:=r2.length;rw[F.len _ _ _ _ hq] at e;exact e.symm
 refine wpAny_call (Nw (f:=f) I.kIn M.makes M.init (beq_iff_eq.mp M.fn) (codeAny_mono (F.run _ X.stack _ _ ⟨Value.ref (s.heap.objs.size+1) :: us,[]⟩ (Value.ref (s.heap.objs.size+1) :: (us++ds)) _ _ E (hr.make C us [])
  (I2.env0.make C us []) (hb _ (Value.ref (s.heap.objs.size+1) :: us) I2.kIn hl) r2 hq) λr s' hq'=>?_))
 cases r with
 |error e=>exact hx pins σ _ _ e s' I2 hq'
 |ok fl=>
  cases fl with
  |ret u=>
   obtain⟨v,H',I3,rv,ev,q3⟩:=I2.after hq';subst ev;exact⟨rv,⟨V.ref (s.heap.objs.size+1),H',I3,rfl,q3⟩⟩
  |next=>exact False.elim hq'
  |brk=>exact False.elim hq'
  |cont=>exact False.elim hq'
theorem pY (M:Mk X.K C f)(F:aK X.prog X.w X.K X.mg X.base CX k f fd ps sp)(hr:gM (k+1) X.A)(hg:Gl X x)(hm:X.mg x=some (.ref C))(hb:aL X.K fd ps ds)(hd:cA dvs ds)(hx:kX CX X E)(ha:PA X (e :: es) t)(hdb:(x == ("__debug__":Str))=false:=by decide)(he:starEach (e :: es) X.env=(false,eval e X.env) :: starEach es X.env:=by rfl)(hpl:(backTo pos (starEach es X.env)).any (·.1)=false:=by rfl) :
  PE X (.Call (.Name x p) (e :: es) [] pos) (qp4 C sp dvs E t):=by
 intro pins s σ H Q I h;refine wpAny_Call_Name_kw (iO I hg hm ?_ hdb);refine W.callWith_K (h₀:=X.base) I.ok.mod.kin M.kp (thn (ha pos pins s σ H _ I h) λus s1 ⟨vs,H1,I1,r,q⟩=>⟨I1.kIn,?_⟩) he hpl;exact Tj M F hr hb hd hx I1 r q
end
structure aP (N P:List Str) (sc:Scope):Prop where
 kind:sc.kind=.function
 co:sc.isCoroutine=false
 gen:sc.isGenerator=false
 nd:N.Nodup
 pre:N.take P.length=P
 par:∀x∈P,sc.names.lookup x=some .local\/sc.names.lookup x=some .cell
 nofree:∀y∈sc.names,y.2≠.free
theorem sK9 (a:sc.kind=.function:=by rfl)(b:sc.isCoroutine=false:=by rfl)(c:sc.isGenerator=false:=by rfl)(d:N.take P.length=P:=by rfl)(e:(decide N.Nodup&&decide (∀x∈P,sc.names.lookup x=some .local\/sc.names.lookup x=some .cell)&&decide (∀y∈sc.names,y.2≠.free))=true:=by decide +kernel):aP N P sc:=by
 rw[Bool.and_eq_true,Bool.and_eq_true] at e
 exact ⟨a,b,c,of_decide_eq_true e.1.1,d,of_decide_eq_true e.1.2,of_decide_eq_true e.2⟩
theorem zl9 (n:Nat)(h:n<=16:=by decide):n<=sizeLine:=Nat.le_trans h ∅
abbrev kI9 (K:Frag)(g:Addr):Prop:=W.keepIn K (.ref g)=true
abbrev mI9 (mg:Str->Option Value)(x:Str)(g:Addr):Prop:=mg x=some (.ref g)
theorem zB {kindOf:Str->Option NameKind}:∀{binds:List (Str × Value)} {m:Str->Option Value},(∀v,(x,v)∉binds)->bindL kindOf binds m x=m x
 | [],_,_=>rfl
 | (n,v) :: r,m,h=>by
  unfold bindL;rw[zB λw hw=>h w (mem_cons_of_mem _ hw)];split
  ·have:x≠n:=by rintro rfl;exact h v mem_cons_self
   simp[this]
  ·rfl
theorem zT {kindOf:Str->Option NameKind}:∀{binds:List (Str × Value)} {m:Str->Option Value},(∀v,(x,v)∉binds)->bindC kindOf binds m x=m x
 | [],_,_=>rfl
 | (n,v) :: r,m,h=>by
  unfold bindC;rw[zT λw hw=>h w (mem_cons_of_mem _ hw)];split
  ·rfl
  ·have:x≠n:=by rintro rfl;exact h v mem_cons_self
   simp[this]
theorem zC {kindOf:Str->Option NameKind}:∀{P:List Str} {vs:List Value} {i:Nat} {m:Str->Option Value},P.Nodup->P[i]?=some x->vs[i]?=some v->kindOf x=some .local->
  bindL kindOf (P.zip vs) m x=some v
 | [],_,_,_,_,h,_,_=>by simp at h
 |_ :: _,[],_,_,_,_,h,_=>by simp at h
 |p :: P,w :: vs,0,m,nd,h1,h2,hk=>by
  simp at h1 h2;subst h1;subst h2;show bindL kindOf ((p,w) :: P.zip vs) m p=_;unfold bindL;rw[zB λv hv=>(nodup_cons.mp nd).1 (of_mem_zip hv).1,if_pos hk];simp
 |p :: P,w :: vs,i+1,m,nd,h1,h2,hk=>by
  show bindL kindOf ((p,w) :: P.zip vs) m x=_;unfold bindL;exact zC (i:=i) (nodup_cons.mp nd).2 (by simpa using h1) (by simpa using h2) hk
theorem zS {kindOf:Str->Option NameKind}:∀{P:List Str} {vs:List Value} {i:Nat} {m:Str->Option Value},P.Nodup->P[i]?=some x->vs[i]?=some v->kindOf x≠some .local->
  bindC kindOf (P.zip vs) m x=some v
 | [],_,_,_,_,h,_,_=>by simp at h
 |_ :: _,[],_,_,_,_,h,_=>by simp at h
 |p :: P,w :: vs,0,m,nd,h1,h2,hk=>by
  simp at h1 h2;subst h1;subst h2;show bindC kindOf ((p,w) :: P.zip vs) m p=_;unfold bindC;rw[zT λv hv=>(nodup_cons.mp nd).1 (of_mem_zip hv).1,if_neg hk];simp
 |p :: P,w :: vs,i+1,m,nd,h1,h2,hk=>by
  show bindC kindOf ((p,w) :: P.zip vs) m x=_;unfold bindC;exact zS (i:=i) (nodup_cons.mp nd).2 (by simpa using h1) (by simpa using h2) hk
def start (N:List Str)(vs:List V):St:=vs.map some++replicate (N.length - vs.length) none
def yT (CX:CXT)(P:Program)(w:World)(K:Frag)(mg:Str->Option Value)(base:Heap)(N:List Str)(qual:Str)(scope:Scope)(f:Addr)(cd:Value)(A:Around)(outer:List Env)(s:Shared)(H:Hp)(E:XK):Cx where
 prog:=P
 w:=w
 K:=K
 mg:=mg
 base:=base
 A:=A.deeper (envOfC qual scope s.heap.objs.size f cd)
 N:=N
 s₀:=s
 H₀:=H
 env:=envOfC qual scope s.heap.objs.size f cd
 outer:=outer
 stack:=envOfC qual scope s.heap.objs.size f cd :: outer
 ex:=[]
 calm:=true
 fn:=λ_=>true
 pn:=[]
 xe:=λe s'=>wpAny (model P w) (A.deeper (envOfC qual scope s.heap.objs.size f cd)) (leaving (envOfC qual scope s.heap.objs.size f cd) e) (λ_ s''=>CX outer H s E e s'') (λe' s''=>CX outer H s E e' s'') s'
theorem Ej {sc:Scope}(h:sc.names.lookup x=some .cell):∃c,(cellsFrom n sc.names []).lookup x=some c:=by
 have q:=W.cellsFrom_some sc.names n [] (.inl h);exact Option.isSome_iff_exists.mp q
theorem Nk {K:Frag}(S:aP N ps scope)(hd:A.handled=none)(e0:Hd P w K mg base A outer s H)(hl:vs.length=ps.length)(r:cA vs us)(x:InCallC s s.heap.objs.size (bindL (envOfC qual scope s.heap.objs.size f cd).kindOf (ps.zip us) λ_=>none) (cellsFrom (s.heap.objs.size+1) scope.names []) (bindC (envOfC qual scope s.heap.objs.size f cd).kindOf (ps.zip us) λ_=>none) s1):
  Inv (yT CX P w K mg base N qual scope f cd A outer s H E) [] (start N vs) H s1:=by
 have hpl:ps.length<=N.length:=by have:=congrArg List.length S.pre;rw[length_take] at this;lia
 obtain⟨h1,tk,rfl,hk⟩:=x.done;have noA:∀b:Addr,b∉(yT CX P w K mg base N qual scope f cd A outer s H E).ex:=λb z=>absurd (show b∈([]:List Addr) from z) ⋯;refine⟨⟨e0.mod,S.kind,rfl,rfl,Nat.le_refl _,λy z c h1 h2=>?_,λy hy=>?_,λy c _ h=>?_,λ_=>hd,Around.frames_deeper e0.frames,.inr ⟨rfl,rfl⟩,λb z=>absurd z (noA b),e0.bs,e0.bsz,λb _ _=>noA b,λb z=>absurd z (noA b),e0.funs,e0.frf⟩,
  rfl,e0.bare,Un.kept hk,⟨_,x.toInCall.ns,λi y v h1 h2 h3=>?_⟩,λy c h=>⟨_,x.cell y c h⟩,e0.hok.fresh (Nat.le_refl _),λy c h=>?_,λp hp=>absurd (show p∈([]:List (Addr × Obj)) from hp) ⋯,e0.hok.kept hk,?_⟩
 ·exact name_of_addr x.apart (PySem.mem_of_lookup h1) (PySem.mem_of_lookup h2)
 ·have hy:scope.names.lookup y=some .cell\/scope.names.lookup y=some .free:=hy;rcases hy with hy | hy
  ·exact Ej hy
  ·exact absurd rfl (S.nofree _ (PySem.mem_of_lookup hy))
 ·exact Nat.le_of_lt (x.above y c (PySem.mem_of_lookup h))
 ·have hi:i < vs.length:=by
   unfold start at h2
   by_cases hi:i < vs.length
   ·exact hi
   ·rw[getElem?_append_right (by simpa using hi)] at h2;rw[getElem?_replicate] at h2;split at h2<;>cases h2
  have ha:vs[i]?=some v:=by
   unfold start at h2;rw[getElem?_append_left (by simpa using hi),getElem?_map] at h2
   cases e:vs[i]? with
   |none=>rw[e] at h2;cases h2
   |some a=>rw[e] at h2;cases h2;rfl
  obtain⟨u,hu,rv⟩:=r.get ha;have hp:ps[i]?=some y:=by
   rw[<- S.pre,getElem?_take_of_lt ()];exact h1
  have ndP:ps.Nodup:=by rw[<- S.pre];exact S.nd.sublist (take_sublist _ _)
  refine⟨u,rv,?_⟩;rcases S.par y (mem_of_getElem? hp) with k | k
  ·exact .inl ⟨k,zC ndP hp hu k⟩
  ·obtain⟨c,e⟩:=Ej (n:=s.heap.objs.size+1) k;refine .inr ⟨.inl k,c,e,?_⟩;have q:=x.cell y c e;rw[zS ndP hp hu (by show scope.names.lookup y≠_;rw[k];decide)] at q;exact q
 ·exact e0.hok.fresh (Nat.le_of_lt (x.above y c (PySem.mem_of_lookup h)))
 ·unfold start;show _=N.length;rw[List.length_append,length_map,length_replicate];lia
theorem qj6 {K:Frag}{dV kV doc pm cdv ct oc:Value}(lk:K.lookup f=some ⟨oc,od,.func (W.fnOf name qual params body scope dV kV doc pm an cdv ct),osl⟩)(hcd:W.codeIn K cdv qual=true)(S:aP N ps scope)(len:∀vs H Q E,sp vs H Q E->vs.length=ps.length)(hbody:∀(A:Around) (outer:List Env) (s:Shared) (H:Hp) (vs:List V) (Q:VK) (E:XK),gM k (A.deeper (envOfC qual scope s.heap.objs.size f cdv))->sp vs H Q E->
   ∃t,PSs (yT CX P w K mg base N qual scope f cdv A outer s H E) body t/\t { nx:=λ_ H'=>Q .non H',rt:=Q } (start N vs) H):
  aK P w K mg base CX (k+1) f (W.fnOf name qual params body scope dV kV doc pm an cdv ct) ps sp:=by
 refine⟨len,λA outer s H args us vs Q E hr e0 hb r hsp=>?_⟩;have hl:=len _ _ _ _ hsp;have KX:K.In s.heap:=e0.mod.kin.keeps λb o e=>(e0.bs b o e).1;have lim:s.heap.NoLimit:=e0.mod.nolimit.keeps λb o e=>(e0.bs b o e).1;have hkind:∀y∈ps.zip us,scope.names.lookup y.1=some .local\/(scope.names.lookup y.1=some .cell/\((cellsFrom (s.heap.objs.size+1) scope.names []).lookup y.1).isSome=true):=λ⟨n,v⟩ hy=>by
  rcases S.par n (of_mem_zip hy).1 with q | q
  ·exact .inl q
  ·exact .inr ⟨q,W.cellsFrom_some _ _ _ (.inl q)⟩
 refine codeAny_call_function hr.depth (KX _ _ lk) rfl S.co S.gen rfl (W.codeRec_of KX hcd) (hb _ _ _ _ ?_);refine wpAny_newFunctionEnv_cells S.kind hkind λenv he s1 x=>?_;subst he;refine⟨lim.keeps x.toInCall.keep,codeAny_func ?_⟩;obtain⟨t,ht,hq⟩:=hbody A outer s H vs Q E (hr.deeper _) hsp;have I:Inv (yT CX P w K mg base N qual scope f cdv A outer s H E) [] (start N vs) H s1:=Nk S hr.hd e0 hl r x;refine wpAny_mono (ht [] s1 (start N vs) H _ I hq) (λfl s' hs=>?_) λe s' hs=>hs;have fin:∀{σ':St} {H':Hp} {v:V} {u:Value},Inv (yT CX P w K mg base N qual scope f cdv A outer s H E) [] σ' H' s'->cB v u->Q v H'->CE outer P w H s Q u s':=
  λ{σ' H' v u} J rv q=>⟨v,H',J.os,J.bare,J.base,J.hok,rv,q⟩
 cases fl with
 |ret u=>
  obtain⟨v,σ',H',J,rv,q⟩:=hs;exact fin J rv q
 |next=>
  obtain⟨σ',H',J,q⟩:=hs;exact fin (v:=V.non) (u:=Value.none) J rfl q
 |brk=>
  obtain⟨_,_,_,q⟩:=hs;exact False.elim q
 |cont=>
  obtain⟨_,_,_,q⟩:=hs;exact False.elim q
section
variable {X:Cx} {x:Str} {p pos:Pos} {e:Expr} {es:List Expr} {t:TA} {id T:String} {r:List V->Hp->VK->Prop}
def tCB (r:List V->Hp->VK->Prop)(t:TA):TE:=λσ H Q=>t σ H λvs H1=>r vs H1 Q
theorem bO (hc:kC X (.builtin id) r)(hg:Gl X x)(hm:X.mg x=none)(hv:bootBuiltins x=some (.builtin id))(ha:PA X (e :: es) t)(hn:x≠"__name__":=by decide)(hdb:(x == ("__debug__":Str))=false:=by decide)(he:starEach (e :: es) X.env=(false,eval e X.env) :: starEach es X.env:=by rfl)(hpl:(backTo pos (starEach es X.env)).any (·.1)=false:=by rfl):PE X (.Call (.Name x p) (e :: es) [] pos) (tCB r t):=by
 intro pins s σ H Q I h;refine wpAny_Call_Name_kw (jV I hg hm hv ?_ hn hdb);exact PyProof.Rows.callWith_builtin1 (thn (ha pos pins s σ H _ I h) λus s1 ⟨vs,H1,I1,r1,q1⟩=>hc pins s1 σ H1 vs us Q I1 r1 q1) he hpl
theorem kB (hc:kC X (.type T) r)(hg:Gl X x)(hm:X.mg x=none)(hv:bootBuiltins x=some (.type T))(ha:PA X (e :: es) t)(hn:x≠"__name__":=by decide)(hdb:(x == ("__debug__":Str))=false:=by decide)(he:starEach (e :: es) X.env=(false,eval e X.env) :: starEach es X.env:=by rfl)(hpl:(backTo pos (starEach es X.env)).any (·.1)=false:=by rfl):PE X (.Call (.Name x p) (e :: es) [] pos) (tCB r t):=by
 intro pins s σ H Q I h;refine wpAny_Call_Name_kw (jV I hg hm hv ?_ hn hdb);exact PyProof.Rows.callWith_type1 (thn (ha pos pins s σ H _ I h) λus s1 ⟨vs,H1,I1,r1,q1⟩=>hc pins s1 σ H1 vs us Q I1 r1 q1) he hpl
end
end L2
namespace HT
open PySem PyProof.Rows
section
variable {prog:Program} {w:World} {A:Around} {E:Value->Shared->Prop} {s:Shared}
def sIx (n d:Nat):Option Int->Nat
 |none=>d
 |some v=>if v < 0 then (v+(n:Int)).toNat else min v.toNat n
end
end HT
namespace L2
open PySem PySem.Spec PyProof.Rows
abbrev TO:=St->Hp->(Option Int->Hp->Prop)->Prop
def PO (X:Cx)(e:Option Expr)(t:TO):Prop:=
 ∀(pins:List (Addr × Obj)) (s:Shared) (σ:St) (H:Hp) (Q:Option Int->Hp->Prop),Inv X pins σ H s->t σ H Q->
  wpAny (model X.prog X.w) X.A (evalPart e X.env) (λu s'=>∃o H',Inv X pins σ H' s'/\IsPart u o/\Q o H') X.xe s
def Ua:TO:=λ_ H Q=>Q none H
def ql8 (t:TE):TO:=λσ H Q=>t σ H λx H1=>∃i,x=.int i/\Q (some i) H1
section
variable {X:Cx} {e:Expr} {te:TE} {lo hi:Option Expr} {tl th:TO} {pos p2:Pos}
theorem qR:PO X none Ua:=by
 intro pins s σ H Q I h;rw[evalPart_none];exact wpAny_pure ⟨none,H,I,.none,h⟩
theorem iV (h:PE X e te):PO X (some e) (ql8 te):=by
 intro pins s σ H Q I hw;rw[evalPart_some];refine thn (h pins s σ H _ I hw) λu s1 ⟨x,H1,I1,r1,q1⟩=>?_;obtain⟨i,rfl,q⟩:=q1;obtain⟨t,rfl⟩:=r1;exact⟨some i,H1,I1,.int i t,q⟩
def SlR (X:Cx)(r:V->Option Int->Option Int->Hp->VK->Prop):Prop:=
 ∀(pins:List (Addr × Obj)) (s:Shared) (σ:St) (H:Hp) (x:V) (v vl vu:Value) (lo hi:Option Int) (sl:Addr) (Q:VK),Inv X pins σ H s->cB x v->s.heap.IsSliceOf sl vl vu .none->IsPart vl lo->IsPart vu hi->r x lo hi H Q->
  ∃T id,typeLookup (.type T) "__getitem__"=pure (some (.builtin id))/\s.TypeIs v T/\wpAny (model X.prog X.w) X.A (getItem v (.ref sl)) (EP X pins σ Q) X.xe s
def tSl (r:V->Option Int->Option Int->Hp->VK->Prop)(te:TE)(tl th:TO):TE:=λσ H Q=>te σ H λx H1=>tl σ H1 λl H2=>th σ H2 λu H3=>r x l u H3 Q
theorem jG (hr:SlR X r)(he:PE X e te)(hl:PO X lo tl)(hu:PO X hi th):PE X (.Subscript e (.Slice lo hi none p2) pos) (tSl r te tl th):=by
 intro pins s σ H Q I h;refine Subscript_ (thn (he pins s σ H _ I h) λv s1 ⟨x,H1,I1,r1,q1⟩=>?_);refine wpAny_Slice (thn (hl pins s1 σ H1 _ I1 q1) λvl s2 ⟨l,H2,I2,pl,q2⟩=>thn (hu pins s2 σ H2 _ I2 q2) λvu s3 ⟨u,H3,I3,pu,q3⟩=>?_);rw[evalPart_none];refine wpAny_pure ?_;have I4:Inv X pins σ H3 { s3 with heap:=s3.heap.push { cls:=.type "slice",data:=.fields #[vl,vu,.none] } }:=I3.kept (t':=s3.toks) λb ob q=>Heap.get?_push_of_some _ q;obtain⟨T,id,hT,ht,hg⟩:=hr pins { s3 with heap:=s3.heap.push { cls:=.type "slice",data:=.fields #[vl,vu,.none] } } σ H3 x v vl vu l u s3.heap.objs.size Q I4 r1 (Heap.IsSliceOf.new ..) pl pu q3;show wpAny (model X.prog X.w) X.A (subscriptTail e (.Slice lo hi none p2) v (.ref s3.heap.objs.size)) (EP X pins σ Q) X.xe { s3 with heap:=s3.heap.push { cls:=.type "slice",data:=.fields #[vl,vu,.none] } };exact tail_any (ops:=[.ref s3.heap.objs.size,v]) ht hT hg (by with_unfolding_all rfl)
def mB (xs:List V)(lo hi:Option Int):List V:=(xs.drop (HT.sIx xs.length 0 lo)).take (HT.sIx xs.length xs.length hi - HT.sIx xs.length 0 lo)
theorem Dg (xs:List V)(lo hi:Option Int):(mB xs lo hi).length<=xs.length:=by
 unfold mB;exact Nat.le_trans (length_take_le' _ _) (by rw[length_drop];exact Nat.sub_le _ _)
end
def ixN (n:Nat)(i:Int):Option Nat:=if 0<=i then (if i < n then some i.toNat else none) else if -(n:Int)<=i then some (i+n).toNat else none
def atI {α:Type}(xs:List α)(i:Int):Option α:=(ixN xs.length i).bind λj=>xs[j]?
theorem Ks (h:ixN n i=some j):seqIndex? i n=some j/\j < n/\-(n:Int)<=i/\i < n:=by
 unfold ixN at h
 by_cases h0:0<=i
 ·rw[if_pos h0] at h
  by_cases h1:i < n
  ·rw[if_pos h1] at h;have e:i.toNat=j:=Option.some.inj h;exact⟨by rw[seqIndex_of h0 h1,e],(),(),h1⟩
  ·rw[if_neg h1] at h;cases h
 ·rw[if_neg h0] at h
  by_cases h1:-(n:Int)<=i
  ·rw[if_pos h1] at h;have e:(i+n).toNat=j:=Option.some.inj h;exact⟨by rw[seqIndex_neg () h1,e],(),h1,()⟩
  ·rw[if_neg h1] at h;cases h
theorem Kc (h:atI xs i=some v):∃j,seqIndex? i xs.length=some j/\xs[j]?=some v/\j < xs.length/\-(xs.length:Int)<=i/\i < xs.length:=by
 unfold atI at h
 cases e:ixN xs.length i with
 |none=>rw[e] at h;cases h
 |some j=>
  rw[e] at h;obtain⟨h1,h2,h3,h4⟩:=Ks e;exact⟨j,h1,h,h2,h3,h4⟩
theorem bQ {xs:List α}{j:Nat}{v:α}(h:xs[j]?=some v):atI xs (j:Int)=some v:=by
 have hj:j < xs.length:=(List.getElem?_eq_some_iff.mp h).1;have e:ixN xs.length (j:Int)=some j:=by
  unfold ixN;rw[if_pos (),if_pos ()];simp
 unfold atI;rw[e];exact h
theorem Dw (xs:List α)(v:α):atI (xs++[v]) (-1)=some v:=by
 have hl:(xs++[v]).length=xs.length+1:=by simp
 have e:ixN (xs++[v]).length (-1)=some xs.length:=by
  unfold ixN;rw[hl,if_neg ∅,if_pos ()];congr 1;lia
 unfold atI;rw[e];show (xs++[v])[xs.length]?=some v;simp
def Uf (b:Expr):Prop:=∀o i,subscripted b false o i=operate [o,i] (getItem o i)
def IxR (X:Cx)(r:R2):Prop:=
 ∀(value slice:Expr) (pins:List (Addr × Obj)) (s:Shared) (σ:St) (H:Hp) (x y:V) (v u:Value) (Q:VK),Inv X pins σ H s->cB x v->cB y u->r x y H Q->
  subscripted slice false v u=operate [v,u] (getItem v u)->wpAny (model X.prog X.w) X.A (subscriptTail value slice v u) (EP X pins σ Q) X.xe s
def MtR (X:Cx)(id:String)(r:V->List V->Hp->VK->Prop):Prop:=
 ∀(pins:List (Addr × Obj)) (s:Shared) (σ:St) (H:Hp) (x:V) (xs:List V) (v:Value) (us:List Value) (Q:VK),Inv X pins σ H s->cB x v->cA xs us->r x xs H Q->
  wpAny (model X.prog X.w) X.A (call (.builtin id) (v :: us)) (EP X pins σ Q) X.xe s
section
variable {X:Cx} {a b:Expr} {ta tb:TE} {pos:Pos}
theorem aT (hr:IxR X r)(ha:PE X a ta)(hb:PE X b tb)(hs:Uf b):PE X (.Subscript a b pos) (tOp r ta tb):=by
 intro pins s σ H Q I h;exact Subscript_ (Zf ha hb I h λv u s2 x y H2 I2 rx ry q=>hr a b pins s2 σ H2 x y v u Q I2 rx ry q (hs _ _))
inductive qf1 (K:Frag) (x:V) (y:V) (H:Hp) (Q:VK):Prop where
 |mk (p xs i v):x=.ref p->y=.int i->SqL K H p xs->atI xs i=some v->Q v H->qf1 K x y H Q
inductive Po (K:Frag) (x:V) (y:V) (H:Hp) (Q:VK):Prop where
 |mk (p xs i v):x=.ref p->y=.int i->SqT K H p xs->atI xs i=some v->Q v H->Po K x y H Q
theorem bM:IxR X (qf1 X.K):=by
 intro value slice pins s σ H x y v u Q I rx ry h hs;obtain⟨p,xs,i,z,rfl,rfl,hq,he,q⟩:=h
 cases rx
 obtain⟨t,rfl⟩:=ry;obtain⟨its,r,pl,hz⟩:=I.list hq;obtain⟨j,h1,h2,h3,h4,h5⟩:=Kc he;obtain⟨w,ew,rw'⟩:=r.get h2;have hl:=r.length;have hn:=Al;have fin:EP X pins σ Q w s:=⟨z,H,I,rw',q⟩
 by_cases h0:0<=i
 ·have hj:i.toNat=j:=by
   rw[seqIndex_of h0 h5] at h1;exact Option.some.inj h1
  exact item_listR pl.isList h0 () (by rw[hj];simpa using ew) fin hs
 ·have hj:(i+(its.toArray.size:Int)).toNat=j:=by
   rw[seqIndex_neg () h4] at h1;rw[size_toArray,<- hl];exact Option.some.inj h1
  exact subscriptTail_builtinR (x:=w) pl.isList.typeIs slot_list_getitem.lookup
   (wpAny_getItem_list_neg (Q:=λr s'=>r=w/\EP X pins σ Q r s') pl.isList () (by rw[size_toArray]<;>lia) () (by rw[hj];simpa using ew) ⟨rfl,fin⟩) hs
theorem bL:IxR X (Po X.K):=by
 intro value slice pins s σ H x y v u Q I rx ry h hs;obtain⟨p,xs,i,z,rfl,rfl,hq,he,q⟩:=h
 cases rx
 obtain⟨t,rfl⟩:=ry;obtain⟨its,r,pl,hz⟩:=I.tuple hq;obtain⟨j,h1,h2,h3,h4,h5⟩:=Kc he;obtain⟨w,ew,rw'⟩:=r.get h2;have hl:=r.length;have hn:=Al;have fin:EP X pins σ Q w s:=⟨z,H,I,rw',q⟩
 exact subscriptTail_builtinR (x:=w) pl.typeIs slot_tuple_getitem.lookup
  (getItem_tuple (j:=j) (Q:=λr s'=>r=w/\EP X pins σ Q r s') pl () () (by rw[size_toArray,<- hl];exact h1) (by simpa using ew) ⟨rfl,fin⟩) hs
theorem Hq (its:List Value)(n j:Nat)(u:Value):Obj.mapSeq (·.setIfInBounds j u) { cls:=.type "list",data:=.seq its.toArray n }={ cls:=.type "list",data:=.seq (its.set j u).toArray n }:=by
 simp[Obj.mapSeq]
theorem Inv.lst (I:Inv X pins σ H s)(h:H p=some (.lst xs)):
  ∃(its:List Value) (n:Nat),cA xs its/\s.heap.get? p=some { cls:=.type "list",data:=.seq its.toArray n }/\xs.length<=sizeLine:=by
 obtain⟨z,its,n,r,e⟩:=I.hok p _ h;exact⟨its,n,r,e,z⟩
theorem Inv.lstUpd {its its':List Value}(I:Inv X pins σ H s)(h:H p=some (.lst xs))(ho:s.heap.get? p=some { cls:=.type "list",data:=.seq its.toArray n })(hf:f { cls:=.type "list",data:=.seq its.toArray n }={ cls:=.type "list",data:=.seq its'.toArray n' })(r:cA ys its')(hz:ys.length<=sizeLine)(t:Nat):
  Inv X pins σ (upd H p (.lst ys)) { s with heap:=s.heap.update p f,toks:=t }:=by
 have e:(s.heap.update p f).get? p=some { cls:=.type "list",data:=.seq its'.toArray n' }:=by
  rw[Heap.get?_update_self f ho (by rw[hf]<;>rfl),hf]
 refine I.write (x:=p) (e:=p) (by rw[h];trivial) (.inl rfl) (λb u hb q=>(Heap.get?_update_other _ _ (Ne.symm hb)).trans q) ⟨_,e⟩ ?_;exact⟨hz,its',n',r,e⟩
def qj0:V->V->V->Hp->(Hp->Prop)->Prop:=λo i v H Q=>∃p xs k j,o=.ref p/\i=.int k/\H p=some (.lst xs)/\ixN xs.length k=some j/\Q (upd H p (.lst (xs.set j v)))
theorem kK:ql5 X qj0:=by
 intro pins s σ H o i v ov iv u Q I ro ri rv h;obtain⟨p,xs,k,j,rfl,rfl,hp,hj,q⟩:=h
 cases ro
 obtain⟨t,rfl⟩:=ri;obtain⟨its,n,r,ho,hz⟩:=I.lst hp;obtain⟨h1,h2,h3,h4⟩:=Ks hj;have hl:=r.length;have hn:=Al;have I':Inv X pins σ (upd H p (.lst (xs.set j v))) { s with heap:=s.heap.update p (Obj.mapSeq (·.setIfInBounds j u)) }:=
  I.lstUpd hp ho (Hq its n j u) (r.set rv j) (by rw[length_set];exact hz) s.toks
 by_cases h0:0<=k
 ·have hk:k.toNat=j:=by
   rw[seqIndex_of h0 h4] at h1;exact Option.some.inj h1
  exact W.ki_setAt ho h0 () (by rw[size_toArray,<- hl];exact h4) (by rw[hk];exact⟨_,I',q⟩)
 ·have hk:(k+(its.toArray.size:Int)).toNat=j:=by
   rw[seqIndex_neg () h3] at h1;rw[size_toArray,<- hl];exact Option.some.inj h1
  exact W.ki_setBack ho () (by rw[size_toArray,<- hl];exact h3) () (by rw[hk];exact⟨_,I',q⟩)
theorem sbA (lo hi:Option Int)(n:Nat):(sliceBounds lo hi none n).1=((HT.sIx n 0 lo:Nat):Int):=by
 cases lo with
 |none=>simp[sliceBounds,HT.sIx]
 |some i=>
  simp only[sliceBounds,HT.sIx,Option.getD_none,show (1:Int) > 0 by decide,if_true]
  by_cases h:i < 0
  ·simp only[h,if_true]<;>lia
  ·simp only[h,if_false]<;>lia
theorem Cj (lo hi:Option Int)(n:Nat):(sliceBounds lo hi none n).1=((HT.sIx n 0 lo:Nat):Int)/\(sliceBounds lo hi none n).2.1=((HT.sIx n n hi:Nat):Int)/\(sliceBounds lo hi none n).2.2=1:=by
 refine⟨sbA lo hi n,?_,rfl⟩
 cases hi with
 |none=>simp[sliceBounds,HT.sIx]
 |some i=>exact sbA (some i) lo n
theorem yP (its:List Value)(lo hi:Option Int):slicePick its.toArray lo hi none=((its.drop (HT.sIx its.length 0 lo)).take (HT.sIx its.length its.length hi - HT.sIx its.length 0 lo)).toArray:=by
 obtain⟨h1,h2,h3⟩:=Cj lo hi its.toArray.size;unfold slicePick;rw[h1,h2,h3];simp only[sliceRange_one,pick_run,size_toArray]<;>rfl
inductive Zr (K:Frag) (x:V) (lo:Option Int) (hi:Option Int) (H:Hp) (Q:VK):Prop where
 |mk (a xs):x=.ref a->SqL K H a xs->(∀p,H p=none->Q (.ref p) (upd H p (.lst (mB xs lo hi))))->Zr K x lo hi H Q
theorem kY:SlR X (Zr X.K):=by
 intro pins s σ H x v vl vu lo hi sl Q I rx hs pl pu h;obtain⟨a,xs,rfl,hx,q⟩:=h
 cases rx
 obtain⟨its,r,ht,hz⟩:=I.list hx;have hlen:=r.length;refine⟨"list",_,slot_list_getitem.lookup,ht.isList.typeIs,?_⟩;refine wpAny_getItem_list_slice ht.isList hs pl pu .none ⋯ ?_ (by rw[size_toArray]<;>lia);rw[yP,<- hlen];refine⟨.ref s.heap.objs.size,_,I.laid (t':=s.toks) (o:=.lst (mB xs lo hi)) (λb ob q=>Heap.get?_push_of_some _ q) (Nat.le_refl _) ?_,rfl,q _ (I.hok.fresh (Nat.le_refl _))⟩;exact⟨Nat.le_trans (Dg xs lo hi) hz,_,0,(r.drop (HT.sIx xs.length 0 lo)).take (HT.sIx xs.length xs.length hi - HT.sIx xs.length 0 lo),Heap.get?_push_size _ rfl⟩
def oV:V->Bool
 | .non=>true
 | .bl _=>true
 | .int _=>true
 | .str _=>true
 |_=>false
def eqV:V->V->Bool
 | .non,.non=>true
 | .bl a,.bl b=>a == b
 | .bl a,.int b=>(if a then 1 else 0) == b
 | .int a,.bl b=>a == (if b then 1 else 0)
 | .int a,.int b=>a == b
 | .str a,.str b=>a == b
 |_,_=>false
theorem qg6 (ry:cB y u)(rx:cB x v)(fy:oV y=true)(fx:oV x=true):SeqAt.EqAt A s u v (eqV y x):=by
 cases y with
 |non=>
  cases ry
  cases x with
  |non=>cases rx;exact SeqAt.EqAt.same _
  |bl b=>cases rx;exact SeqAt.EqAt.none_bool b
  |int b=>obtain⟨t,rfl⟩:=rx;exact SeqAt.EqAt.none_int b t
  |str b=>obtain⟨t,rfl⟩:=rx;exact SeqAt.EqAt.none_str b t
  |_=>exact absurd (show false=true from fx) Bool.false_ne_true
 |bl a=>
  cases ry
  cases x with
  |non=>cases rx;exact SeqAt.EqAt.bool_none a
  |bl b=>cases rx;exact SeqAt.EqAt.bool_bool a b
  |int b=>obtain⟨t,rfl⟩:=rx;exact SeqAt.EqAt.bool_int a b t
  |str b=>obtain⟨t,rfl⟩:=rx;exact SeqAt.EqAt.bool_str a b t
  |_=>exact absurd (show false=true from fx) Bool.false_ne_true
 |int a=>
  obtain⟨t',rfl⟩:=ry
  cases x with
  |non=>cases rx;exact SeqAt.EqAt.int_none a t'
  |bl b=>cases rx;exact SeqAt.EqAt.int_bool a t' b
  |int b=>obtain⟨t,rfl⟩:=rx;exact SeqAt.EqAt.int_int a t' b t
  |str b=>obtain⟨t,rfl⟩:=rx;exact SeqAt.EqAt.int_str a t' b t
  |_=>exact absurd (show false=true from fx) Bool.false_ne_true
 |str a=>
  obtain⟨t',rfl⟩:=ry
  cases x with
  |non=>cases rx;exact SeqAt.EqAt.str_none a t'
  |bl b=>cases rx;exact SeqAt.EqAt.str_bool a t' b
  |int b=>obtain⟨t,rfl⟩:=rx;exact SeqAt.EqAt.str_int a t' b t
  |str b=>obtain⟨t,rfl⟩:=rx;exact SeqAt.EqAt.str_str a t' b t
  |_=>exact absurd (show false=true from fx) Bool.false_ne_true
 |_=>exact absurd (show false=true from fy) Bool.false_ne_true
def eqU (x:V)(u:Value):Bool:=match u with
 | .none=>eqV .non x
 | .bool b=>eqV (.bl b) x
 | .int i _=>eqV (.int i) x
 | .str z _=>eqV (.str z) x
 |_=>false
theorem Qa (r:cB y u)(f:oV y=true):eqU x u=eqV y x:=by
 cases y with
 |non=>cases r;rfl
 |bl b=>cases r;rfl
 |int i=>obtain⟨t,rfl⟩:=r;rfl
 |str z=>obtain⟨t,rfl⟩:=r;rfl
 |_=>exact absurd (show false=true from f) Bool.false_ne_true
theorem Cu:∀{xs:List V} {us:List Value},cA xs us->xs.all oV=true->us.any (eqU x)=xs.any λy=>eqV y x
 |_,_,.nil,_=>rfl
 |y :: xs,u :: us,.cons r t,f=>by
  rw[all_cons,Bool.and_eq_true] at f;rw[any_cons,any_cons,Qa r f.1,Cu t f.2]
theorem xO (rx:cB x v)(fx:oV x=true):∀{xs:List V} {us:List Value},cA xs us->xs.all oV=true->∀u∈us,SeqAt.EqAt A s u v (eqU x u)
 |_,_,.nil,_=>λu hu=>by cases hu
 |y :: xs,u :: us,.cons r t,f=>λu' hu=>by
  rw[all_cons,Bool.and_eq_true] at f;rcases mem_cons.mp hu with rfl | hu
  ·rw[Qa r f.1];exact qg6 r rx f.1 fx
  ·exact xO rx fx t f.2 u' hu
def inV (x:V)(xs:List V):Bool:=xs.any λy=>eqV y x
inductive rIn (K:Frag) (neg:Bool) (x:V) (y:V) (H:Hp) (Q:VK):Prop where
 |mk (p xs):y=.ref p->(SqL K H p xs\/SqT K H p xs)->oV x=true->xs.all oV=true->Q (.bl (if neg then !inV x xs else inV x xs)) H->rIn K neg x y H Q
theorem Lx:OpR X (compareOp .In) (rIn X.K false):=by
 intro pins s σ H x y v u Q I rx ry h;obtain⟨p,xs,rfl,hq,fx,fs,q⟩:=h
 cases ry
 rcases hq with hq | hq
 ·obtain⟨its,r,pl,hz⟩:=I.list hq;refine SeqAt.in_listAt (eqU x) pl.isList (λw hw=>xO rx fx r fs w (by simpa using hw)) ⟨.bl _,H,I,rfl,?_⟩;rw[show its.toArray.any (eqU x)=its.any (eqU x) by simp,Cu r fs];exact q
 ·obtain⟨its,r,pl,hz⟩:=I.tuple hq;refine SeqAt.in_tupleAt (eqU x) pl (λw hw=>xO rx fx r fs w (by simpa using hw)) ⟨.bl _,H,I,rfl,?_⟩;rw[show its.toArray.any (eqU x)=its.any (eqU x) by simp,Cu r fs];exact q
theorem bV:kC X (.builtin "len") (λxs H Q=>∃p ys,xs=[.ref p]/\(SqL X.K H p ys\/SqT X.K H p ys)/\Q (.int ys.length) H):=by
 intro pins s σ H xs us Q I r h;obtain⟨p,ys,rfl,hq,q⟩:=h;obtain⟨u,rfl,rx⟩:=zP r
 cases rx
 have hn:=Al;rcases hq with hq | hq
 ·obtain⟨its,r',pl,hz⟩:=I.list hq;have hlen:=r'.length;exact Calls.call_len_list pl.isList (by simp only[size_toArray]<;>lia) ⟨.int ys.length,H,I.tok _,⟨s.toks+1,by rw[size_toArray,hlen]⟩,q⟩
 ·obtain⟨its,r',pl,hz⟩:=I.tuple hq;have hlen:=r'.length;exact len_tuple pl (by simp only[size_toArray]<;>lia) ⟨.int ys.length,H,I.tok _,⟨s.toks+1,by rw[size_toArray,hlen]⟩,q⟩
theorem lK:kC X (.type "list") (λxs H Q=>∃p ys,xs=[.ref p]/\(SqL X.K H p ys\/SqT X.K H p ys)/\∀l,H l=none->Q (.ref l) (upd H l (.lst ys))):=by
 intro pins s σ H xs us Q I r h;obtain⟨p,ys,rfl,hq,q⟩:=h;obtain⟨u,rfl,rx⟩:=zP r
 cases rx
 have fin:∀(its:List Value),cA ys its->ys.length<=sizeLine->∀(h':Heap) (c':Nat),(∀b o',s.heap.get? b=some o'->h'.get? b=some o')->
   h'.get? s.heap.objs.size=some { cls:=.type "list",dict:=none,data:=.seq its.toArray c',slots:=#[] }->EP X pins σ Q (.ref s.heap.objs.size) { s with heap:=h' }:=λits r' hz h' c' kp e=>
  ⟨.ref s.heap.objs.size,_,I.laid (t':=s.toks) kp (Nat.le_refl _) (show cL X.prog X.w _ h' _ (.lst ys) from ⟨hz,its,c',r',e⟩),rfl,q _ (I.hok.fresh (Nat.le_refl _))⟩
 rcases hq with hq | hq
 ·obtain⟨its,r',pl,hz⟩:=I.list hq;have hlen:=r'.length;obtain⟨o,ho,hc,n,hd⟩:=pl.isList;exact call_list_seq p (.inl rfl) ho hc hd (λh' c' kp e=>fin its r' hz h' c' kp e) (by simp only[size_toArray]<;>lia)
 ·obtain⟨its,r',pl,hz⟩:=I.tuple hq;have hlen:=r'.length;obtain⟨o,ho,hc,n,hd⟩:=pl;exact call_list_seq p (.inr rfl) ho hc hd (λh' c' kp e=>fin its r' hz h' c' kp e) (by simp only[size_toArray]<;>lia)
theorem oY:kC X (.type "tuple") (λxs H Q=>∃p ys,xs=[.ref p]/\((SqL X.K H p ys/\∀l,H l=none->Q (.ref l) (upd H l (.tup ys)))\/(SqT X.K H p ys/\Q (.ref p) H))):=by
 intro pins s σ H xs us Q I r h;obtain⟨p,ys,rfl,h⟩:=h;obtain⟨u,rfl,rx⟩:=zP r
 cases rx
 rcases h with ⟨hq,q⟩ | ⟨hq,q⟩
 ·obtain⟨its,r',pl,hz⟩:=I.list hq;have hlen:=r'.length;refine call_tuple_list pl.isList (λh' kp=>?_) (by simp only[size_toArray]<;>lia);have I1:Inv X pins σ H { s with heap:=h' }:=I.kept (t':=s.toks) kp;have I2:Inv X pins σ (upd H h'.objs.size (.tup ys)) { s with heap:=h'.push { cls:=.type "tuple",data:=.seq its.toArray } }:=
   I1.laid (t':=s.toks) (λb o e=>Heap.get?_push_of_some _ e) (Nat.le_refl _) (show cL X.prog X.w _ _ _ (.tup ys) from ⟨hz,its,r',IsTup.new _ _⟩)
  exact⟨.ref h'.objs.size,_,I2,rfl,q _ (I1.hok.fresh (Nat.le_refl _))⟩
 ·obtain⟨its,r',pl,hz⟩:=I.tuple hq;exact call_tuple_same pl ⟨.ref p,H,I,rfl,q⟩
def tyV (K:Frag)(T:String)(x:V)(H:Hp):Prop:=match x with
 | .str _=>T = "str"
 | .int _=>T = "int"
 | .ref p=>(T = "list"/\∃xs,SqL K H p xs)\/(T = "tuple"/\∃o,K.lookup p=some o/\o.cls=.type "tuple"/\o.dict=none)\/
   (T = "dict"/\((∃kvs,H p=some (.dK kvs))\/∃kvs,H p=some (.dT kvs)))\/(T = "set"/\∃S n,H p=some (.set S n))
 |_=>False
theorem Sz (I:Inv X pins σ H s)(r:cB x v)(ty:tyV X.K T x H):
  s.TypeIs v T/\∀a,v=.ref a->∃ob,s.heap.get? a=some ob/\ob.dict=none:=by
 cases x with
 |str z=>
  obtain⟨t,rfl⟩:=r
  cases (show T = "str" from ty)
  exact⟨typeIs_str s z t,λ_ e=>nomatch e⟩
 |int i=>
  obtain⟨t,rfl⟩:=r
  cases (show T = "int" from ty)
  exact⟨typeIs_int s i t,λ_ e=>nomatch e⟩
 |ref p=>
  cases r
  rcases ty with ⟨rfl,xs,hq⟩ | ⟨rfl,o,hk,hc,hd⟩ | ⟨rfl,hk⟩ | ⟨rfl,S,n,hk⟩
  ·obtain⟨its,_,pl,_⟩:=I.list hq;refine⟨pl.isList.typeIs,λa e=>?_⟩
   cases e
   obtain⟨o,n,e,c,hd,_⟩:=pl;exact⟨o,e,hd⟩
  ·refine⟨⟨o,I.kIn p o hk,hc⟩,λa e=>?_⟩
   cases e
   exact⟨o,I.kIn _ o hk,hd⟩
  ·have z:∃o,s.heap.get? p=some o/\o.ExactDict:=by
    rcases hk with ⟨kvs,hk⟩ | ⟨kvs,hk⟩
    ·obtain⟨_,_,_,_,o,_,_,e,ex,_⟩:=I.hok p _ hk;exact⟨o,e,ex⟩
    ·obtain⟨_,_,_,_,o,_,_,e,ex,_⟩:=I.hok p _ hk;exact⟨o,e,ex⟩
   obtain⟨o,e,ex⟩:=z;refine⟨⟨o,e,ex.1⟩,λa e2=>?_⟩
   cases e2
   exact⟨o,e,ex.2.1⟩
  ·obtain⟨o,_,_,_,e,ex,_⟩:=I.hok p _ hk;refine⟨⟨o,e,ex.1⟩,λa e2=>?_⟩
   cases e2
   exact⟨o,e,ex.2.1⟩
 |_=>exact False.elim ty
def qr5 (K:Frag)(T:String)(r:V->List V->Hp->VK->Prop)(to:TE):TE:=λσ H Q=>to σ H λx H1=>tyV K T x H1/\r x [] H1 Q
def tBM (K:Frag)(T:String)(r:V->List V->Hp->VK->Prop)(to:TE)(t:TA):TE:=λσ H Q=>to σ H λx H1=>tyV K T x H1/\t σ H1 λxs H2=>r x xs H2 Q
variable {o e:Expr} {es:List Expr} {to:TE} {t:TA} {name:Str} {apos cpos:Pos} {T id:String} {r:V->List V->Hp->VK->Prop}
theorem qa4 (pa:PlainAttrs T)(slot:Slot T name id)(hty:typeOf (.builtin id)=pure (.type "method_descriptor"))(hm:MtR X id r)(ho:PE X o to)(hbase:attributeBase o name X.env (eval o X.env)=eval o X.env:=by rfl)(hline:(apos.endLine == cpos.line)=true:=by rfl):PE X (.Call (.Attribute o name apos) [] [] cpos) (qr5 X.K T r to):=by
 intro pins s σ H Q I h;refine wpAny_Call_method0_late hbase hline (thn (ho pins s σ H _ I h) λv s1 ⟨x,H1,I1,r1,ty,q1⟩=>?_);obtain⟨h1,h2⟩:=Sz I1 r1 ty;exact⟨T,id,pa,slot,hty,h1,h2,Calls.callWith_builtin rfl (PySem.evalArgs_none (hm pins s1 σ H1 x [] v [] Q I1 r1 .nil q1))⟩
theorem oU (pa:PlainAttrs T)(slot:Slot T name id)(hty:typeOf (.builtin id)=pure (.type "method_descriptor"))(hm:MtR X id r)(ho:PE X o to)(ha:PA X (e :: es) t)(hbase:attributeBase o name X.env (eval o X.env)=eval o X.env:=by rfl)(hfew:((backTo cpos (starEach (e :: es) X.env)).all (λx=>!x.1) && (backToKw cpos (keywordEach [] X.env)).all (λx=>x.1.isSome)
   && decide ((e :: es).length+([]:List Keyword).length+(if ([]:List Keyword).isEmpty then 0 else 1) < 30))=true:=by rfl)(hline:(apos.endLine == cpos.line)=true:=by rfl)(hs:starEach (e :: es) X.env=(false,eval e X.env) :: starEach es X.env:=by rfl)(hplain:(backTo cpos (starEach es X.env)).any (·.1)=false:=by rfl) :
  PE X (.Call (.Attribute o name apos) (e :: es) [] cpos) (tBM X.K T r to t):=by
 intro pins s σ H Q I h;refine wpAny_Call_method_late hbase hfew hline rfl (thn (ho pins s σ H _ I h) λv s1 ⟨x,H1,I1,r1,ty,q1⟩=>?_);obtain⟨h1,h2⟩:=Sz I1 r1 ty;refine⟨T,id,pa,slot,hty,h1,h2,?_⟩;have hA:=ha cpos pins s1 σ H1 _ I1 q1;rw[hs] at hA ⊢;refine Calls.callWith_builtin (by show (false || (backTo cpos (starEach es X.env)).any (·.1))=false;rw[hplain]<;>rfl) (Calls.evalArgs_plain ?_);exact thn hA λus s2 ⟨vs,H2,I2,r2,q2⟩=>hm pins s2 σ H2 x vs v us Q I2 r1 r2 q2
end
def MtM (X:Cx)(id:String)(r:V->List V->Hp->VK->Prop):Prop:=
 ∀(pins:List (Addr × Obj)) (s:Shared) (σ:St) (H:Hp) (x:V) (xs:List V) (v:Value) (us:List Value) (Q:VK),Inv X pins σ H s->cB x v->cA xs us->r x xs H Q->
  wpAny (model X.prog X.w) X.A (call (.builtin id) (v :: us)) (EP X pins σ Q) X.xe s
theorem cA.one:∀{x:V} {us:List Value},cA [x] us->∃u,us=[u]/\cB x u
 |_,_,.cons r .nil=>⟨_,rfl,r⟩
theorem cA.zero:∀{us:List Value},cA [] us->us=[]
 |_,.nil=>rfl
theorem cA.dropLast (h:cA xs us):cA xs.dropLast us.dropLast:=by
 induction h with
 |nil=>exact .nil
 |cons r t ih=>
  cases t with
  |nil=>exact .nil
  |cons q t'=>exact .cons r ih
theorem cA.rep (h:cA xs us):∀k:Nat,cA (replicate k xs).flatten (replicate k us).flatten
 |0=>.nil
 |k+1=>by
  rw[replicate_succ,replicate_succ,flatten_cons,flatten_cons];exact cA.append h (cA.rep h k)
theorem Gc {α:Type}(l:List α):l.eraseIdx (l.length - 1)=l.dropLast:=by
 induction l with
 |nil=>rfl
 |cons a r ih=>
  cases r with
  |nil=>rfl
  |cons b r=>
   have e:(a :: b :: r).length - 1=((b :: r).length - 1)+1:=by
    have h1:(a :: b :: r).length=r.length+2:=rfl;have h2:(b :: r).length=r.length+1:=rfl;lia
   rw[e,eraseIdx_cons_succ,ih]
   all_goals rfl
theorem zR (its:List Value):∀(k:Nat) (acc:List Value),
  foldl (λx1 x2=>x1++x2) acc.toArray (replicate k its.toArray)=(acc++(replicate k its).flatten).toArray
 |0,acc=>by simp
 |k+1,acc=>by
  have e:acc.toArray++its.toArray=(acc++its).toArray:=by simp
  have e2:(acc++its)++(replicate k its).flatten=acc++(replicate (k+1) its).flatten:=by
   rw[replicate_succ,flatten_cons,List.append_assoc]
  rw[<- e2,<- zR its k (acc++its),<- e,replicate_succ,foldl_cons]
section
variable {X:Cx} {pins:List (Addr × Obj)} {σ:St} {H:Hp} {s:Shared} {l b:Addr} {xs ys zs:List V}
theorem Inv.lset {its its':List Value}(I:Inv X pins σ H s)(hH:H l=some (.lst xs))(e:s.heap.get? l=some { cls:=.type "list",data:=.seq its.toArray n })(hf:f its.toArray=its'.toArray)(hv:cA ys its')(hz:ys.length<=sizeLine):
  Inv X pins σ (upd H l (.lst ys)) { s with heap:=s.heap.update l (Obj.mapSeq f),toks:=t' }:=by
 have q:=PySem.IsL.update e f;rw[hf] at q;refine I.write (x:=l) (e:=l) (by rw[hH];exact trivial) (.inl rfl) (λb' u hb hu=>(Heap.get?_update_other s.heap (Obj.mapSeq f) (Ne.symm hb)).trans hu) ⟨_,q⟩ ?_;exact⟨hz,its',_,hv,q⟩
theorem Inv.lnew (I:Inv X pins σ H s)(hv:cA ys its)(hz:ys.length<=sizeLine):
  Inv X pins σ (upd H s.heap.objs.size (.lst ys)) { s with heap:=s.heap.push { cls:=.type "list",data:=.seq its.toArray },toks:=t' }:=
 I.laid (λ_ _ q=>Heap.get?_push_of_some _ q) (Nat.le_refl _) ⟨hz,its,0,hv,Heap.get?_push_size _ rfl⟩
theorem Inv.fresh (I:Inv X pins σ H s):H s.heap.objs.size=none:=I.hok.fresh (Nat.le_refl _)
theorem Inv.lstM (I:Inv X pins σ H s)(hH:H l=some (.lst xs)):xs.length<=sizeLine/\∃(its:List Value) (n:Nat),cA xs its/\xs.length=its.length/\s.heap.get? l=some { cls:=.type "list",data:=.seq its.toArray n }:=by
 obtain⟨z,its,n,r,e⟩:=I.hok l _ hH;exact⟨z,its,n,r,r.length,e⟩
theorem Qc (h:n<=sizeLine):Builtin.List.listTooLong n=false:=by
 unfold Builtin.List.listTooLong;exact decide_eq_false ()
end
section
variable {X:Cx}
inductive Iq (x:V) (vs:List V) (H:Hp) (Q:VK):Prop where
 |mk (l xs y):x=.ref l->vs=[y]->H l=some (.lst xs)->xs.length < sizeLine->Q .non (upd H l (.lst (xs++[y])))->Iq x vs H Q
theorem eY:MtM X "list.append" Iq:=by
 intro pins s σ H x vs v us Q I rx rv h;obtain⟨l,xs,y,rfl,rfl,hH,hz,q⟩:=h
 cases rx
 obtain⟨u,rfl,ru⟩:=rv.one;obtain⟨z,its,n,r,hl,e⟩:=I.lstM hH;refine call_meets F.slot_list_append ⟨_,e,rfl⟩ F.entry_list_append (F.args_list_append_2 _ _) (PySem.list_append l its.toArray n u (by rw[size_toArray];lia)) ⟨e,?_⟩;refine⟨.non,_,I.lset (its':=its++[u]) hH e ⋯ (r.append (.cons ru .nil)) ?_,rfl,q⟩;rw[List.length_append,length_singleton];lia
inductive ql9 (x:V) (vs:List V) (H:Hp) (Q:VK):Prop where
 |mk (l xs y):x=.ref l->vs=[]->H l=some (.lst xs)->xs[xs.length - 1]?=some y->Q y (upd H l (.lst xs.dropLast))->ql9 x vs H Q
theorem qe9:MtM X "list.pop" ql9:=by
 intro pins s σ H x vs v us Q I rx rv h;obtain⟨l,xs,y,rfl,rfl,hH,hy,q⟩:=h
 cases rx
 have hus:=rv.zero;subst hus;obtain⟨z,its,n,r,hl,e⟩:=I.lstM hH;obtain⟨u,hu,ru⟩:=r.get hy;have hy':its.toArray[its.toArray.size - 1]?=some u:=by
  show its.toArray[its.length - 1]?=some u;rw[<- Array.getElem?_toList,<- hl];exact hu
 refine call_meets F.slot_list_pop ⟨_,e,rfl⟩ F.entry_list_pop (F.args_list_pop_1 _) (MeetsSeq.list_pop_last l its.toArray n u hy' (by rw[size_toArray];lia)) ⟨e,?_⟩;refine⟨y,_,I.lset (its':=its.dropLast) hH e ?_ r.dropLast ?_,ru,q⟩
 ·show its.toArray.eraseIdxIfInBounds (its.toArray.size - 1)=its.dropLast.toArray;rw[size_toArray,eraseIdxIfInBounds_toArray,Gc]
 ·rw[length_dropLast];lia
inductive qn8 (x:V) (y:V) (H:Hp) (Q:VK):Prop where
 |mk (l b xs zs):x=.ref l->y=.ref b->H l=some (.lst xs)->H b=some (.lst zs)->xs.length+zs.length<=sizeLine->(∀p,H p=none->Q (.ref p) (upd H p (.lst (xs++zs))))->qn8 x y H Q
theorem jS:OpR X (binaryOp .Add) qn8:=by
 intro pins s σ H x y v u Q I rx ry h;obtain⟨l,b,xs,zs,rfl,rfl,hH,hB,hz,q⟩:=h
 cases rx
 cases ry
 obtain⟨z,its,n,r,hl,e⟩:=I.lstM hH;obtain⟨z2,its2,n2,r2,hl2,e2⟩:=I.lstM hB;refine PySem.P.add_list e e2 ?_ (by rw[size_toArray,size_toArray];lia);have ea:its.toArray++its2.toArray=(its++its2).toArray:=by simp
 rw[ea];exact⟨.ref _,_,I.lnew (t':=s.toks) (r.append r2) (by rw[List.length_append];lia),rfl,q _ I.fresh⟩
inductive qj9 (x:V) (y:V) (H:Hp) (Q:VK):Prop where
 |mk (l k xs):x=.ref l->y=.int k->H l=some (.lst xs)->-(2 ^ 63)<=k->k < 2 ^ 63->xs.length*k.toNat<=sizeLine->(∀p,H p=none->Q (.ref p) (upd H p (.lst (replicate k.toNat xs).flatten)))->qj9 x y H Q
theorem Wy {α:Type}(xs:List α)(k:Nat):(replicate k xs).flatten.length=k*xs.length:=by
 induction k with
 |zero=>simp
 |succ k ih=>rw[replicate_succ,flatten_cons,List.length_append,ih,Nat.succ_mul,Nat.add_comm]
theorem yC:OpR X (binaryOp .Mult) qj9:=by
 intro pins s σ H x y v u Q I rx ry h;obtain⟨l,k,xs,rfl,rfl,hH,h1,h2,hz,q⟩:=h
 cases rx
 obtain⟨t,rfl⟩:=ry;obtain⟨z,its,n,r,hl,e⟩:=I.lstM hH;have hlen:its.toArray.size*k.toNat<=sizeLine:=by rw[size_toArray,<- hl];exact hz
 have hcap:¬its.toArray.size*k.toNat > (2 ^ 63 - 1) / 8:=by
  have:(sizeLine:Nat)<=(2 ^ 63 - 1) / 8:=by decide
  lia
 have hfit:¬(!Builtin.List.listFitsIndex k)=true:=by
  rw[fitsIndex_both h1 h2];exact Bool.false_ne_true
 have hlong:¬Builtin.List.listTooLong (its.toArray.size*k.toNat)=true:=by
  rw[Qc hlen];exact Bool.false_ne_true
 have hnew:foldl (λx1 x2=>x1++x2) #[] (replicate (if its.toArray.isEmpty=true then 0 else k.toNat) its.toArray)=(replicate k.toNat its).flatten.toArray:=by
  have f0:∀m:Nat,foldl (λx1 x2=>x1++x2) #[] (replicate m its.toArray)=(replicate m its).flatten.toArray:=λm=>by
   have:=zR its m [];rw[nil_append] at this;exact this
  rw[f0]
  cases its with
  |nil=>simp
  |cons a r'=>rw[if_neg ⋯]
 refine wpAny_binaryOp_repeat_ref (T:="list") (U:="int") ∅ ⟨_,e,rfl⟩ (λs'=>typeIs_int s' k t) noFill_list_mul F.fills_int_mul F.slot_int_rmul repeat_list F.slot_int_index.lookup
  (call_meets F.slot_int_rmul (typeIs_int s k t) F.entry_int_rmul (F.args_int_rmul_2 _ _) (int___rmul___int_list k t l its.toArray n)
   ⟨e,rfl,⟨_,e,rfl⟩,call_meets F.slot_list_mul ⟨_,e,rfl⟩ F.entry_list_mul (F.args_list_mul_2 _ _) (AutoListH.list___mul___list_int_3 l its.toArray n k t hfit hcap hlong) ⟨e,?_⟩⟩)
 rw[hnew];exact⟨.ref _,_,I.lnew (t':=s.toks) (r.rep k.toNat) (by rw[Wy,Nat.mul_comm];exact hz),rfl,q _ I.fresh⟩
end
end L2
namespace Att
open PySem PySem.W PySem.Calls PyProof.Rows
theorem tY:∀(ns:List Int) (vs:List Value),WellAll P h vs (ns.map WData.int)->IntsAre vs ns:=by
 intro ns
 induction ns with
 |nil=>
  intro vs w;rw[map_nil] at w
  cases w
  exact .nil
 |cons n ns ih=>
  intro vs w;rw[map_cons] at w
  cases w with
  |cons a b=>
   cases a
   exact .cons _ _ (ih _ b)
theorem Nf {l:OpenLaw}(hn:l.most=some n)(hpre:l.row.toRowW.claim.pre args=true)(hwl:WellAll P h vals args):
  ∃a vs ns,vals=[Value.ref a]/\args=[WData.list (ns.map WData.int)]/\h.get? a=some { cls:=.type "list",data:=.seq vs.toArray }/\IntsAre vs ns/\ns.length<=n:=by
 have hsh:WShape.hasAll [] args [.list .int]=true:=(pre_splitW hpre).1;have hc:l.pre.holds [] { args:=args }=true:=(pre_splitW hpre).2;obtain⟨d,r,rfl,h1,h2⟩:=hasAllW_cons hsh;obtain rfl:=hasAllW_nil h2;obtain⟨xs,rfl,h3⟩:=hasW_list h1;obtain⟨ns,rfl⟩:=items_int h3;have hlen:ns.length<=n:=by
  unfold OpenLaw.pre at hc;have h4:(WTm.not (.lt (.lit (.int (n:Int))) (.len (.arg 0)))).holds [] { args:=[.list (ns.map .int)] }=true:=by
   have h4:=(holds_andW hc).1;rw[hn] at h4;exact h4
  have h5:=condW_of h4 (w_not (w_lt w_lit (w_len_list (w_arg rfl))));rw[length_map] at h5;refine Nat.le_of_not_lt λq=>?_;have q':(n:Int) < ((ns.length:Nat):Int):=by lia
  first
   | (rw[decide_eq_true q'] at h5;exact absurd h5 ∅)
   | (simp at h5;lia)
 cases hwl with
 |cons w1 w2=>
  cases w2
  cases w1 with
  |list ho hall=>exact⟨_,_,ns,rfl,rfl,ho,tY ns _ hall,hlen⟩
theorem Mz (l:OpenLaw)(args:List WData):l.row.toRowW.claim.post args (.bool true) args=true:=
 postW_of (r:=l.row.toRowW) (X:=(true == true))
  (show WShape.has [] (.bool true) .bool=true by first | rfl | decide | simp[WShape.has,WShape.arms,WShape.armsAll])
  (show (WTm.eq .res (.lit (.bool true))).value [] { args:=args,res:=some (.bool true),after:=args }=some (.bool (true == true)) from w_eq_bool (w_res rfl) w_lit) rfl
theorem attach_call {l:OpenLaw}(hn:l.most=some n)(hdf:d.params.defaults=[])(call:∀(w:World) (s₀ s₁:Shared) (mg mb:Str->Option Value) (fa:Addr) (o:Obj) (pm cd doc:Value) (a:Addr) (vs:List Value) (ns:List Int),
   Ground q loose [] XP w s₀ mg mb s₁.heap->YP w s₁.heap->
   s₁.heap.get? fa=some o->o.data=.func (docDef d.name d.params d.body d.scope pm cd doc)->s₁.heap.CodeRec cd d.name->mg d.name=some (.ref fa)->
   s₁.heap.get? a=some { cls:=.type "list",data:=.seq vs.toArray }->IntsAre vs ns->ns.length<=n->s₁.gens=#[]->
   codeAny (model l.prog w) callerA (.call (.ref fa) ⟨[.ref a],[]⟩) (λr s'=>r=.ok (.ret (.bool true))/\OldK s₁.heap s'.heap/\s'.os=s₁.os/\AllBare s'.gens) s₁):
  WalkO q loose XP YP l.row.toRowW d [] (λf vs=>PySem.call f vs):=by
 intro w s₀ s₁ mg mb G Y fa o pm cd doc dV kV ho hd hcd hD hmg hg args vals as hpre hlay hrd hwl hlo;obtain rfl:dV=.none:=Dflts.none hD hdf;obtain rfl:kV=.none:=Dflts.noKw hD;obtain⟨a,vs,ns,rfl,rfl,hobj,hints,hlen⟩:=Nf hn hpre hwl;refine enter_call (codeAny_mono (call w s₀ s₁ mg mb fa o pm cd doc a vs ns G Y ho (fd_plain hd) hcd hmg hobj hints hlen hg) λr s' hq=>?_);obtain⟨rfl,h2,h3,h4⟩:=hq;exact⟨.inl ⟨.bool true,.bool true,[],rfl,λ_=>rfl,.bool true,Mz l _,λ_=>⟨Pairwise.nil,λ_ hm=>(nomatch hm)⟩⟩,h2,h3,h4⟩
end Att
namespace L2
open PySem PySem.Spec PyProof.Rows
theorem zI:∀{vs:List Value} {ns:List Int},IntsAre vs ns->cA (ns.map V.int) vs
 |_,_,.nil=>.nil
 |_,_,.cons n t h=>.cons ⟨t,rfl⟩ (zI h)
def qb9 (H:Hp):Prop:=∀b,H b=none\/∃o xs,H b=some (.frz o (.lst xs))
theorem Rn {K:Frag}(KX:K.In s₁.heap)(hns:s₁.heap.Ns mainGlobals mg)(hb:s₁.heap.Ns builtinsNs mb)(hbb:∀x:Str,x≠"__name__"->mb x=bootBuiltins x)(hlim:s₁.heap.NoLimit)(hg:s₁.gens=#[])(ha:s₁.heap.get? a=some { cls:=.type "list",data:=.seq vs.toArray })(hi:IntsAre vs ns)(hl:ns.length<=sizeLine)(hr:gM k callerA)(F:∀base:Heap,K.In base->base.Ns mainGlobals mg->aK P w K mg base CX k fa fd [x] sp)(hbind:∀(s:Shared) (u:Value),BindsTo s fd ⟨[u],[]⟩ [(x,u)])(hsp:∀H:Hp,qb9 H->SqL K H a (ns.map V.int)->sp [.ref a] H (λv _=>v=.bl true) λ_ _ _=>False)(hCX:∀H e s',CX [] H s₁ (λ_ _ _=>False) e s'->False):
  codeAny (model P w) callerA (.call (.ref fa) ⟨[.ref a],[]⟩) (λr s'=>r=.ok (.ret (.bool true))/\OldK s₁.heap s'.heap/\s'.os=s₁.os/\AllBare s'.gens) s₁:=by
 have rv:=zI hi;have lenV:=hi.length;have core:∀H:Hp,qb9 H->SqL K H a (ns.map V.int)->HOk P w H s₁.heap->(∀b,H b≠none->b=a)->(H a≠none->K.lookup a=none)->
   codeAny (model P w) callerA (.call (.ref fa) ⟨[.ref a],[]⟩) (λr s'=>r=.ok (.ret (.bool true))/\OldK s₁.heap s'.heap/\s'.os=s₁.os/\AllBare s'.gens) s₁:=by
  intro H hO hS hok hA hK;have base_of:∀{b:Addr} {o:Obj},s₁.heap.get? b=some o->H b=none->(Bw s₁.heap H).get? b=some o:=λe n=>Sm e n;have noA:∀{b:Addr} {o:Obj} {es:Array DictEntry} {ep:Nat},s₁.heap.get? b=some o->o.data=.dict es ep->H b=none:=λ{b o es ep} e d=>by
   cases q:H b with
   |none=>rfl
   |some u=>
    have e':b=a:=hA b (by rw[q];simp);subst e';rw[ha] at e;cases e;have d':Data.seq vs.toArray _=Data.dict es ep:=d
    cases d'
  have nsK:∀{b:Addr} {m:Str->Option Value},s₁.heap.Ns b m->(Bw s₁.heap H).Ns b m:=λ{b m} ⟨o,es,ep,e,d,r⟩=>⟨o,es,ep,base_of e (noA e d),d,r⟩
  have hKb:K.In (Bw s₁.heap H):=λb o e=>base_of (KX b o e) (by
   cases q:H b with
   |none=>rfl
   |some u=>
    have e':b=a:=hA b (by rw[q];simp);subst e';rw[hK (by rw[q];simp)] at e;cases e)
  have hM:Mod K mg (Bw s₁.heap H):=⟨hKb,nsK hns,⟨mb,nsK hb,hbb⟩,let ⟨mc,h1,h2⟩:=hlim;⟨mc,nsK h1,h2⟩⟩
  have e0:Hd P w K mg (Bw s₁.heap H) callerA [] s₁ H:=⟨rfl,hM,λb o e=>Ud e,Nat.le_of_eq (Lj _ _),trivial,λb hb=>absurd (show b∈([]:List Addr) from hb) ⋯,hok,.of_eq hg⟩
  refine codeAny_mono ((F _ hKb (nsK hns)).run callerA [] s₁ H ⟨[.ref a],[]⟩ [.ref a] [.ref a] _ _ hr e0 (hbind s₁ (.ref a)) (.cons rfl .nil) (hsp H hO hS)) λr s' h=>?_
  cases r with
  |error e=>exact(hCX H e s' h).elim
  |ok fl=>
   cases fl with
   |next=>exact False.elim h
   |brk=>exact False.elim h
   |cont=>exact False.elim h
   |ret u=>
    obtain⟨v,H',os,bare,un,hok',r',q⟩:=h;have q':v=.bl true:=q;subst q';obtain rfl:u=Value.bool true:=r';refine⟨rfl,OldK.of_keep λb o e=>?_,os,bare⟩
    cases q:H b with
    |none=>exact un.keep b o e q (by intro z;exact absurd (show b∈([]:List Addr) from z) ⋯) ⋯
    |some u=>
     rcases hO b with z | ⟨ob,xs,z⟩
     ·rw[q] at z;cases z
     ·have z2:=un.frzs b ob _ z;obtain⟨e1,_⟩:=hok b _ z;obtain⟨e2,_⟩:=hok' b _ z2;rw[e] at e1;cases e1;exact e2
 cases hk:K.lookup a with
 |some o=>
  have e:=KX a o hk;rw[ha] at e
  cases e
  refine core (λ_=>none) (λ_=>.inl rfl) (.inr ⟨_,vs.toArray,_,hk,rfl,rfl,rfl,by rw[size_toArray,lenV];exact hl,by simpa using rv⟩) (λb u z=>by have z':(none:Option HO)=some u:=z;cases z') (λb z=>absurd rfl z) λz=>absurd rfl z
 |none=>
  refine core (λb=>if b=a then some (.frz { cls:=.type "list",data:=.seq vs.toArray } (.lst (ns.map V.int))) else none) (λb=>?_) (.inl (.inr ⟨{ cls:=.type "list",data:=.seq vs.toArray },if_pos rfl⟩)) (λb u z=>?_) (λb z=>?_) λ_=>hk
  ·by_cases hb:b=a
   ·exact .inr ⟨_,_,if_pos hb⟩
   ·exact .inl (if_neg hb)
  ·by_cases hb:b=a
   ·have z':=(if_pos hb).symm.trans z
    cases z'
    subst hb;exact⟨ha,by rw[length_map];exact hl,vs,_,rv,ha⟩
   ·have z':=(if_neg hb).symm.trans z
    cases z'
  ·by_cases hb:b=a
   ·exact hb
   ·exact absurd (if_neg hb) z
abbrev KOf {K:Frag}{h:Heap}(_:K.In h):Frag:=K
theorem Vk {l:W.OpenLaw}{XP:(Str->Option Value)->Heap->Prop}{K:Params->Frag}{CX:World->CXT}{sp:World->Sp}(hn:l.most=some n)(hn2:n<=sizeLine)(hdf:d.params.defaults=[])(hr:gM k callerA)(hY:∀(w:World) (h:Heap),YP w h->(K w.params).In h)(F:∀(w:World) (mg:Str->Option Value) (fa:Addr) (h:Heap),(K w.params).In h->h.Ns mainGlobals mg->mg d.name=some (.ref fa)->
   ∃fd:FuncData,(∀(s:Shared) (u:Value),BindsTo s fd ⟨[u],[]⟩ [(x,u)])/\
    ∀base:Heap,(K w.params).In base->base.Ns mainGlobals mg->aK l.prog w (K w.params) mg base (CX w) k fa fd [x] (sp w))(hsp:∀(w:World) (H:Hp) (a:Addr) (ns:List Int),ns.length<=n->qb9 H->SqL (K w.params) H a (ns.map V.int)->sp w [.ref a] H (λv _=>v=.bl true) λ_ _ _=>False)(hCX:∀(w:World) (H:Hp) (s:Shared) (e:Value) (s':Shared),CX w [] H s (λ_ _ _=>False) e s'->False):
  W.WalkO q loose XP YP l.row.toRowW d [] (λf vs=>PySem.call f vs):=by
 refine Att.attach_call hn hdf λw s₀ s₁ mg mb fa o pm cd doc a vs ns G Y ho hd hcd hmg hobj hints hlen hg=>?_;have KX:=hY w _ Y;obtain⟨fd,hb,hF⟩:=F w mg fa _ KX G.T.g hmg;exact Rn KX G.T.g G.T.b G.T.builtins G.T.nolimit hg hobj hints (Nat.le_trans hlen hn2) hr hF hb (λH hO hS=>hsp w H a ns hlen hO hS) λH e s'=>hCX w H s₁ e s'
def fI (s:Stmt)(j:Nat):Stmt:=match s with
 | .ClassDef _ _ _ body _ _ _ _ _ _ _=>body.getD j (.Pass ⟨0,0,0,0⟩)
 |_=>.Pass ⟨0,0,0,0⟩
def eJ (s:Stmt):Arguments:=match s with
 | .FunctionDef _ a _ _ _ _ _ _ _ _=>a
 |_=>{ posonlyargs:=[],args:=[],vararg:=none,kwonlyargs:=[],kw_defaults:=[],kwarg:=none,defaults:=[] }
def cU (s:Stmt):List Stmt:=match s with
 | .FunctionDef _ _ b _ _ _ _ _ _ _=>b
 |_=>[]
def aI (s:Stmt):Scope:=match s with
 | .FunctionDef _ _ _ _ _ _ sc _ _ _=>sc
 |_=>{ kind:=.function,names:=[],isGenerator:=false,isCoroutine:=false }
abbrev CX0:CXT:=λ_ _ _ _ _ _=>False
abbrev E0:XK:=λ_ _ _=>False
theorem aM:kX CX0 X E0:=λ_ _ _ _ _ _ _ h=>h.elim
theorem lW (hr:gM k A):A.units+1 < cLine:=Nat.lt_of_le_of_lt (Nat.add_le_add_left (by decide:1<=64) _) hr.units
theorem bN (h:n<=1000):n < sizeLine:=Nat.lt_of_le_of_lt h ∅
section
variable {X:Cx}
theorem pv (i:Nat)(hN:X.N[i]?=some x:=by rfl)(hv:Vis X.env.scope x:=by first | exact Or.inl rfl | exact Or.inr (Or.inl rfl) | exact Or.inr (Or.inr rfl))(hd:(x == ("__debug__":Str))=false:=by decide)(hcd:(x == ("__classdict__":Str))=false:=by decide):PE X (.Name x pos) (Tm i):=Tk hN hv hd hcd
end
theorem gQ {A B:Prop}(h:B):if false=true then A else B:=by
 rw[if_neg Bool.false_ne_true];exact h
theorem gB {A B:Prop}(h:A):if true=true then A else B:=by
 rw[if_pos rfl];exact h
theorem jX {c A B:Prop}[Decidable c](h1:c->A)(h2:¬c->B):if c then A else B:=by
 by_cases h:c
 ·rw[if_pos h];exact h1 h
 ·rw[if_neg h];exact h2 h
def aS (H H':Hp):Prop:=∀b o,H b=some o->H' b=some o
theorem aS.refl (H:Hp):aS H H:=λ_ _ h=>h
theorem aS.trans (a:aS H H1)(b:aS H1 H2):aS H H2:=λc o h=>b c o (a c o h)
theorem aS.free (e:aS H H')(h:H' l=Option.none):H l=Option.none:=by
 cases q:H l with
 |none=>rfl
 |some o=>
  rw[e l o q] at h
  cases h
theorem aS.seq {K:Frag}(e:aS H H')(h:SqL K H a xs):SqL K H' a xs:=by
 rcases h with (h | ⟨o,h⟩) | h
 ·exact .inl (.inl (e _ _ h))
 ·exact .inl (.inr ⟨o,e _ _ h⟩)
 ·exact .inr h
section
variable {X:Cx}
def Bt (n:Nat)(i:Int):Prop:=i.natAbs < 2 ^ n
theorem vB (h:Bt n i):Builtin.Int.intBits i<=n:=by
 unfold Builtin.Int.intBits;split
 ·exact Nat.zero_le _
 ·rename_i h0
  have hp:i.natAbs≠0:=by
   intro z;apply h0;simp at z ⊢;exact z
  have:i.natAbs.log2 < n:=(Nat.log2_lt hp).mpr h;lia
def Wf (i j:Int):Prop:=∃n m,Bt n i/\Bt m j/\n<=1048576/\m<=1048576
theorem Wf.ok (h:Wf i j):IntMulOk i j:=by
 obtain⟨n,m,h1,h2,h3,h4⟩:=h;have e:(2:Nat) ^ 20=1048576:=by decide
 exact IntMulOk.of_bits (by have:=vB h1;lia) (by have:=vB h2;lia)
theorem cN:OpR X (binaryOp .Mult) (rI Wf λi j=>.int (i*j)):=opI λ_ _ _ _ _ _ _ hc q=>mul_int q hc.ok
def Jl (i j:Int):Prop:=j≠0/\∃n,Bt n j/\n<=9000
theorem Jl.ok (h:Jl i j):Builtin.divisionGoesByPylong i j=false:=by
 obtain⟨h0,n,h1,h2⟩:=h;refine PyProof.noPylong_of_log2 ?_;have hp:j.natAbs≠0:=by lia
 have:j.natAbs.log2 < n:=(Nat.log2_lt hp).mpr h1;lia
theorem jC:OpR X (binaryOp .FloorDiv) (rI Jl λi j=>.int (i.fdiv j)):=opI λ_ _ _ _ _ _ _ hc q=>floordiv_int hc.1 q (.inl hc.ok)
mutual
inductive qQ (K:Frag) (H:Hp):V->PyData->Prop where
 |non:qQ K H .non .none
 |bl (b:Bool):qQ K H (.bl b) (.bool b)
 |int (i:Int):qQ K H (.int i) (.int i)
 |str (x:Str):qQ K H (.str x) (.str x)
 |lst {a:Addr} {xs:List V} {ds:List PyData} (h:SqL K H a xs) (q:yW K H xs ds):qQ K H (.ref a) (.list ds)
 |tup {a:Addr} {xs:List V} {ds:List PyData} (h:SqT K H a xs) (q:yW K H xs ds):qQ K H (.ref a) (.tuple ds)
inductive yW (K:Frag) (H:Hp):List V->List PyData->Prop where
 |nil:yW K H [] []
 |cons {x:V} {d:PyData} {xs:List V} {ds:List PyData} (p:qQ K H x d) (q:yW K H xs ds):yW K H (x :: xs) (d :: ds)
end
theorem lV {H:Hp}(I:Inv X pins σ H s):∀{x:V} {d:PyData},qQ X.K H x d->∀{u:Value},cB x u->∃as,Reads s.heap u d as:=by
 intro x d h
 induction h using qQ.rec (motive_2:=λxs ds _=>∀{us:List Value},cA xs us->∃as,ReadsAll s.heap us ds as) with
 |non=>intro u r;cases (show u=Value.none from r);exact⟨_,.none⟩
 |bl b=>intro u r;cases (show u=Value.bool b from r);exact⟨_,.bool b⟩
 |int i=>intro u r;obtain⟨t,rfl⟩:=(show ∃t,u=Value.int i t from r);exact⟨_,.int i t⟩
 |str y=>intro u r;obtain⟨t,rfl⟩:=(show ∃t,u=Value.str y t from r);exact⟨_,.str y t⟩
 |lst h q ih=>
  intro u r
  cases (show u=Value.ref _ from r)
  obtain⟨its,rv,pl,_⟩:=I.list h;obtain⟨as,ra⟩:=ih rv;obtain⟨o,h1,h2,n,h3⟩:=pl.isList;exact⟨_,.list h1 h2 h3 (by simpa using ra)⟩
 |tup h q ih=>
  intro u r
  cases (show u=Value.ref _ from r)
  obtain⟨its,rv,pl,_⟩:=I.tuple h;obtain⟨as,ra⟩:=ih rv;obtain⟨o,h1,h2,n,h3⟩:=pl;exact⟨_,.tuple h1 h2 h3 (by simpa using ra)⟩
 |nil=>rename_i us r;cases r;exact⟨_,.nil⟩
 |cons p q ih1 ih2=>
  rename_i us r
  cases r with
  |cons r1 r2=>
   obtain⟨as,h1⟩:=ih1 r1;obtain⟨bs,h2⟩:=ih2 r2;exact⟨_,.cons h1 h2⟩
inductive yN (K:Frag) (neg:Bool) (x:V) (y:V) (H:Hp) (Q:VK):Prop where
 |mk (d e):qQ K H x d->qQ K H y e->d.canLay0=true->e.canLay0=true->min d.depth e.depth<=16->Q (.bl (if neg then !PyData.eqv d e else PyData.eqv d e)) H->yN K neg x y H Q
theorem sZ (hu:X.A.units+64 < cLine):OpR X (compareOp .Eq) (yN X.K false):=by
 intro pins s σ H x y v u Q I rx ry h;obtain⟨d,e,h1,h2,c1,c2,hm,q⟩:=h;obtain⟨as,r1⟩:=lV I h1 rx;obtain⟨bs,r2⟩:=lV I h2 ry;exact PySem.SeqAt.compareEq_reads r1 r2 c1 c2 () ⟨.bl (PyData.eqv d e),H,I,rfl,q⟩
theorem rZ (hu:X.A.units+64 < cLine):OpR X (compareOp .NotEq) (yN X.K true):=by
 intro pins s σ H x y v u Q I rx ry h;obtain⟨d,e,h1,h2,c1,c2,hm,q⟩:=h;obtain⟨as,r1⟩:=lV I h1 rx;obtain⟨bs,r2⟩:=lV I h2 ry;exact PySem.SeqAt.compareNe_reads r1 r2 c1 c2 () ⟨.bl (!PyData.eqv d e),H,I,rfl,q⟩
end
section
variable {prog:Program} {w:World} {A:Around} {R:Result->Shared->Prop} {s:Shared}
abbrev Xv (ifs:List Expr)(env:Env):Sem Bool:=forIn ifs true λc r=>if r=true then do let ok <- isTrue c env (eval c env);pure (ForInStep.yield ok) else pure (ForInStep.yield r)
theorem No {elt target iter:Expr}(I:Nat->Shared->Prop)(turn:∀n s,I n s->wpAny (model prog w) A (pyNext it) (λr s₁=>match r with
   |none=>R (.ok .next) s₁
   |some v=>wpAny (model prog w) A (letOwnedTupleGo target it v) (λ_ s₀=>wpAny (model prog w) A (assign target env v) (λ_ s₂=>
     wpAny (model prog w) A (Xv ifs env) (λok s₃=>
      if ok=true then wpAny (model prog w) A (eval elt env) (λx s₄=>
       wpAny (model prog w) A (call (.builtin "list.append") [acc,x]) (λ_ s₅=>∃m,m < n/\I m s₅) (λ_ _=>False) s₄) (λ_ _=>False) s₃
      else ∃m,m < n/\I m s₃) (λ_ _=>False) s₂) (λ_ _=>False) s₀) (λ_ _=>False) s₁) (λ_ _=>False) s)(n:Nat)(h:I n s):
  codeAny (model prog w) A (.compLoop (.ListComp elt [⟨target,iter,ifs,0⟩] scope pos) 0 it acc env) R s:=by
 refine codeAny_loop rfl I (λn s hI=>?_) n h;show wpAny _ A ((compTurn (.ListComp elt [⟨target,iter,ifs,0⟩] scope pos) 0 it acc env).onRaise (λx=>do noteFrame x env;theTreesLotGoes x)) _ _ s;refine wpAny_noted ?_;rw[compTurn_list];refine wpAny_bind (wpAny_standAt (wpAny_bind (wpAny_mono (turn n s hI) (λr s₁ h₁=>?_) λ_ _ z=>z.elim)))
 cases r with
 |none=>exact wpAny_pure h₁
 |some v=>
  refine wpAny_bind (wpAny_mono h₁ (λ_ s₀ h₀=>?_) λ_ _ z=>z.elim);refine wpAny_bind (wpAny_mono h₀ (λ_ s₂ h₂=>wpAny_bind (wpAny_mono h₂ (λok s₃ h₃=>?_) λ_ _ z=>z.elim)) λ_ _ z=>z.elim)
  cases ok with
  |false=>exact wpAny_pure ⟨rfl,h₃⟩
  |true=>
   rw[if_pos rfl] at h₃;show wpAny _ _ ((do let _ <- call (.builtin "list.append") [acc,<- eval elt env]) >>= λ_=>again (.compLoop (.ListComp elt [⟨target,iter,ifs,0⟩] scope pos) 0 it acc env)) _ _ _;exact wpAny_bind (wpAny_bind (wpAny_mono h₃ (λx s₄ h₄=>wpAny_bind (wpAny_mono h₄ (λ_ s₅ h₅=>wpAny_pure (wpAny_pure ⟨rfl,h₅⟩)) λ_ _ z=>z.elim)) λ_ _ z=>z.elim))
end
structure Ar (X:Cx) (scope:Scope) (cl:List (Str × Addr)) (Nc:List Str) (nl:Nat) (fr:List Nat):Prop where
 clos:closureFor scope X.env=pure cl
 kind:scope.kind=.function
 names:∀y∈scope.names,y.2=.local->scope.names.lookup y.1=some .local
 cell:∀y∈scope.names,y.2≠.cell
 sub:∀x c,cl.lookup x=some c->X.env.cells.lookup x=some c
 has:∀x,(relabel scope X.env).names.lookup x=some .cell\/(relabel scope X.env).names.lookup x=some .free->∃c,cl.lookup x=some c
 len:Nc.length=nl+fr.length
 tail:∀i n,Nc[nl+i]?=some n->∃j,fr[i]?=some j/\X.N[j]?=some n/\X.env.kindOf n=some .cell/\cl.lookup n=X.env.cells.lookup n/\((relabel scope X.env).names.lookup n=some .cell\/(relabel scope X.env).names.lookup n=some .free)
abbrev fR (X:Cx)(scope:Scope)(cl:List (Str × Addr))(Nc:List Str)(C:Addr)(s3:Shared)(H3:Hp)(fp:List Addr)(pins:List (Addr × Obj)):Cx:=
 { X with N:=Nc,s₀:=s3,H₀:=H3,env:=compEnvC scope cl C X.env,outer:=X.stack,ex:=fp,fn:=λ_=>false,pn:=X.pn++pins,xe:=λ_ _=>False }
def σC (nl:Nat)(fr:List Nat)(σ:St):St:=replicate nl none++fr.map λj=>(σ[j]?).join
abbrev PIf (X:Cx)(ifs:List Expr)(t:TT):Prop:=
 ∀(pins:List (Addr × Obj)) (s:Shared) (σ:St) (H:Hp) (Q:Bool->Hp->Prop),Inv X pins σ H s->t σ H Q->wpAny (model X.prog X.w) X.A (Xv ifs X.env) (TP X pins σ Q) X.xe s
theorem eX:PIf X [] (λ_ H Q=>Q true H):=λ_ _ _ H _ I h=>wpAny_pure ⟨H,I,h⟩
theorem jN (h:PT X c t):PIf X [c] t:=λpins s σ H Q I q=>wpAny_tests_one (h pins s σ H Q I q)
section
variable {X:Cx} {scope:Scope} {cl:List (Str × Addr)} {Nc:List Str} {nl:Nat} {fr:List Nat} {pins:List (Addr × Obj)} {σ:St} {H3:Hp} {s3:Shared} {fp:List Addr} {h4:Heap} {tk:Nat}
theorem Fi (ck:Ar X scope cl Nc nl fr)(I:Inv X pins σ H3 s3)(hf:∀b∈fp,oQ X pins H3 b)(hfs:∀b∈fp,b < s3.heap.objs.size)(hns:h4.Ns s3.heap.objs.size λ_=>none)(hk:∀b o,s3.heap.get? b=some o->h4.get? b=some o) :
  Inv (fR X scope cl Nc s3.heap.objs.size s3 H3 fp pins) [] (σC nl fr σ) H3 { s3 with heap:=h4,toks:=tk }:=by
 have stk:∀b∈frs X.stack,b∈X.env.locals :: X.fs:=I.stkSub;have nfs:∀b,b≠X.env.locals->b∉X.fs->b∉frs X.stack:=λb h1 h2 z=>(mem_cons.mp (stk b z)).elim h1 h2;have ltc:∀x c,cl.lookup x=some c->c < s3.heap.objs.size:=λx c e=>by
  obtain⟨v,z⟩:=I.cell x c (ck.sub x c e);exact z.lt
 refine⟨⟨I.ok.mod,ck.kind,I.ok.glob,I.ok.blt,Nat.le_refl _,λx y c h1 h2=>I.ok.inj x y c (ck.sub x c h1) (ck.sub y c h2),λx hx=>ck.has x hx,λx c hz=>Bool.noConfusion hz,I.ok.hd,I.ok.frames,.inl rfl,λb hb=>?_,I.bs,Nat.le_trans I.ok.bsz I.sz,λb o e hb=>?_,λb hb=>?_,I.stack,I.stkFree⟩,
  rfl,I.bare,Un.kept hk,⟨_,hns,λi x v h1 h2 h3=>?_⟩,λx c e=>?_,I.hok.fresh (Nat.le_refl _),λx c e=>I.freeC x c (ck.sub x c e),λp hp=>?_,I.hok.kept hk,?_⟩
 ·obtain⟨f0,f1,f2,f3,f4,f5⟩:=hf b hb;exact⟨Nat.ne_of_lt (hfs b hb),λx c e=>f4 x c (ck.sub x c e)⟩
 ·obtain⟨f0,f1,f2,f3,f4,f5⟩:=hf b hb;rcases f3 with z | z
  ·exact I.ok.noex b o e z
  ·exact absurd (Nat.lt_of_lt_of_le (Heap.lt_size e) (Nat.le_trans I.ok.bsz z)) (Nat.lt_irrefl _)
 ·obtain⟨f0,f1,f2,f3,f4,f5⟩:=hf b hb;exact nfs b f1 f2
 ·-- a name's value
  unfold σC at h2
  by_cases hi:i < nl
  ·rw[getElem?_append_left (by simpa using hi),getElem?_replicate] at h2;split at h2<;>cases h2
  ·have hi':nl<=i:=by lia
   rw[getElem?_append_right (by simpa using hi'),length_replicate,getElem?_map] at h2;obtain⟨k,rfl⟩:∃k,i=nl+k:=⟨i - nl,()⟩
   obtain⟨j,e1,e2,e3,e4,e5⟩:=ck.tail k x h1;rw[Nat.add_sub_cancel_left,e1] at h2;have h2':(σ[j]?).join=some v:=by simpa using h2
   have h2'':σ[j]?=some (some v):=by
    cases q:σ[j]? with
    |none=>rw[q] at h2';cases h2'
    |some z=>rw[q] at h2';exact congrArg some h2'
   obtain⟨m,hn,hl⟩:=I.loc;obtain⟨u,r,l⟩:=hl j x v e2 h2'' (.inr (.inl e3));refine⟨u,r,?_⟩;rcases l with ⟨k1,_⟩ | ⟨k1,c,ec,z⟩
   ·rw[e3] at k1;cases k1
   ·obtain⟨o,ho,hd⟩:=z;exact .inr ⟨e5,c,by show cl.lookup x=some c;rw[e4];exact ec,o,hk _ _ ho,hd⟩
 ·obtain⟨v,o,ho,hd⟩:=I.cell x c (ck.sub x c e);exact⟨v,o,hk _ _ ho,hd⟩
 ·have hp':p∈X.pn++pins:=by simpa using hp
  obtain⟨e,n,ne,nf,d⟩:=I.pin p hp';exact⟨hk _ _ e,n,Nat.ne_of_lt (Heap.lt_size e),nfs _ ne nf,d⟩
 ·unfold σC;show _=Nc.length;rw[List.length_append,length_replicate,length_map,ck.len]
theorem Qb (I:Inv X pins σ H3 s3)(hf:∀b∈fp,oQ X pins H3 b)(J:Inv (fR X scope cl Nc s3.heap.objs.size s3 H3 fp pins) pins' σ' H' s'):Inv X pins σ H' s'/\oQ X pins H' s3.heap.objs.size:=by
 refine⟨I.call' (ch:=fp) J.os J.base J.hok J.bare λb hb=>?_,I.fpOk (Nat.le_refl _) J.free⟩;obtain⟨f0,f1,f2,f3,f4,f5⟩:=hf b hb;exact⟨f3,f1,f4,f5⟩
theorem Inv.off (I:Inv X pins σ H s)(f:oQ X pins H b)(hs:Heap.SameBut b s.heap h'):Inv X pins σ H { s with heap:=h' }:=by
 obtain⟨f0,f1,f2,f3,f4,f5⟩:=f;exact I.turned (t':=s.toks) (it:=b) (λc o hb e=>(hs.2 c hb).trans e) f0 f1 f3 f4 f5
end
def Ev (J:It)(nl:Nat)(fr:List Nat)(g:TG)(tt:TT)(te:TE)(σ:St)(D:Addr)(H1:Hp)(Q:VK):Prop:=
 ∃W:Nat->Nat->List V->Hp->Prop,(∃m,W 0 m [] (upd H1 D (.lst [])))/\∀i m ys H2,W i m ys H2->H2 D=some (.lst ys)/\
  ((J.stop i H2/\Q (.ref D) H2)\/(J.go i H2/\∀x H3,J.yld i H2 x H3->g x (σC nl fr σ) H3 λσ2 H4=>σ2.length=(σC nl fr σ).length/\(∀(i:Nat) v,(σC nl fr σ)[i]?=some (some v)->σ2[i]?=some (some v))/\
   tt σ2 H4 λb H5=>if b=true then te σ2 H5 λy H6=>H6 D=some (.lst ys)/\ys.length < sizeLine/\∃m',m' < m/\W (i+1) m' (ys++[y]) (upd H6 D (.lst (ys++[y])))
    else ∃m',m' < m/\W (i+1) m' ys H5))
def Rv (wi:TI)(nl:Nat)(fr:List Nat)(g:TG)(tt:TT)(te:TE):TE:=λσ H Q=>wi σ H λJ H1=>∀D,H1 D=none->Ev J nl fr g tt te σ D H1 Q
section
variable {X:Cx} {scope:Scope} {cl:List (Str × Addr)} {Nc:List Str} {nl:Nat} {fr:List Nat} {elt tg iter:Expr} {ifs:List Expr} {pos:Pos} {wi:TI} {g:TG} {tt:TT} {te:TE}
theorem Ep (hc:X.calm=true)(ck:Ar X scope cl Nc nl fr)(hi:PI X tg iter wi)(hg:∀C s3 H3 fp pins,PG (fR X scope cl Nc C s3 H3 fp pins) tg g)(ht:∀C s3 H3 fp pins,PIf (fR X scope cl Nc C s3 H3 fp pins) ifs tt)(he:∀C s3 H3 fp pins,PE (fR X scope cl Nc C s3 H3 fp pins) elt te)(I:Inv X pins σ H s)(h:Rv wi nl fr g tt te σ H Q){RR:Value->Addr->Result->Shared->Prop}(fin:∀D C s',(∃H',(∃m,s'.heap.Ns C m)/\Inv X pins σ H' s'/\oQ X pins H' C/\Q (.ref D) H')->RR (.ref D) C (.ok .next) s'):
  wpAny (model X.prog X.w) X.A (eval iter X.env) (λx s₁=>wpAny (model X.prog X.w) X.A (pyIter x) (λit s₂=>wpAny (model X.prog X.w) X.A (newList []) (λacc s₃=>
   wpAny (model X.prog X.w) X.A (newFunctionEnv scope X.env.globals cl [] X.env.qual none .none (some X.env)) (λcenv s₄=>
    codeAny (model X.prog X.w) X.A (.compStart (.ListComp elt [⟨tg,iter,ifs,0⟩] scope pos) 0 it acc { cenv with scope:=relabel scope X.env }) (RR acc cenv.locals) s₄) X.xe s₃) X.xe s₂) X.xe s₁) X.xe s:=by
 refine thn (hi pins s σ H _ I h) λv s1 h1=>thn h1 λitv s2 h2=>?_;obtain⟨it,fp,tn,J,H2,e,I2,T,st2,f2,hD⟩:=h2;subst e;have hn2:H2 s2.heap.objs.size=none:=I2.hok.fresh (Nat.le_refl _);obtain⟨W,⟨m0,w0⟩,turn⟩:=hD s2.heap.objs.size hn2;refine wpAny_newObj_type (wpAny_newFunctionEnv ck.cell (by intro y hy;simp at hy) (λh4 hns hsb=>?_) ck.kind);dsimp only at hns hsb ⊢;have I3:Inv X pins σ (upd H2 s2.heap.objs.size (.lst [])) { s2 with heap:=s2.heap.push { cls:=.type "list",dict:=none,data:=.seq ([]:List Value).toArray } }:=
  I2.laid (t':=s2.toks) (λb u e=>Heap.get?_push_of_some _ e) (Nat.le_refl _) ⟨Nat.zero_le _,[],0,.nil,Heap.get?_push_size _ rfl⟩
 have hfs:∀b∈fp,b < s2.heap.objs.size:=λb hb=>by
  obtain⟨o,e,_⟩:=T.obj 0 _ st2 b hb;exact Heap.lt_size e
 have f3:∀b∈fp,oQ X pins (upd H2 s2.heap.objs.size (.lst [])) b:=λb hb=>⟨by rw[aR (Nat.ne_of_lt (hfs b hb))];exact(f2 b hb).1,(f2 b hb).2⟩
 generalize hH3:upd H2 s2.heap.objs.size (.lst [])=H3 at *
 generalize hs3:({ s2 with heap:=s2.heap.push { cls:=.type "list",dict:=none,data:=.seq ([]:List Value).toArray } }:Shared)=s3 at *
 have z3:s3.heap=s2.heap.push { cls:=.type "list",dict:=none,data:=.seq ([]:List Value).toArray }:=by rw[<- hs3]
 have hsz3:s3.heap.objs.size=s2.heap.objs.size+1:=by rw[z3,Heap.size_push]
 rw[<- z3] at hns hsb ⊢;have hk4:∀b o,s3.heap.get? b=some o->h4.get? b=some o:=λb o e=>hsb.extBut b o (Nat.ne_of_lt (Heap.lt_size e)) (Heap.get?_push_of_some _ e);have hfs3:∀b∈fp,b < s3.heap.objs.size:=λb hb=>Nat.lt_of_lt_of_le (hfs b hb) (by rw[hsz3];exact Nat.le_succ _);have hns':h4.Ns s3.heap.objs.size λ_=>none:=by simpa using hns
 have K0:=λtk=>Fi (tk:=tk) ck I3 f3 hfs3 hns' hk4;have stat:∀{H':Hp},(∀b∈fp,H' b=none)->∀b∈fp,oQ (fR X scope cl Nc s3.heap.objs.size s3 H3 fp pins) [] H' b:=λ{H'} hn b hb=>by
  obtain⟨f0,g1,g2,g3,g4,g5⟩:=f3 b hb;refine⟨hn b hb,Nat.ne_of_lt (hfs3 b hb),λz=>?_,.inl hb,λx c e=>g4 x c (ck.sub x c e),λp hp=>g5 p (by simpa using hp)⟩;exact(mem_cons.mp (I3.stkSub b z)).elim g1 g2
 have st4:tn 0 h4:=T.keep 0 _ _ st2 λb hb o e=>hk4 b o (by rw[z3];exact Heap.get?_push_of_some _ e);have loop:∀tk,codeAny (model X.prog X.w) X.A (.compLoop (.ListComp elt [⟨tg,iter,ifs,0⟩] scope pos) 0 (.ref it) (.ref s2.heap.objs.size) (compEnvC scope cl s3.heap.objs.size X.env)) (RR (.ref s2.heap.objs.size) s3.heap.objs.size) { s3 with heap:=h4,toks:=tk }:=by
  intro tk;refine No (λn s'=>∃i ys H',Inv (fR X scope cl Nc s3.heap.objs.size s3 H3 fp pins) [] (σC nl fr σ) H' s'/\tn i s'.heap/\(∀b∈fp,H' b=none)/\W i n ys H') ?_ m0 ⟨0,[],H3,K0 tk,st4,λb hb=>(f3 b hb).1,w0⟩;rintro n s5 ⟨i,ys,H5,I5,st5,fr5,w5⟩;obtain⟨hl5,q5⟩:=turn i n ys H5 w5;rcases q5 with ⟨stop,qn⟩ | ⟨go,step⟩
  ·refine wpAny_mono (T.done (fR X scope cl Nc s3.heap.objs.size s3 H3 fp pins) rfl rfl rfl hc i [] s5 (σC nl fr σ) H5 (λ_ _=>False) I5 (stat fr5) st5 stop) (λr s6 h6=>?_) λ_ _ z=>z;obtain⟨hr,I6⟩:=h6;subst hr;obtain⟨z1,z2⟩:=Qb I3 f3 I6;refine fin _ _ _ ⟨H5,?_,z1,z2,qn⟩;obtain⟨m,hm,_⟩:=I6.loc;exact⟨m,hm⟩
  ·refine wpAny_mono (T.item (fR X scope cl Nc s3.heap.objs.size s3 H3 fp pins) rfl rfl rfl hc i [] s5 (σC nl fr σ) H5 (λ_ _=>False) I5 (stat fr5) st5 go) (λr s6 h6=>?_) λ_ _ z=>z;obtain⟨u,hr,h6⟩:=h6;subst hr;refine wpAny_mono h6 (λ_ s7 h7=>?_) λ_ _ z=>z;obtain⟨x,H7,I7,r7,y7,st7,fr7⟩:=h7;have I7':=I7.pinned (stat fr7) (T.obj _ _ st7);refine wpAny_mono (hg s3.heap.objs.size s3 H3 fp pins _ s7 _ H7 x u _ I7' r7 (step x H7 y7)) (λ_ s8 h8=>?_) λ_ _ z=>z;obtain⟨σ8,H8,I8,l8,k8,q8⟩:=h8;refine wpAny_mono (ht s3.heap.objs.size s3 H3 fp pins _ s8 σ8 H8 _ I8 q8) (λb s9 h9=>?_) λ_ _ z=>z;obtain⟨H9,I9,q9⟩:=h9;have again:∀{ys':List V} {H':Hp} {s':Shared} {m':Nat},Inv (fR X scope cl Nc s3.heap.objs.size s3 H3 fp pins) ([]++xG fp s7.heap) σ8 H' s'->m' < n->W (i+1) m' ys' H'->
     ∃m,m < n/\∃i ys H',Inv (fR X scope cl Nc s3.heap.objs.size s3 H3 fp pins) [] (σC nl fr σ) H' s'/\tn i s'.heap/\(∀b∈fp,H' b=none)/\W i m ys H':=λ{ys' H' s' m'} I' hm w'=>by
    refine⟨m',hm,i+1,ys',H',I'.unpinned.weak l8.symm k8,T.keep _ _ _ st7 λb hb o e=>(I'.pin (b,o) (mem_append_right _ (mem_append_right _ (lL hb e)))).1,λb hb=>?_,w'⟩;obtain⟨o,e,d⟩:=T.obj _ _ st7 b hb;exact(I'.pin (b,o) (mem_append_right _ (mem_append_right _ (lL hb e)))).2.1
   cases b with
   |false=>
    rw[if_neg Bool.false_ne_true] at q9 ⊢;obtain⟨m',hm,w9⟩:=q9;exact again I9 hm w9
   |true=>
    rw[if_pos rfl] at q9 ⊢;refine wpAny_mono (he s3.heap.objs.size s3 H3 fp pins _ s9 σ8 H9 _ I9 q9) (λyv s10 h10=>?_) λ_ _ z=>z;obtain⟨y,H10,I10,r10,hl10,hz10,m',hm,w10⟩:=h10;refine wpAny_mono (eY (X:=fR X scope cl Nc s3.heap.objs.size s3 H3 fp pins) _ s10 σ8 H10 (.ref s2.heap.objs.size) [y] _ [yv] (λv H'=>H'=upd H10 s2.heap.objs.size (.lst (ys++[y]))) I10 rfl (.cons r10 .nil) ⟨_,ys,y,rfl,rfl,hl10,hz10,rfl⟩) (λ_ s11 h11=>?_) λ_ _ z=>z;obtain⟨_,H11,I11,_,e11⟩:=h11;subst e11;exact again I11 hm w10
 have L:=loop (s2.toks+([]:List (Str × Value)).length);rw[show s3.gens=s2.gens by rw[<- hs3],show s3.drawn=s2.drawn by rw[<- hs3],show s3.os=s2.os by rw[<- hs3]] at L;exact codeAny_compStart_list L (T.self _ 0 _ _ _ st4 L)
theorem dZ (hc:X.calm=true)(ck:Ar X scope cl Nc nl fr)(hi:PI X tg iter wi)(hg:∀C s3 H3 fp pins,PG (fR X scope cl Nc C s3 H3 fp pins) tg g)(ht:∀C s3 H3 fp pins,PIf (fR X scope cl Nc C s3 H3 fp pins) ifs tt)(he:∀C s3 H3 fp pins,PE (fR X scope cl Nc C s3 H3 fp pins) elt te)(hs:∀x,foldedSetIterable iter X.env x=pure x:=by intro _;rfl):PE X (.ListComp elt [⟨tg,iter,ifs,0⟩] scope pos) (Rv wi nl fr g tt te):=by
 intro pins s σ H Q I h;rw[eval_ListComp];refine wpAny_comprehension_free (use:=none) rfl hs ck.clos ck.kind ck.names (Ep (RR:=λacc C=>compPost (model X.prog X.w) X.A X.xe none (EP X pins σ Q) acc C) hc ck hi hg ht he I h λD C s' hh=>?_);obtain⟨H',⟨m,hm⟩,hI,hF,q⟩:=hh;exact⟨m,hm,λh' hs'=>⟨.ref D,H',hI.off hF hs',rfl,q⟩⟩
theorem nY (hN:X.N.Nodup)(hiy:X.N[i]?=some y)(hy:X.env.scope.names.lookup y=some .local)(hc:X.calm=true)(ck:Ar X scope cl Nc nl fr)(hi:PI X tg iter wi)(hg:∀C s3 H3 fp pins,PG (fR X scope cl Nc C s3 H3 fp pins) tg g)(ht:∀C s3 H3 fp pins,PIf (fR X scope cl Nc C s3 H3 fp pins) ifs tt)(he:∀C s3 H3 fp pins,PE (fR X scope cl Nc C s3 H3 fp pins) elt te)(hsw:swapsWith (.ListComp elt [⟨tg,iter,ifs,0⟩] scope pos) (some (.Name y py)) spos.line X.env=pure true)(hs:∀x,foldedSetIterable iter X.env x=pure x:=by intro _;rfl):PS X (.Assign [.Name y py] (.ListComp elt [⟨tg,iter,ifs,0⟩] scope pos) spos) (qb6 (Rv wi nl fr g tt te) (iF i)):=by
 intro pins s σ H D I h;rw[exec_Assign_Name_used _ _ _ _ hsw];refine wpAny_bind (wpAny_standAt (wpAny_bind ?_));show wpAny _ X.A (do let _ <- comprehension (.ListComp elt [⟨tg,iter,ifs,0⟩] scope pos) scope X.env _ (newList []) false (eval iter X.env) (some (assign (.Name y py) X.env))) _ _ s;refine wpAny_bind (wpAny_mono (wpAny_comprehension_free (use:=some (assign (.Name y py) X.env)) (Q:=λ_ s'=>SP X pins D .next s') rfl hs ck.clos ck.kind ck.names
  (Ep (RR:=λacc C=>compPost (model X.prog X.w) X.A X.xe (some (assign (.Name y py) X.env)) (λ_ s'=>SP X pins D .next s') acc C) hc ck hi hg ht he I h λDd C s' hh=>?_)) (λ_ s' hq=>wpAny_pure (wpAny_pure hq)) λ_ _ e=>e)
 obtain⟨H',⟨m,hm⟩,hI,hF,q⟩:=hh;show wpAny _ X.A (assign (.Name y py) X.env (.ref Dd)) _ _ _;refine wpAny_assign_Name (zQ hI hN hiy (.inl hy) (v:=.ref Dd) rfl (λs2 I2 hsb=>?_) (.inr hy));obtain⟨a,sb,ha⟩:=hsb;have hCa:C≠a:=by
  rcases ha with z | z
  ·rw[z];exact hF.2.1
  ·exact Ne.symm (hF.2.2.2.2.1 y a z)
 refine⟨m,hm.sameBut sb hCa,λh' hs'=>⟨_,H',I2.off hF hs',q⟩⟩
end
end L2
namespace Mq
abbrev Q2:=Int × Int
def gc (a b:Int):Int:=(Int.gcd a b:Nat)
theorem Ko (a b:Int):gc b (Int.fmod a b)=gc a b:=by
 unfold gc;rw[Int.fmod_def,Int.gcd_comm a b,Int.sub_eq_add_neg,<- Int.mul_neg,Int.gcd_add_mul_left_right]
theorem zD (h:b≠0):(Int.fmod a b).natAbs < b.natAbs:=by
 rcases (by lia:0 < b\/b < 0) with h1 | h1
 ·have:=Int.fmod_nonneg_of_pos a h1;have:=Int.fmod_lt_of_pos a h1;lia
 ·have h2:0 < -b:=by lia
  have e:Int.fmod a b=- Int.fmod (-a) (-b):=by
   rw[Int.neg_fmod_neg];lia
  have:=Int.fmod_nonneg_of_pos (-a) h2;have:=Int.fmod_lt_of_pos (-a) h2;lia
theorem Ka (a:Int):gc a 0=if a < 0 then -a else a:=by
 unfold gc;rw[Int.gcd_zero];split<;>lia
theorem qb2 (a b:Int):gc (if a < 0 then -a else a) (if b < 0 then -b else b)=gc a b:=by
 unfold gc;split<;>split<;>simp
theorem vW (h:b≠0):0 < gc a b:=by
 have:=Int.gcd_pos_of_ne_zero_right a h;unfold gc;lia
structure Low (p:Q2):Prop where
 pos:1<=p.2
 one:gc p.1 p.2=1
def dvr (t b:Int):Int:=if b < 0 then -gc t b else gc t b
def red (t b:Int):Q2:=(Int.fdiv t (dvr t b),Int.fdiv b (dvr t b))
theorem rY (h:b≠0):dvr t b≠0:=by
 have:=vW (a:=t) h;unfold dvr;split<;>lia
theorem fK (hg:g≠0)(h:a=g*k):Int.fdiv a g=k:=by
 rw[h,Int.mul_fdiv_cancel_left _ hg]
theorem Up (t b:Int):dvr t b ∣ t/\dvr t b ∣ b:=by
 have h1:gc t b ∣ t:=Int.gcd_dvd_left t b;have h2:gc t b ∣ b:=Int.gcd_dvd_right t b;unfold dvr;split
 ·exact⟨Int.neg_dvd.mpr h1,Int.neg_dvd.mpr h2⟩
 ·exact⟨h1,h2⟩
theorem tD (h:b≠0):t=dvr t b*(red t b).1/\b=dvr t b*(red t b).2:=by
 obtain⟨⟨x,hx⟩,⟨y,hy⟩⟩:=Up t b;have hg:=rY (t:=t) h;have e1:(red t b).1=x:=fK hg hx;have e2:(red t b).2=y:=fK hg hy;rw[e1,e2];exact⟨hx,hy⟩
theorem hZ (h:b≠0):Low (red t b):=by
 obtain⟨h1,h2⟩:=tD (t:=t) h;have hg:=rY (t:=t) h;have hp:=vW (a:=t) h;have nd:(dvr t b).natAbs=(gc t b).natAbs:=by unfold dvr;split<;>simp
 have e:Int.gcd t b=(dvr t b).natAbs*Int.gcd (red t b).1 (red t b).2:=by
  rw[<- Int.gcd_mul_left,<- h1,<- h2]
 have e2:(gc t b).natAbs=Int.gcd t b:=by unfold gc;simp
 rw[nd,e2] at e;have hp':0 < Int.gcd t b:=by unfold gc at hp;lia
 have one:Int.gcd (red t b).1 (red t b).2=1:=by
  have:Int.gcd t b*Int.gcd (red t b).1 (red t b).2=Int.gcd t b*1:=by lia
  exact Nat.eq_of_mul_eq_mul_left hp' this
 refine⟨?_,by unfold gc;rw[one];rfl⟩;have sgn:0 < (red t b).2:=by
  by_cases hb:b < 0
  ·have hd:dvr t b < 0:=by unfold dvr;rw[if_pos hb];lia
   have hq:¬(red t b).2<=0:=λq=>by
    have:=Int.mul_nonneg_of_nonpos_of_nonpos (Int.le_of_lt hd) q;lia
   lia
  ·have hd:0 < dvr t b:=by unfold dvr;rw[if_neg hb];lia
   have hq:¬(red t b).2<=0:=λq=>by
    have:=Int.mul_nonpos_of_nonneg_of_nonpos (Int.le_of_lt hd) q;lia
   lia
 lia
theorem Aa (h:b≠0):(red t b).1*b=t*(red t b).2:=by
 obtain⟨h1,h2⟩:=tD (t:=t) h;generalize (red t b).1=x at *
 generalize (red t b).2=y at *
 generalize dvr t b=g at *
 subst h1 h2;grind
theorem iY {a g k:Int}(hg:g≠0)(h:a=g*k):k.natAbs<=a.natAbs:=by
 rw[h,Int.natAbs_mul];exact Nat.le_mul_of_pos_left _ ()
theorem pD (h:b≠0):(red t b).1.natAbs<=t.natAbs/\(red t b).2.natAbs<=b.natAbs:=by
 obtain⟨h1,h2⟩:=tD (t:=t) h;exact⟨iY (rY h) h1,iY (rY h) h2⟩
theorem Gi (h:b≠0):(dvr t b).natAbs<=b.natAbs:=by
 have e:(dvr t b).natAbs=Int.gcd t b:=by unfold dvr gc;split<;>simp
 rw[e];exact Int.gcd_le_natAbs_right t h
theorem Re (hp:Low p)(hq:Low q)(h:p.1*q.2=q.1*p.2):p=q:=by
 have gp:Int.gcd p.2 p.1=1:=by have:=hp.one;rw[Int.gcd_comm];unfold gc at this;lia
 have gq:Int.gcd q.2 q.1=1:=by have:=hq.one;rw[Int.gcd_comm];unfold gc at this;lia
 have d1:p.2 ∣ q.2:=by
  have:p.2 ∣ p.1*q.2:=⟨q.1,by rw[h,Int.mul_comm]⟩
  have:=Int.dvd_gcd_mul_iff_dvd_mul.mpr this;rw[gp] at this;simpa using this
 have d2:q.2 ∣ p.2:=by
  have:q.2 ∣ q.1*p.2:=⟨p.1,by rw[<- h,Int.mul_comm]⟩
  have:=Int.dvd_gcd_mul_iff_dvd_mul.mpr this;rw[gq] at this;simpa using this
 have l1:=Int.le_of_dvd (by have:=hq.pos;lia) d1;have l2:=Int.le_of_dvd (by have:=hp.pos;lia) d2;have e2:p.2=q.2:=by lia
 have e1:p.1=q.1:=by
  rw[e2] at h;exact Int.eq_of_mul_eq_mul_right (by have:=hq.pos;lia) h
 exact Prod.ext e1 e2
def jJ (p q:Q2):Q2:=red (p.1*q.2+q.1*p.2) (p.2*q.2)
def minus (p q:Q2):Q2:=red (p.1*q.2 - q.1*p.2) (p.2*q.2)
def tN (p q:Q2):Q2:=red (p.1*q.1) (p.2*q.2)
def tV (p q:Q2):Q2:=red (p.1*q.2) (p.2*q.1)
def tot (l:List Q2):Q2:=l.foldl jJ (0,1)
theorem gO {a b:Int}(ha:1<=a)(hb:1<=b):a*b≠0:=by
 have:=Int.mul_pos (show 0 < a by lia) (show 0 < b by lia);lia
theorem kI (hp:1<=p.2)(hq:1<=q.2):Low (jJ p q):=hZ (gO hp hq)
def B (n:Nat)(i:Int):Prop:=i.natAbs < 2 ^ n
structure Bd (n:Nat) (p:Q2):Prop where
 a:B n p.1
 b:B n p.2
theorem B.mono (h:B n i)(l:n<=m):B m i:=Nat.lt_of_lt_of_le h (Nat.pow_le_pow_right ∅ l)
theorem B.mul (h:B n i)(q:B m j):B (n+m) (i*j):=by
 unfold B at *
 rw[Int.natAbs_mul,Nat.pow_add];exact Nat.mul_lt_mul'' h q
theorem B.add (h:B n i)(q:B n j):B (n+1) (i+j):=by
 unfold B at *
 have:=Int.natAbs_add_le i j;rw[Nat.pow_succ];lia
theorem B.neg (h:B n i):B n (-i):=by unfold B at *;lia
theorem B.sub (h:B n i)(q:B n j):B (n+1) (i - j):=by
 rw[Int.sub_eq_add_neg];exact h.add q.neg
theorem B.le (h:B n i)(l:j.natAbs<=i.natAbs):B n j:=Nat.lt_of_le_of_lt l h
theorem Bd.mono (h:Bd n p)(l:n<=m):Bd m p:=⟨h.a.mono l,h.b.mono l⟩
theorem Az (h:Bd n p)(g:Bd m q)(hp:1<=p.2)(hq:1<=q.2):Bd (n+m+1) (jJ p q):=by
 have k:=pD (t:=p.1*q.2+q.1*p.2) (gO hp hq);have a2:B (n+m) (q.1*p.2):=by rw[Nat.add_comm];exact g.a.mul h.b
 exact⟨((h.a.mul g.b).add a2).le k.1,((h.b.mul g.b).mono (Nat.le_succ _)).le k.2⟩
def Pos (l:List Q2):Prop:=∀f∈l,1<=f.2
theorem Lu:∀{p:Q2},Low p->Pos l->Low (l.foldl jJ p):=by
 induction l with
 |nil=>intro p h _;exact h
 |cons x r ih=>intro p h k;exact ih (kI h.pos (k x ⋯)) λf hf=>k f (by simp[hf])
theorem qm4:Low (0,1):=⟨Int.le_refl 1,rfl⟩
theorem Jr (h:Pos l):Low (tot l):=Lu qm4 h
end Mq
open Mq (Az Gi Jr Ka Ko dvr fK gO gc hZ pD rY red tN tV tot zD)
namespace L2
open PySem PySem.Spec PyProof.Rows
structure aW (K:Frag) (x qual:Str) (st:Stmt) (dV:Value) (f:Addr) (fd:FuncData):Prop where
 ex:∃(oc:Value) (od:Option Addr) (kV doc pm:Value) (an:Option Addr) (cdv ct:Value) (osl:Array (Option Value)),
  fd=W.fnOf x qual (eJ st) (cU st) (aI st) dV kV doc pm an cdv ct/\K.lookup f=some ⟨oc,od,.func fd,osl⟩/\W.codeIn K cdv qual=true
 kp:W.keepIn K (.ref f)=true
section
variable {P:Program} {w:World} {K:Frag} {mg:Str->Option Value} {base:Heap} {CX:CXT}
theorem aW.okX {st:Stmt}(F:aW K x qual st dV f fd)(S:aP N ps (aI st))(len:∀vs H Q E,sp vs H Q E->vs.length=ps.length)(hbody:∀(cdv:Value) (A:Around) (outer:List Env) (s:Shared) (H:Hp) (vs:List V) (Q:VK) (E:XK),gM k (A.deeper (envOfC qual (aI st) s.heap.objs.size f cdv))->sp vs H Q E->
   ∃t,PSs (yT CX P w K mg base N qual (aI st) f cdv A outer s H E) (cU st) t/\t { nx:=λ_ H'=>Q .non H',rt:=Q } (start N vs) H):aK P w K mg base CX (k+1) f fd ps sp:=by
 obtain⟨oc,od,kV,doc,pm,an,cdv,ct,osl,rfl,lk,hcd⟩:=F.ex;exact qj6 lk hcd S len λA outer s H vs Q E hr hsp=>hbody cdv A outer s H vs Q E hr hsp
theorem aW.ok {st:Stmt}(F:aW K x qual st dV f fd)(S:aP N ps (aI st))(len:∀vs H Q E,sp vs H Q E->vs.length=ps.length)(hbody:∀(cdv:Value) (A:Around) (outer:List Env) (s:Shared) (H:Hp) (vs:List V) (Q:VK) (E:XK),gM k (A.deeper (envOfC qual (aI st) s.heap.objs.size f cdv))->sp vs H Q E->
   ∃t,PSs (yT CX P w K mg base N qual (aI st) f cdv A outer s H E).nox (cU st) t/\t { nx:=λ_ H'=>Q .non H',rt:=Q } (start N vs) H):aK P w K mg base CX (k+1) f fd ps sp:=
 F.okX S len λcdv A outer s H vs Q E hr hsp=>by
  obtain⟨t,h,q⟩:=hbody cdv A outer s H vs Q E hr hsp;exact⟨t,h.nox,q⟩
theorem aW.ok9 {st:Stmt}(F:aW K x qual st dV f fd)(S:aP N ps (aI st))(hbody:∀(cdv:Value) (A:Around) (outer:List Env) (s:Shared) (H:Hp) (vs:List V) (Q:VK) (E:XK),gM k (A.deeper (envOfC qual (aI st) s.heap.objs.size f cdv))->sp vs H Q E->
   ∃t,PSs (yT CX P w K mg base N qual (aI st) f cdv A outer s H E).nox (cU st) t/\t { nx:=λ_ H'=>Q .non H',rt:=Q } (start N vs) H)(len:∀vs H Q E,sp vs H Q E->vs.length=ps.length:=by intro _ _ _ _ h;first|(cases h;subst_vars;rfl)|(repeat (first | (obtain⟨rfl,_⟩:=h;rfl) | obtain⟨_,h⟩:=h))):aK P w K mg base CX (k+1) f fd ps sp:=F.ok S len hbody
theorem aW.binds {st:Stmt}(F:aW K x qual st dV f fd)(h:∀(kV doc pm:Value) (an:Option Addr) (cdv ct:Value) (us:List Value),us.length=ps.length->bindArgs (W.fnOf x qual (eJ st) (cU st) (aI st) dV kV doc pm an cdv ct) ⟨us,[]⟩=pure (ps.zip us)):aL K fd ps []:=by
 obtain⟨oc,od,kV,doc,pm,an,cdv,ct,osl,rfl,lk,hcd⟩:=F.ex;exact .all (h kV doc pm an cdv ct)
theorem uH {st:Stmt}{kV doc pm cdv ct:Value}(l:K.lookup f=some ⟨oc,od,.func (W.fnOf x qual (eJ st) (cU st) (aI st) dV kV doc pm an cdv ct),osl⟩)(c:W.codeIn K cdv qual=true)(k:kI9 K f):aW K x qual st dV f (W.fnOf x qual (eJ st) (cU st) (aI st) dV kV doc pm an cdv ct):=⟨⟨oc,od,kV,doc,pm,an,cdv,ct,osl,rfl,l,c⟩,k⟩
end
abbrev fT (p:Mq.Q2):HO:=.tup [.int p.1,.int p.2]
def Fq (K:Frag)(H:Hp)(a:Addr)(p:Mq.Q2):Prop:=SqT K H a [.int p.1,.int p.2]
theorem aS.seqT {K:Frag}(e:aS H H')(h:SqT K H a xs):SqT K H' a xs:=by
 rcases h with (h | ⟨o,h⟩) | h
 ·exact .inl (.inl (e _ _ h))
 ·exact .inl (.inr ⟨o,e _ _ h⟩)
 ·exact .inr h
theorem aE (h:H p=none)(o:HO):aS H (upd H p o):=λb u q=>by rw[aR (bK q h)];exact q
theorem aS.fq {K:Frag}(e:aS H H')(h:Fq K H a p):Fq K H' a p:=e.seqT h
theorem Fq.of {K:Frag}(h:H a=some (fT p)):Fq K H a p:=SqT.of h
theorem fA {K:Frag}(hv:σ[i]?=some (some (.ref a)))(h:Fq K H a p)(q:Q (.int p.1) H):tOp (Po K) (Tm i) (tC (.int 0)) σ H Q:=
 ⟨_,hv,a,_,_,_,rfl,rfl,h,rfl,q⟩
theorem cT {K:Frag}(hv:σ[i]?=some (some (.ref a)))(h:Fq K H a p)(q:Q (.int p.2) H):tOp (Po K) (Tm i) (tC (.int 1)) σ H Q:=
 ⟨_,hv,a,_,_,_,rfl,rfl,h,rfl,q⟩
theorem cO (h1:Mq.B n i)(h2:Mq.B m j)(h3:n<=1048576)(h4:m<=1048576)(q:Q (.int (i*j)) H):rI Wf (λi j=>.int (i*j)) (.int i) (.int j) H Q:=
 ⟨_,_,rfl,rfl,⟨n,m,h1,h2,h3,h4⟩,q⟩
theorem gA (h1:j≠0)(h2:Mq.B n j)(h3:n<=9000)(q:Q (.int (i.fdiv j)) H):rI Jl (λi j=>.int (i.fdiv j)) (.int i) (.int j) H Q:=
 ⟨_,_,rfl,rfl,⟨h1,n,h2,h3⟩,q⟩
structure Bl (mg:Str->Option Value):Prop where
 isi:mg "isinstance"=none
 int:mg "int"=none
 bool:mg "bool"=none
 abs:mg "abs"=none
def iD (t:Value):Prop:=t=.type "bool"\/t=.type "str"\/t=.type "NoneType"\/t=.type "tuple"\/t=.type "list"
inductive oB (K:Frag) (vs:List V) (H:Hp) (Q:VK) (E:XK):Prop where
 |mk (x):vs=[x]->((∃i,x=.int i/\Q (.bl true) H)\/(∃t,kM K H x t/\iD t/\Q (.bl false) H))->oB K vs H Q E
inductive Ty (vs:List V) (H:Hp) (Q:VK) (E:XK):Prop where
 |mk (a b:Int):vs=[.int a,.int b]->Q (.int (gc a b)) H->Ty vs H Q E
def Ha (H:Hp)(Q:VK)(p:Mq.Q2):Prop:=∀a H',aS H H'->H' a=some (fT p)->Q (.ref a) H'
inductive hJ (vs:List V) (H:Hp) (Q:VK) (E:XK):Prop where
 |mk (t b:Int) (n:Nat):vs=[.int t,.int b]->b≠0->Mq.B n b->n<=9000->Ha H Q (red t b)->hJ vs H Q E
inductive iG (K:Frag) (f:Mq.Q2->Mq.Q2->Mq.Q2) (vs:List V) (H:Hp) (Q:VK) (E:XK):Prop where
 |mk (a b:Addr) (p q:Mq.Q2) (n m:Nat):vs=[.ref a,.ref b]->Fq K H a p->Fq K H b q->1<=p.2->1<=q.2->Mq.Bd n p->Mq.Bd m q->n+m+1<=9000->Ha H Q (f p q)->iG K f vs H Q E
inductive Fqs (K:Frag) (H:Hp):List V->List Mq.Q2->Prop where
 |nil:Fqs K H [] []
 |cons {a:Addr} {p:Mq.Q2} {xs:List V} {ps:List Mq.Q2} (h:Fq K H a p) (q:Fqs K H xs ps):Fqs K H (.ref a :: xs) (p :: ps)
theorem Fqs.same {K:Frag}(e:aS H H'):∀{xs:List V} {ps:List Mq.Q2},Fqs K H xs ps->Fqs K H' xs ps
 |_,_,.nil=>.nil
 |_,_,.cons h q=>.cons (e.fq h) (Fqs.same e q)
theorem Fqs.length {K:Frag}:∀{xs:List V} {ps:List Mq.Q2},Fqs K H xs ps->xs.length=ps.length
 |_,_,.nil=>rfl
 |_,_,.cons _ q=>by simp[Fqs.length q]
theorem Fqs.get {K:Frag}:∀{xs:List V} {ps:List Mq.Q2} {i:Nat} {x:V},Fqs K H xs ps->xs[i]?=some x->∃a p,x=.ref a/\ps[i]?=some p/\Fq K H a p
 |_,_,_,_,.nil,h=>by simp at h
 |_,_,0,_,.cons h _,e=>by simp at e;exact⟨_,_,e.symm,rfl,h⟩
 |_,_,i+1,_,.cons _ q,e=>by simpa using Fqs.get q (by simpa using e)
theorem Fqs.app {K:Frag}:∀{xs ys:List V} {ps qs:List Mq.Q2},Fqs K H xs ps->Fqs K H ys qs->Fqs K H (xs++ys) (ps++qs)
 |_,_,_,_,.nil,r=>r
 |_,_,_,_,.cons h q,r=>.cons h (Fqs.app q r)
theorem Fqs.take {K:Frag}:∀{xs:List V} {ps:List Mq.Q2} (n:Nat),Fqs K H xs ps->Fqs K H (xs.take n) (ps.take n)
 |_,_,_,.nil=>by simp;exact .nil
 |_,_,0,.cons _ _=>.nil
 |_,_,n+1,.cons h q=>.cons h (Fqs.take n q)
theorem Fq.upd {K:Frag}(h:Fq K H a p)(hl:H l=some (.lst xs)):Fq K (L2.upd H l o) a p:=by
 rcases h with (h | ⟨u,h⟩) | h
 ·exact .inl (.inl (by rw[aR (jP h hl (λz=>by cases z))];exact h))
 ·exact .inl (.inr ⟨u,by rw[aR (jP h hl (λz=>by cases z))];exact h⟩)
 ·exact .inr h
theorem Fqs.upd {K:Frag}(hl:H l=some (.lst ys)):∀{xs:List V} {ps:List Mq.Q2},Fqs K H xs ps->Fqs K (L2.upd H l o) xs ps
 |_,_,.nil=>.nil
 |_,_,.cons h q=>.cons (h.upd hl) (Fqs.upd hl q)
theorem aS.change (s:aS H H')(h:H l=none):aS H (L2.upd H' l o):=λb u q=>by
 rw[aR (bK q h)];exact s b u q
def qd (p:Mq.Q2):PyData:=.tuple [.int p.1,.int p.2]
theorem Fq.dat {K:Frag}(h:Fq K H a p):qQ K H (.ref a) (qd p):=.tup h (.cons (.int _) (.cons (.int _) .nil))
theorem Te (p:Mq.Q2):(qd p).canLay0=true:=rfl
theorem Sw (p:Mq.Q2):(qd p).depth<=1:=by simp[qd,PyData.depth,PyData.depthAll]
theorem qc5 (p q:Mq.Q2):PyData.eqv (qd p) (qd q)=decide (p=q):=by
 unfold qd;simp only[PyData.eqv,PyData.eqvAll]
 by_cases h:p=q
 ·subst h;simp
 ·rw[decide_eq_false h]
  by_cases h1:p.1=q.1
  ·have h2:p.2≠q.2:=λz=>h (Prod.ext h1 z);simp[h2]
  ·simp[h1]
theorem Yr {K:Frag}(h1:Fq K H a p)(h2:Fq K H b q)(z:Q (.bl (if neg then !decide (p=q) else decide (p=q))) H):yN K neg (.ref a) (.ref b) H Q:=by
 refine⟨_,_,h1.dat,h2.dat,Te p,Te q,?_,?_⟩
 ·have:=Sw p;lia
 ·rw[qc5];exact z
abbrev Iy (nl:Nat)(fr:List Nat)(g:TG)(tt:TT)(te:TE)(σ:St)(D:Addr)(Pv:Nat->List V->Hp->Prop)(i:Nat)(ys:List V)(x:V)(H:Hp):Prop:=
 g x (σC nl fr σ) H λσ2 H4=>σ2.length=(σC nl fr σ).length/\(∀(i:Nat) v,(σC nl fr σ)[i]?=some (some v)->σ2[i]?=some (some v))/\
  tt σ2 H4 λb H5=>if b=true then te σ2 H5 λy H6=>H6 D=some (.lst ys)/\ys.length < sizeLine/\Pv (i+1) (ys++[y]) (upd H6 D (.lst (ys++[y]))) else Pv (i+1) ys H5
section
variable {nl:Nat} {fr:List Nat} {g:TG} {tt:TT} {te:TE} {σ:St} {D:Addr} {H1:Hp} {Q:VK}
theorem kU {lo:Int}(Pv:Nat->List V->Hp->Prop)(h0:Pv 0 [] (upd H1 D (.lst [])))(hl:∀i ys H,Pv i ys H->H D=some (.lst ys))(hs:∀i ys H,i < n->Pv i ys H->∀(C:Nat->List V->Hp->Prop),(∀ys H,Pv (i+1) ys H->C (i+1) ys H)->Iy nl fr g tt te σ D C i ys (.int (lo+i)) H)(hd:∀ys H,Pv n ys H->Q (.ref D) H):
  Ev (Itr lo n) nl fr g tt te σ D H1 Q:=by
 refine⟨λi m ys H=>m=n - i/\i<=n/\Pv i ys H,⟨n,⋯,Nat.zero_le _,h0⟩,?_⟩;rintro i m ys H ⟨rfl,hi,p⟩;refine⟨hl i ys H p,?_⟩
 by_cases hlt:i < n
 ·refine .inr ⟨hlt,λx H' y=>?_⟩;obtain⟨e,y⟩:=y;subst e y;exact hs i ys _ hlt p (λj zs Hz=>∃m',m' < n - i/\m'=n - j/\j<=n/\Pv j zs Hz) λzs Hz z=>⟨n - (i+1),(),rfl,hlt,z⟩
 ·have e:i=n:=by lia
  subst e;exact .inl ⟨Nat.le_refl _,hd ys H p⟩
theorem dL {K:Frag}(Pv:Nat->List V->Hp->Prop)(h0:Pv 0 [] (upd H1 D (.lst [])))(hl:∀i ys H,Pv i ys H->H D=some (.lst ys))(hx:∀i ys H,i<=xs.length->Pv i ys H->SqL K H a xs)(hs:∀i ys x H,xs[i]?=some x->Pv i ys H->∀(C:Nat->List V->Hp->Prop),(∀ys H,Pv (i+1) ys H->C (i+1) ys H)->Iy nl fr g tt te σ D C i ys x H)(hd:∀ys H,Pv xs.length ys H->Q (.ref D) H):
  Ev (Itl K a) nl fr g tt te σ D H1 Q:=by
 refine⟨λi m ys H=>m=xs.length - i/\i<=xs.length/\Pv i ys H,⟨xs.length,⋯,Nat.zero_le _,h0⟩,?_⟩;rintro i m ys H ⟨rfl,hi,p⟩;refine⟨hl i ys H p,?_⟩;have q:=hx i ys H hi p
 by_cases hlt:i < xs.length
 ·refine .inr ⟨⟨xs,xs[i],q,by simp[hlt]⟩,λx H' y=>?_⟩;obtain⟨e,y⟩:=y;subst e;exact hs i ys x _ (y xs q) p (λj zs Hz=>∃m',m' < xs.length - i/\m'=xs.length - j/\j<=xs.length/\Pv j zs Hz) λzs Hz z=>⟨xs.length - (i+1),(),rfl,hlt,z⟩
 ·have e:i=xs.length:=by lia
  subst e;exact .inl ⟨⟨xs,q,Nat.le_refl _⟩,hd ys H p⟩
end
theorem dU:((σC 1 fr σ).set 0 (some x)).length=(σC 1 fr σ).length/\∀(i:Nat) v,(σC 1 fr σ)[i]?=some (some v)->((σC 1 fr σ).set 0 (some x))[i]?=some (some v):=by
 refine⟨⋯,λi v h=>?_⟩
 match i with
 |0=>unfold σC at h;simp at h
 |k+1=>rw[getElem?_set_ne ()];exact h
theorem dR {names:List (Str × NameKind)}{cl:List (Str × Addr)}(h:names.all (λy=>!(y.2 == .cell || y.2 == .free) || (cl.lookup y.1).isSome)=true)(x:Str)(hx:names.lookup x=some .cell\/names.lookup x=some .free):∃c,cl.lookup x=some c:=by
 have key:∀k,(k=NameKind.cell\/k=NameKind.free)->names.lookup x=some k->∃c,cl.lookup x=some c:=λk hk e=>by
  have m:=all_eq_true.mp h _ (PySem.mem_of_lookup e);have:(k == NameKind.cell || k == NameKind.free)=true:=by rcases hk with rfl | rfl<;>rfl
  simp only[this,Bool.not_true,Bool.false_or] at m;exact Option.isSome_iff_exists.mp m
 rcases hx with e | e
 ·exact key _ (.inl rfl) e
 ·exact key _ (.inr rfl) e
section
variable {X:Cx} {pins:List (Addr × Obj)} {σ:St} {H:Hp} {s:Shared} {h':Heap}
theorem Inv.turnedL {fp:List Addr}(I:Inv X pins σ H s)(k:∀b o,b∉fp->s.heap.get? b=some o->h'.get? b=some o)(hf:∀b∈fp,oQ X pins H b):Inv X pins σ H { s with heap:=h',toks:=t' }:=by
 have nit:∀b u,H b=some u->b∉fp:=λb u e z=>by rw[(hf b z).1] at e;cases e
 have nL:X.env.locals∉fp:=λz=>(hf _ z).2.1 rfl;refine I.step (g':=s.gens) (d':=s.drawn) (ch:=fp) (λb hb=>?_) (λb o _ _ hc e _=>k b o hc e) (λb o _ _ hc e _=>⟨o.slots,k b o hc e⟩) (λ_ _ _ _ n=>n)
  (λb o hc e=>⟨o,k b o hc e⟩) (λ_ _ e=>e) (λ_ _ _ e=>e) (λb ps e=>⟨#[],by rw[e];simp⟩) (λm hm=>?_) (λb u e=>?_) I.bare
 ·obtain⟨f0,f1,f2,f3,f4,f5⟩:=hf b hb;exact⟨f3,f1,f4,f5⟩
 ·obtain⟨o,es,ep,ho,r⟩:=hm;exact⟨o,es,ep,k _ o nL ho,r⟩
 ·refine(I.hok b u e).stay (λc v hc q=>k c v ?_ q) (λ_ q=>q) λ_ _ q=>q;rcases hc with z | z
  ·rw[z];exact nit b u e
  ·exact nit c _ z
end
def Itz (K : Frag)(a b : Addr) : It :=
  ⟨λi H => ∃ xs ys x y, SqL K H a xs /\ SqL K H b ys /\ xs[i]? = some x /\ ys[i]? = some y,
   λi H v H' => ∃ T x y, v = .ref T /\ H T = none /\ H' = upd H T (.tup [x, y]) /\ ∀ xs ys, SqL K H a xs -> SqL K H b ys -> xs[i]? = some x /\ ys[i]? = some y,
   λi H => ∃ xs ys, SqL K H a xs /\ SqL K H b ys /\ (xs.length <= i \/ ys.length <= i)⟩
def qk0 (z TI TO i1 i2 l1 l2:Addr)(i:Nat)(h:Heap):Prop:=
 ZipApart z TI TO i1 i2 l1 l2/\IsZip h z TI TO .none/\IsPair h TI (.ref i1) (.ref i2)/\(∃a b,IsPair h TO a b)/\h.IsListIter i1 l1 i/\h.IsListIter i2 l2 i
theorem Oy {K:Frag}(z TI TO i1 i2 l1 l2:Addr):
  Oq P w K (.Tuple elts kk tpos) (Itz K l1 l2) [z,TI,TO,i1,i2] z (qk0 z TI TO i1 i2 l1 l2) where
 mem:=by simp
 obj:=λi h st b hb=>by
  obtain⟨ap,hz,hi,⟨a,c,ho⟩,⟨o1,e1,c1,d1⟩,⟨o2,e2,c2,d2⟩⟩:=st;simp only[mem_cons,not_mem_nil,or_false] at hb;rcases hb with rfl | rfl | rfl | rfl | rfl
  ·exact⟨_,hz,λv q=>by cases q⟩
  ·exact⟨_,hi,λv q=>by cases q⟩
  ·exact⟨_,ho,λv q=>by cases q⟩
  ·exact⟨o1,e1,λv q=>by rw[d1] at q;cases q⟩
  ·exact⟨o2,e2,λv q=>by rw[d2] at q;cases q⟩
 keep:=λi h h' st k=>by
  obtain⟨ap,hz,hi,⟨a,c,ho⟩,⟨o1,e1,c1,d1⟩,⟨o2,e2,c2,d2⟩⟩:=st;exact⟨ap,k _ ⋯ _ hz,k _ ⋯ _ hi,⟨a,c,k _ ⋯ _ ho⟩,⟨o1,k _ ⋯ _ e1,c1,d1⟩,⟨o2,k _ ⋯ _ e2,c2,d2⟩⟩
 item:=by
  intro X hP hw hK hc i pins s σ H E I hf st hg;subst hP hw hK;obtain⟨ap,hz,hi,⟨a,c,ho⟩,t1,t2⟩:=st;obtain⟨xs,ys,x,y,hx,hy,ex,ey⟩:=hg;obtain⟨its1,rv1,p1,z1⟩:=I.list hx;obtain⟨its2,rv2,p2,z2⟩:=I.list hy;obtain⟨u1,hu1,ru1⟩:=rv1.get ex;obtain⟨u2,hu2,ru2⟩:=rv2.get ey;refine wpAny_pyNext_zip_item ap hz hi ho t1 t2 p1.isList p2.isList (x:=u1) (y:=u2) (by simpa using hu1) (by simpa using hu2) λh' g1 g2 g3 g4 g5 g6 kk'=>?_;have hn:H s.heap.objs.size=none:=I.hok.fresh (Nat.le_refl _);have lt:∀b∈[z,TI,TO,i1,i2],b < s.heap.objs.size:=λb hb=>by
   simp only[mem_cons,not_mem_nil,or_false] at hb;obtain⟨o1,e1,_⟩:=t1;obtain⟨o2,e2,_⟩:=t2;rcases hb with rfl | rfl | rfl | rfl | rfl
   ·exact Heap.lt_size hz
   ·exact Heap.lt_size hi
   ·exact Heap.lt_size ho
   ·exact Heap.lt_size e1
   ·exact Heap.lt_size e2
  have I1:Inv X pins σ (upd H s.heap.objs.size (.tup [x,y])) { s with heap:=s.heap.push { cls:=.type "tuple",data:=.seq #[u1,u2] } }:=
   I.laid (t':=s.toks) (λb o e=>Heap.get?_push_of_some _ e) (Nat.le_refl _) (show cL X.prog X.w _ _ _ (.tup [x,y]) from ⟨zl9 2,[u1,u2],.cons ru1 (.cons ru2 .nil),IsTup.new _ _⟩)
  have hf1:∀b∈[z,TI,TO,i1,i2],oQ X pins (upd H s.heap.objs.size (.tup [x,y])) b:=λb hb=>⟨by rw[aR (Nat.ne_of_lt (lt b hb))];exact(hf b hb).1,(hf b hb).2⟩
  have k1:∀b o,b∉[z,TI,TO,i1,i2]->(s.heap.push { cls:=.type "tuple",data:=.seq #[u1,u2] }).get? b=some o->h'.get? b=some o:=λb o nb e=>by
   simp only[mem_cons,not_mem_nil,or_false,not_or] at nb
   by_cases hb:b=s.heap.objs.size
   ·subst hb;rw[Heap.get?_push_size _ rfl] at e
    cases e
    exact g5
   ·have e0:s.heap.get? b=some o:=by rw[Heap.get?_push_ne _ _ _ hb] at e;exact e
    exact kk' b o nb.1 nb.2.2.1 nb.2.2.2.1 nb.2.2.2.2 e0
  have I2:Inv X pins σ (upd H s.heap.objs.size (.tup [x,y])) { s with heap:=h',toks:=s.toks }:=I1.turnedL (t':=s.toks) k1 hf1;refine⟨_,rfl,wpAny_letOwnedTupleGo_zip (s:={ s with heap:=h' }) g1 λh2 q1 q2=>?_⟩;have kz:∀b o,b≠z->h'.get? b=some o->h2.get? b=some o:=λb o nb e=>(q2.2 b nb).trans e;have I3:Inv X pins σ (upd H s.heap.objs.size (.tup [x,y])) { s with heap:=h2,toks:=s.toks }:=Inv.turnedL (s:={ s with heap:=h',toks:=s.toks }) (t':=s.toks) (fp:=[z]) I2 (λb o nb e=>kz b o (by simpa using nb) e) λb hb=>hf1 b (by simp at hb;simp[hb]);have hTI:h'.get? TI=some { cls:=.type "tuple",data:=.seq #[.ref i1,.ref i2] }:=kk' TI _ ap.TIz ap.TITO ap.TIi1 ap.TIi2 hi;obtain⟨o3,e3,c3,d3⟩:=g3;obtain⟨o4,e4,c4,d4⟩:=g4;refine⟨.ref s.heap.objs.size,_,I3,rfl,⟨_,x,y,rfl,hn,rfl,λxs' ys' h1 h2=>?_⟩,⟨ap,q1,kz _ _ ap.TIz hTI,⟨_,_,kz _ _ ap.TOz g2⟩,⟨o3,kz _ _ ap.i1z e3,c3,d3⟩,⟨o4,kz _ _ ap.i2z e4,c4,d4⟩⟩,λb hb=>(hf1 b hb).1⟩;rw[I.list_inj h1 hx,I.list_inj h2 hy];exact⟨ex,ey⟩
 done:=by
  intro X hP hw hK hc i pins s σ H E I hf st hg;subst hP hw hK;obtain⟨ap,hz,hi,⟨a,c,ho⟩,t1,t2⟩:=st;obtain⟨xs,ys,hx,hy,hor⟩:=hg;obtain⟨its1,rv1,p1,z1⟩:=I.list hx;obtain⟨its2,rv2,p2,z2⟩:=I.list hy;have l1':=rv1.length;have l2':=rv2.length;refine wpAny_pyNext_zip_end (I.ok.hd hc) ap hz hi ho t1 t2 p1.isList p2.isList (by rcases hor with h | h;left;simp;lia;right;simp;lia) λh' kk'=>⟨rfl,?_⟩
  refine I.turnedL (t':=s.toks) (λb o nb e=>?_) hf;simp only[mem_cons,not_mem_nil,or_false,not_or] at nb;exact kk' b o nb.1 nb.2.2.1 nb.2.2.2.1 nb.2.2.2.2 e
 self:=λA i s Q E st h=>by
  obtain⟨ap,hz,hi,⟨a,c,ho⟩,t1,t2⟩:=st;exact wpAny_pyIter_zip hz h
section
variable {X:Cx}
def qt6 (K:Frag)(ta:TA):TI:=λσ H R=>ta σ H λvs H1=>∃a b,vs=[.ref a,.ref b]/\(∃xs,SqL K H1 a xs)/\(∃ys,SqL K H1 b ys)/\R (Itz K a b) H1
theorem Tt (hg:Gl X "zip")(hm:X.mg "zip"=none)(hv:bootBuiltins "zip"=some (.type "zip"))(ha:PA X [e1,e2] ta)(hs:starEach [e1,e2] X.env=(false,eval e1 X.env) :: starEach [e2] X.env:=by rfl)(hpl:(backTo pos (starEach [e2] X.env)).any (·.1)=false:=by rfl):PI X (.Tuple elts kk tpos) (.Call (.Name "zip" p) [e1,e2] [] pos) (qt6 X.K ta):=by
 intro pins s σ H R I h;refine Call_ (jV I hg hm hv (PyProof.Rows.callWith_type1 (thn (ha pos pins s σ H _ I h) λus s1 ⟨vs,H1,I1,r1,q1⟩=>?_) hs hpl));obtain⟨a,b,rfl,⟨xs,hx⟩,⟨ys,hy⟩,q⟩:=q1;obtain⟨u,w',rfl,ra,rb⟩:=Kz r1
 cases (show u=Value.ref a from ra)
 cases (show w'=Value.ref b from rb)
 obtain⟨its1,rv1,p1,z1⟩:=I1.list hx;obtain⟨its2,rv2,p2,z2⟩:=I1.list hy;have la:a < s1.heap.objs.size:=by obtain⟨o,e,_⟩:=p1.isList;exact Heap.lt_size e
 have lb:b < s1.heap.objs.size:=by obtain⟨o,e,_⟩:=p2.isList;exact Heap.lt_size e
 refine call_zip_2 p1.isList p2.isList λh' g1 g2 g3 g4 g5 g6 kk'=>?_;refine wpAny_pyIter_zip g1 ?_;have ne:∀i j:Nat,i≠j->s1.heap.objs.size+i≠s1.heap.objs.size+j:=λi j n e=>n (Nat.add_left_cancel e);have nl:∀(c:Addr) (i:Nat),c < s1.heap.objs.size->c≠s1.heap.objs.size+i:=λc i l e=>absurd (Nat.lt_of_lt_of_le l (Nat.le_add_right _ i)) (by rw[<- e];exact Nat.lt_irrefl _);have n0:∀j:Nat,j≠0->s1.heap.objs.size+j≠s1.heap.objs.size:=λj n e=>n (Nat.add_left_cancel (e.trans (Nat.add_zero _).symm));refine⟨s1.heap.objs.size+4,[s1.heap.objs.size+4,s1.heap.objs.size+2,s1.heap.objs.size+3,s1.heap.objs.size,s1.heap.objs.size+1],_,Itz X.K a b,H1,rfl,I1.kept (t':=s1.toks) kk',Oy _ _ _ _ _ a b,⟨?_,g1,g2,⟨_,_,g3⟩,g4,g5⟩,λc hc=>?_,q⟩
 ·exact⟨ne 2 4 ∅,ne 3 4 ∅,(n0 4 ∅).symm,ne 1 4 ∅,ne 2 3 ∅,n0 2 ∅,ne 2 1 ∅,n0 3 ∅,ne 3 1 ∅,(n0 1 ∅).symm,
   nl a 4 la,nl a 3 la,Nat.ne_of_lt la,nl a 1 la,nl b 4 lb,nl b 3 lb,Nat.ne_of_lt lb,nl b 1 lb⟩
 ·have hle:s1.heap.objs.size<=c:=by
   simp only[mem_cons,not_mem_nil,or_false] at hc;rcases hc with rfl | rfl | rfl | rfl | rfl<;>first | exact Nat.le_add_right _ _ | exact Nat.le_refl _
  exact I1.fpOk hle (I1.hok.fresh hle)
theorem Dv {K:Frag}(Pv:Nat->List V->Hp->Prop)(h0:Pv 0 [] (upd H1 D (.lst [])))(hl:∀i zs H,Pv i zs H->H D=some (.lst zs))(hx:∀i zs H,i<=min xs.length ys.length->Pv i zs H->SqL K H a xs/\SqL K H b ys)(hs:∀i zs x y H T,xs[i]?=some x->ys[i]?=some y->Pv i zs H->H T=none->∀(C:Nat->List V->Hp->Prop),(∀zs H,Pv (i+1) zs H->C (i+1) zs H)->Iy nl fr g tt te σ D C i zs (.ref T) (upd H T (.tup [x,y])))(hd:∀zs H,Pv (min xs.length ys.length) zs H->Q (.ref D) H):
  Ev (Itz K a b) nl fr g tt te σ D H1 Q:=by
 refine⟨λi m zs H=>m=min xs.length ys.length - i/\i<=min xs.length ys.length/\Pv i zs H,⟨_,rfl,Nat.zero_le _,h0⟩,?_⟩;rintro i m zs H ⟨rfl,hi,p⟩;refine⟨hl i zs H p,?_⟩;obtain⟨qx,qy⟩:=hx i zs H hi p
 by_cases hlt:i < min xs.length ys.length
 ·have hx':i < xs.length:=by lia
  have hy':i < ys.length:=by lia
  refine .inr ⟨⟨xs,ys,xs[i],ys[i],qx,qy,by simp[hx'],by simp[hy']⟩,λv H' z=>?_⟩;obtain⟨T,x,y,rfl,hT,rfl,hh⟩:=z;obtain⟨ex,ey⟩:=hh xs ys qx qy;exact hs i zs x y H T ex ey p hT (λj zs Hz=>∃m',m' < min xs.length ys.length - i/\m'=min xs.length ys.length - j/\j<=min xs.length ys.length/\Pv j zs Hz) λzs Hz z=>⟨min xs.length ys.length - (i+1),(),rfl,hlt,z⟩
 ·have e:i=min xs.length ys.length:=by lia
  subst e;exact .inl ⟨⟨xs,ys,qx,qy,()⟩,hd zs H p⟩
end
def Tb (h0:Heap)(H:Hp)(h:Heap)(a:Addr)(v:Value):Prop:=
 v=.none\/∃T oT ts,v=.ref T/\T≠a/\h0.get? T=none/\H T=none/\h.get? T=some oT/\oT.data=.fields ts/\ts[3]?=some .none
structure Fl (h0:Heap) (H:Hp) (h:Heap) (a:Addr) (C:Value) (d:Option Addr):Prop where
 new:h0.get? a=none
 free:H a=none
 at_:∃oe vs v,h.get? a=some oe/\oe.cls=C/\oe.dict=d/\oe.data=.fields vs/\vs[1]?=some v/\Tb h0 H h a v
theorem Fl.older (F:Fl h0 H h a C d)(k:∀b,h0.get? b=none->h1.get? b=none):Fl h1 H h a C d:=by
 obtain⟨n,f,oe,vs,v,e1,e2,e3,e4,e5,t⟩:=F;refine⟨k _ n,f,oe,vs,v,e1,e2,e3,e4,e5,?_⟩;rcases t with t | ⟨T,oT,ts,t1,t2,t3,t4⟩
 ·exact .inl t
 ·exact .inr ⟨T,oT,ts,t1,t2,k _ t3,t4⟩
theorem wW (f:Array Value->Array Value)(o:Obj):(o.mapFields f).dict=o.dict:=by
 obtain⟨c,d,dt,sl⟩:=o
 cases dt<;>rfl
section
variable {M:Model} {A:Around} {E:Value->Shared->Prop} {s:Shared}
theorem yY {head:Value}(hfr:A.frames=some (env :: outer))(hl:s.heap.FunFrames base (env :: outer))(hf:env.frame=some L)(he:s.heap.get? e=some oe)(hd:oe.data=.fields vs)(hsz:1 < vs.size)(h:∀h' T oT ts,s.heap.objs.size<=T->(∀b o,b∉frs (env :: outer)->b≠e->s.heap.get? b=some o->h'.get? b=some o)->(∀b o,b∈frs (env :: outer)->s.heap.get? b=some o->∃sl,h'.get? b=some { o with slots:=sl })->
   h'.get? e=some (oe.mapFields (·.setIfInBounds 1 (.ref T)))->h'.get? T=some oT->oT.data=.fields ts->ts[3]?=some .none->T≠e->Q .unit { s with heap:=h' }):
  wpAny M A (do let a <- frameOf env;let pl <- entryPlaceOf L hadNext;let b <- EntryCells.newEntry head a .none (rawInt L) .none pl;setField (.ref e) 1 b) (λ_ s'=>wpAny M A (setFlight (.ref e) none) Q E s') E s:=by
 have hene:e∉frs (env :: outer):=λhm=>by
  obtain⟨_,o,ho,hnf⟩:=hl.mem hm;rw[he] at ho;injection ho with ho;subst ho;exact hnf vs hd
 refine wpAny_bind (wpAny_frameOf_fun hfr hl hf λh₁ hs₁=>?_);refine wpAny_bind (wpAny_entryPlaceOf λpl hpl=>?_);unfold EntryCells.newEntry newFields;refine wpAny_bind (wpAny_newObj_type ?_ (hpl.sizeOk5 _ _ _ _ _));have he₁:h₁.get? e=some oe:=(hs₁.2.1 e hene).trans he;have he₂:=Heap.get?_push_of_some (h:=h₁) { cls:=.type "traceback",dict:=none,data:=.fields ([head,.ref L,.none,rawInt L,.none]++(if pl.isEmpty then replicate 6 Value.none else pl)).toArray } he₁;refine wpAny_setField he₂ hd hsz ?_;have hTe:h₁.objs.size≠e:=Nat.ne_of_gt (Heap.lt_size he₁);have hd₃:=Obj.data_mapFields hd (·.setIfInBounds 1 (Value.ref h₁.objs.size));have he₃:=Heap.get?_update_self (Obj.mapFields (·.setIfInBounds 1 (Value.ref h₁.objs.size))) he₂ (Obj.isFreed_of_fields hd₃);have hT₃:=(Heap.get?_update_other (h₁.push { cls:=.type "traceback",dict:=none,data:=.fields ([head,.ref L,.none,rawInt L,.none]++(if pl.isEmpty then replicate 6 Value.none else pl)).toArray })
  (Obj.mapFields (·.setIfInBounds 1 (Value.ref h₁.objs.size))) (Ne.symm hTe)).trans (Heap.get?_push_size h₁ rfl)
 unfold setFlight;refine wpAny_bind (wpAny_field he₃ hd₃ (x:=.ref h₁.objs.size) (by simp[hsz]) ?_);rw[if_pos (show (Value.ref h₁.objs.size != Value.none)=true from by simp)];have keep:∀b o,b≠e->h₁.get? b=some o->
   (((h₁.push { cls:=.type "traceback",dict:=none,data:=.fields ([head,.ref L,.none,rawInt L,.none]++(if pl.isEmpty then replicate 6 Value.none else pl)).toArray }).update e (Obj.mapFields (·.setIfInBounds 1 (Value.ref h₁.objs.size)))).update h₁.objs.size
    (Obj.mapFields (·.setIfInBounds 3 ((none:Option Addr).elim Value.none λf=>rawInt f)))).get? b=some o:=λb o hbe hb=>by
  have hbT:h₁.objs.size≠b:=Nat.ne_of_gt (Heap.lt_size hb);rw[Heap.get?_update_other _ _ hbT,Heap.get?_update_other _ _ (Ne.symm hbe)];exact Heap.get?_push_of_some _ hb
 refine wpAny_setField hT₃ rfl (by simp only[size_toArray,List.length_append,length_cons,length_nil]<;>lia) (h _ h₁.objs.size _ _ (Nat.le_of_eq hs₁.1.symm) ?_ ?_ ?_
  (Heap.get?_update_self _ hT₃ (Obj.isFreed_of_fields (Obj.data_mapFields rfl _))) (Obj.data_mapFields rfl _) ?_ hTe)
 ·exact λb o hb hbe q=>keep b o hbe ((hs₁.2.1 b hb).trans q)
 ·intro b o hb q;obtain⟨sl,e1⟩:=hs₁.2.2 b o q;exact⟨sl,keep b _ (λz=>hene (z ▸ hb)) e1⟩
 ·rw[Heap.get?_update_other _ _ hTe];exact he₃
 ·first | (simp;done) | (rcases hpl with rfl | ⟨_,_,_,_,_,_,_,rfl⟩<;>simp)
theorem Th (hfr:A.frames=some (env :: outer))(hl:s.heap.FunFrames base (env :: outer))(hf:env.frame=some L)(F:Fl h0 H s.heap e C d)(hnew:∀b,s.heap.objs.size<=b->h0.get? b=none/\H b=none)(h:∀(h':Heap) (ch:List Addr),(∀b∈ch,h0.get? b=none/\H b=none/\∃o vs,s.heap.get? b=some o/\o.data=.fields vs)->(∀b o,b∉frs (env :: outer)->b∉ch->s.heap.get? b=some o->h'.get? b=some o)->
   (∀b o,b∈frs (env :: outer)->s.heap.get? b=some o->∃sl,h'.get? b=some { o with slots:=sl })->Fl h0 H h' e C d->Q .unit { s with heap:=h' }):
  wpAny M A (noteFrame (.ref e) env) (λ_ s'=>wpAny M A (setFlight (.ref e) none) Q E s') E s:=by
 obtain⟨n,f,oe,vs,v,e1,e2,e3,e4,e5,t⟩:=F;have hsz:1 < vs.size:=(Array.getElem?_eq_some_iff.mp e5).1;have fin:∀{h':Heap} {T:Addr} {oT:Obj} {ts:Array Value},s.heap.objs.size<=T->h'.get? e=some (oe.mapFields (·.setIfInBounds 1 (.ref T)))->h'.get? T=some oT->oT.data=.fields ts->ts[3]?=some .none->T≠e->Fl h0 H h' e C d:=by
  intro h' T oT ts z he hT hd h3 hTe;refine⟨n,f,_,_,.ref T,he,?_,?_,Obj.data_mapFields e4 _,by simp[hsz],.inr ⟨T,oT,ts,rfl,hTe,(hnew T z).1,(hnew T z).2,hT,hd,h3⟩⟩
  ·rw[Obj.cls_mapFields];exact e2
  ·rw[wW];exact e3
 rcases t with rfl | ⟨T,oT,ts,rfl,t2,t3,t4,t5,t6,t7⟩
 ·unfold noteFrame;simp only[hf];refine wpAny_bind (wpAny_field e1 e4 e5 ?_);rw[if_neg ∅];refine yY hfr hl hf e1 e4 hsz λh' T oT ts z k1 k2 he hT hd h3 hTe=>?_;refine h h' [e] (λb hb=>?_) (λb o h1 h2 q=>k1 b o h1 (λw=>h2 (by simp[w])) q) k2 (fin z he hT hd h3 hTe);have hb:b=e:=by simpa using hb
  subst hb;exact⟨n,f,_,_,e1,e4⟩
 ·unfold noteFrame;simp only[hf];refine wpAny_bind (wpAny_field e1 e4 e5 ?_);rw[if_pos (show (Value.ref T != Value.none)=true from by simp)];refine wpAny_bind (wpAny_field t5 t6 t7 ?_);rw[if_neg (show ¬((Value.none == rawInt L)=true) from by simp[rawInt])];refine wpAny_bind (wpAny_setField t5 t6 (Array.getElem?_eq_some_iff.mp t7).1 ?_);have other:∀b,b≠T->(s.heap.update T (Obj.mapFields (·.setIfInBounds 3 Value.none))).get? b=s.heap.get? b:=λb hb=>Heap.get?_update_other _ _ (Ne.symm hb);have noRecord:∀b o,s.heap.get? b=some o->(∀vs,o.data≠.fields vs)->b≠T:=λb o hb hnf q=>by
   rw[q,t5] at hb;injection hb with hb;subst hb;exact hnf ts t6
  have nofr:∀b,b∈frs (env :: outer)->b≠T:=λb hb=>by
   obtain⟨_,o,ho,hnf⟩:=hl.mem hb;exact noRecord b o ho hnf
  refine yY (s:={ s with heap:=s.heap.update T (Obj.mapFields (·.setIfInBounds 3 Value.none)) }) (base:=base) hfr (hl.of_keeps λb o hb hnf=>⟨o,(other b (noRecord b o hb hnf)).trans hb,rfl⟩) hf ((other e (Ne.symm t2)).trans e1) e4 hsz
   λh' T' oT' ts' z k1 k2 he hT hd h3 hTe=>?_
  have z':s.heap.objs.size<=T':=by
   have:=Heap.size_after_update s.heap T (Obj.mapFields (·.setIfInBounds 3 Value.none));exact Nat.le_trans (Nat.le_of_eq this.symm) z
  refine h h' [e,T] (λb hb=>?_) (λb o h1 h2 q=>?_) (λb o hb q=>?_) (fin z' he hT hd h3 hTe)
  ·rcases mem_cons.mp hb with hb | hb
   ·subst hb;exact⟨n,f,_,_,e1,e4⟩
   ·have hb:b=T:=by simpa using hb
    subst hb;exact⟨t3,t4,_,_,t5,t6⟩
  ·exact k1 b o h1 (λw=>h2 (by simp[w])) ((other b λw=>h2 (by simp[w])).trans q)
  ·exact k2 b o hb ((other b (nofr b hb)).trans q)
end
section
variable {X:Cx} {pins:List (Addr × Obj)} {σ:List (Option V)} {H H':Hp} {s:Shared} {h':Heap}
theorem cL.ex (x:cL P w H h a o):∃u,h.get? a=some u:=by
 cases o with
 |lst xs=>obtain⟨_,_,_,_,e⟩:=x;exact⟨_,e⟩
 |tup xs=>obtain⟨_,_,_,o,e,_⟩:=x;exact⟨_,e⟩
 |dK kvs=>obtain⟨_,_,_,_,o,_,_,e,_⟩:=x;exact⟨_,e⟩
 |dT kvs=>obtain⟨_,_,_,_,o,_,_,e,_⟩:=x;exact⟨_,e⟩
 |set S n=>obtain⟨o,_,_,_,e,_⟩:=x;exact⟨_,e⟩
 |ins C dx fs=>obtain⟨_,_,_,e,_⟩:=x;exact⟨_,e⟩
 |own y=>obtain⟨_,e⟩:=x;exact⟨_,e⟩
 |xd fs=>obtain⟨_,⟨_,_,_,e,_⟩,_⟩:=x;exact⟨_,e⟩
 |rng lo hi=>obtain⟨_,_,_,e⟩:=x;exact⟨_,e⟩
 |frz ob u=>obtain⟨e,_⟩:=x;exact⟨_,e⟩
 |tbl ps=>exact⟨_,(show h.get? a=some _ from x)⟩
 |met f y=>exact⟨_,(show h.get? a=some _ from x)⟩
 |ext φ=>obtain⟨_,⟨_,e⟩,_⟩:=x;exact⟨_,e⟩
theorem HOk.none_of (x:HOk P w H h)(e:h.get? a=none):H a=none:=by
 cases q:H a with
 |none=>rfl
 |some o=>
  obtain⟨u,hu⟩:=(x a o q).ex;rw[e] at hu;cases hu
theorem Inv.stepN {ch:List Addr}(I:Inv X pins σ H s)(hch:∀b∈ch,X.s₀.heap.get? b=none/\b≠X.env.locals/\(∀x c,X.env.cells.lookup x=some c->c≠b)/\∀p∈X.pn++pins,p.1≠b)(keep:∀b o,b≠X.env.locals->b∉X.fs->b∉ch->s.heap.get? b=some o->H b=none->h'.get? b=some o)(slot:∀b o,b≠X.env.locals->b∈X.fs->b∉ch->s.heap.get? b=some o->H b=none->∃sl,h'.get? b=some { o with slots:=sl })(there:∀b o,b∉ch->s.heap.get? b=some o->∃o',h'.get? b=some o')(ns:∀m,s.heap.Ns X.env.locals m->h'.Ns X.env.locals m)(hok:HOk X.prog X.w H h')(hg:AllBare g'):
  Inv X pins σ H { s with heap:=h',gens:=g',drawn:=d',toks:=t' }:=by
 have neL:∀b o,X.s₀.heap.get? b=some o->b≠X.env.locals:=λb o e=>Nat.ne_of_lt (Nat.lt_of_lt_of_le (Heap.lt_size e) I.ok.above);have neC:∀b o,X.s₀.heap.get? b=some o->b∉ch:=λb o e hb=>by rw[(hch b hb).1] at e;cases e
 have cellK:∀x c,X.env.cells.lookup x=some c->∀v,s.heap.IsCell c v->h'.IsCell c v:=λx c e v ⟨o,ho,hd⟩=>by
  have nch:c∉ch:=λz=>(hch c z).2.2.1 x c e rfl
  by_cases hc:c∈X.fs
  ·obtain⟨sl,q⟩:=slot c o (I.cne x c e) hc nch ho (I.freeC x c e);exact⟨_,q,hd⟩
  ·exact⟨o,keep c o (I.cne x c e) hc nch ho (I.freeC x c e),hd⟩
 refine⟨I.ok,I.os,hg,⟨λb o e n hb hx=>?_,λb o e n hb hx=>?_,λb o e n hx=>?_,λb o e hx=>?_,λb xs e=>I.base.tups b xs e,λb o xs e=>I.base.frzs b o xs e,λb ps e=>I.base.tbls b ps e⟩,?_,λx c e=>?_,I.free,I.freeC,λp hp=>?_,hok,I.len⟩
 ·exact keep b o (neL b o e) hb (neC b o e) (I.base.keep b o e n hb hx) (I.base.free b o e n hx)
 ·obtain⟨sl,e1⟩:=I.base.slot b o e n hb hx;obtain⟨sl',e2⟩:=slot b _ (neL b o e) hb (neC b o e) e1 (I.base.free b o e n hx);exact⟨sl',e2⟩
 ·exact I.base.free b o e n hx
 ·obtain⟨o',e1⟩:=I.base.there b o e hx;exact there b o' (neC b o e) e1
 ·obtain⟨m,hn,hl⟩:=I.loc;refine⟨m,ns m hn,λi x v e1 e2 e3=>?_⟩;obtain⟨u,r,l⟩:=hl i x v e1 e2 e3;refine⟨u,r,?_⟩;rcases l with l | ⟨k,c,e,z⟩
  ·exact .inl l
  ·exact .inr ⟨k,c,e,cellK x c e _ z⟩
 ·obtain⟨v,z⟩:=I.cell x c e;exact⟨v,cellK x c e v z⟩
 ·obtain⟨e,n,ne,nf,d⟩:=I.pin p hp;have nch:p.1∉ch:=λz=>(hch p.1 z).2.2.2 p hp rfl;exact⟨keep p.1 p.2 ne nf nch e n,n,ne,nf,d⟩
structure Frm (X:Cx):Prop where
 ex:X.ex=[]
 st:X.stack=X.env :: X.outer
 fr:X.env.frame=some X.env.locals
def tZ (X:Cx)(pins:List (Addr × Obj))(σ:List (Option V))(H:Hp)(s:Shared)(a:Addr)(C:Value)(d:Option Addr):Prop:=
 Inv X pins σ H s/\∃h0:Heap,(∀p∈X.pn++pins,h0.get? p.1≠none)/\(∀b o,X.s₀.heap.get? b=some o->∃o',h0.get? b=some o')/\(∀b o,h0.get? b=some o->∃o',s.heap.get? b=some o')/\Fl h0 H s.heap a C d
theorem rP {h1 h2:Heap}(k:∀b o,h1.get? b=some o->∃o',h2.get? b=some o')(b:Addr)(e:h2.get? b=none):h1.get? b=none:=by
 cases q:h1.get? b with
 |none=>rfl
 |some o=>obtain⟨o',z⟩:=k b o q;rw[e] at z;cases z
theorem Ku {h:Heap}(e:h.objs.size<=b):h.get? b=none:=Heap.get?_none_of_le e
theorem sU {h:Heap}(e:h.get? b=some o)(hd:o.data=.fields vs)(e':h.get? c=some o')(hd':∀vs,o'.data≠.fields vs):b≠c:=by
 intro z;subst z;rw[e] at e';cases e';exact hd' vs hd
theorem Ck {a:Addr}{C:Value}{d:Option Addr}{h0:Heap}(I:Inv X pins σ H s)(hp:∀p∈X.pn++pins,h0.get? p.1≠none)(hs:∀b o,X.s₀.heap.get? b=some o->∃o',h0.get? b=some o'){b:Addr}(hb:h0.get? b=none/\H b=none/\∃o vs,s.heap.get? b=some o/\o.data=.fields vs) :
  X.s₀.heap.get? b=none/\b≠X.env.locals/\(∀x c,X.env.cells.lookup x=some c->c≠b)/\∀p∈X.pn++pins,p.1≠b:=by
 obtain⟨h1,h2,o,vs,h3,h4⟩:=hb;refine⟨rP hs b h1,?_,λx c e=>?_,λp hq z=>hp p hq (by rw[z];exact h1)⟩
 ·obtain⟨m,⟨o',es,ep,ho',hd',_⟩,_⟩:=I.loc;exact sU h3 h4 ho' λvs z=>by rw[hd'] at z;cases z
 ·obtain⟨v,o',ho',hd'⟩:=I.cell x c e;exact Ne.symm (sU h3 h4 ho' λvs z=>by rw[hd'] at z;cases z)
theorem Jk (hA:A'.frames=some X.stack)(fm:Frm X)(L:tZ X pins σ H s a C d)(h:∀s',tZ X pins σ H s' a C d->Q .unit s'):
  wpAny (model X.prog X.w) A' (noteFrame (.ref a) X.env) (λ_ s2=>wpAny (model X.prog X.w) A' (setFlight (.ref a) none) Q E s2) E s:=by
 obtain⟨I,h0,hp,hs,ht,F⟩:=L;have hstk:=I.stack;have hfree:=I.stkFree;rw[fm.st] at hA hstk hfree;have hfrs:frs (X.env :: X.outer)=X.env.locals :: X.fs:=by unfold frs;rw[filterMap_cons,fm.fr];rfl
 refine Th (base:=X.base) hA hstk fm.fr F (λb hb=>⟨rP ht b (Ku hb),I.hok.fresh hb⟩) λh' ch c1 c2 c3 F'=>?_;have tr:∀c u,H c=some u->∀v,s.heap.get? c=some v->h'.get? c=some v:=λc u e v q=>
  c2 c v (λz=>by rw[hfree c z] at e;cases e) (λz=>by rw[(c1 c z).2.1] at e;cases e) q
 have th:∀b o,b∉ch->s.heap.get? b=some o->∃o',h'.get? b=some o':=λb o hb q=>by
  by_cases hf:b∈frs (X.env :: X.outer)
  ·obtain⟨sl,e⟩:=c3 b o hf q;exact⟨_,e⟩
  ·exact⟨o,c2 b o hf hb q⟩
 have J:Inv X pins σ H { s with heap:=h',gens:=s.gens,drawn:=s.drawn,toks:=s.toks }:=by
  refine I.stepN (ch:=ch) (λb hb=>Ck (a:=a) (C:=C) (d:=d) I hp hs (c1 b hb)) (λb o h1 h2 h3 e _=>c2 b o (by rw[hfrs];intro z;rcases mem_cons.mp z with z | z;exact h1 z;exact h2 z) h3 e)
   (λb o _ h2 _ e _=>c3 b o (by rw[hfrs];exact mem_cons_of_mem _ h2) e) th (λm hm=>?_) (λb u e=>?_) I.bare
  ·obtain⟨o,es,ep,ho,r⟩:=hm;obtain⟨sl,e⟩:=c3 _ o (by rw[hfrs];exact mem_cons_self) ho;exact⟨_,es,ep,e,r⟩
  ·refine(I.hok b u e).stay (λc v hc q=>?_) (λ_ q=>q) λ_ _ q=>q;rcases hc with rfl | hc
   ·exact tr c u e v q
   ·exact tr c _ hc v q
 refine h _ ⟨J,h0,hp,hs,λb o e=>?_,F'⟩;obtain⟨o',e'⟩:=ht b o e;exact th b o' (λz=>by rw[(c1 b z).1] at e;cases e) e'
theorem Ul (L:tZ X pins σ H s a C d)(h:∀s',tZ X pins σ H s' a C d->Q .unit s'):wpAny (model X.prog X.w) A' (setFlight (.ref a) none) Q E s:=by
 have L':=L;obtain⟨I,h0,hp,hs,ht,F⟩:=L';obtain⟨n,f,oe,vs,v,e1,e2,e3,e4,e5,t⟩:=F;unfold setFlight;refine wpAny_bind (wpAny_field e1 e4 e5 ?_);rcases t with rfl | ⟨T,oT,ts,rfl,t2,t3,t4,t5,t6,t7⟩
 ·rw[if_neg ∅];exact wpAny_pure (h s L)
 ·rw[if_pos (show (Value.ref T != Value.none)=true from by simp)];have hsz3:3 < ts.size:=(Array.getElem?_eq_some_iff.mp t7).1;have other:∀b,b≠T->(s.heap.update T (Obj.mapFields (·.setIfInBounds 3 ((none:Option Addr).elim Value.none λf=>rawInt f)))).get? b=s.heap.get? b:=λb hb=>Heap.get?_update_other _ _ (Ne.symm hb);have hT':=Heap.get?_update_self (Obj.mapFields (·.setIfInBounds 3 ((none:Option Addr).elim Value.none λf=>rawInt f))) t5 (Obj.isFreed_of_fields (Obj.data_mapFields t6 _));refine wpAny_setField t5 t6 hsz3 ?_;have c1:∀b∈[T],h0.get? b=none/\H b=none/\∃o vs,s.heap.get? b=some o/\o.data=.fields vs:=λb hb=>by
   have hb:b=T:=by simpa using hb
   subst hb;exact⟨t3,t4,_,_,t5,t6⟩
  have nT:∀b,b∉[T]->b≠T:=λb hb z=>hb (by simp[z]);have J:Inv X pins σ H { s with heap:=(s.heap.update T (Obj.mapFields (·.setIfInBounds 3 ((none:Option Addr).elim Value.none λf=>rawInt f)))),gens:=s.gens,drawn:=s.drawn,toks:=s.toks }:=by
   refine I.stepN (ch:=[T]) (λb hb=>Ck (a:=a) (C:=C) (d:=d) I hp hs (c1 b hb)) (λb o _ _ h3 e _=>(other b (nT b h3)).trans e) (λb o _ _ h3 e _=>⟨o.slots,(other b (nT b h3)).trans e⟩)
    (λb o h3 e=>⟨o,(other b (nT b h3)).trans e⟩) (λm hm=>?_) (λb u e=>?_) I.bare
   ·obtain⟨o,es,ep,ho,hd,r⟩:=hm;exact⟨o,es,ep,(other _ (Ne.symm (sU t5 t6 ho λvs z=>by rw[hd] at z;cases z))).trans ho,hd,r⟩
   ·refine(I.hok b u e).stay (λc v hc q=>(other c ?_).trans q) (λ_ q=>q) λ_ _ q=>q;rintro rfl;rcases hc with rfl | hc
    ·rw[t4] at e;cases e
    ·rw[t4] at hc;cases hc
  refine h _ ⟨J,h0,hp,hs,λb o e=>?_,⟨n,f,oe,vs,.ref T,(other a (Ne.symm t2)).trans e1,e2,e3,e4,e5,.inr ⟨T,_,_,rfl,t2,t3,t4,hT',Obj.data_mapFields t6 _,by simp[hsz3]⟩⟩⟩;obtain⟨o',e'⟩:=ht b o e;exact⟨o',(other b (λz=>by rw[z,t3] at e;cases e)).trans e'⟩
end
def CX1 (P:Program)(w:World):CXT:=λouter H s E e s'=>∃a C d H',e=.ref a/\s'.os=s.os/\AllBare s'.gens/\Un (frs outer) [] H H' s.heap s'.heap/\HOk P w H' s'.heap/\Fl s.heap H' s'.heap a C d/\E C d H'
def Vb (X:Cx)(E:XK):Prop:=∀(pins:List (Addr × Obj)) (σ:St) (H:Hp) (s:Shared) (a:Addr) (C:Value) (d:Option Addr),tZ X pins σ H s a C d->E C d H->X.xe (.ref a) s
section
variable {X:Cx} {pins:List (Addr × Obj)} {σ:List (Option V)} {H:Hp} {s s':Shared} {E:XK} {e:Value}
theorem qW (fm:Frm X)(I:Inv X pins σ H s)(hcx:CX1 X.prog X.w X.stack H s E e s'):∃a C d H',e=.ref a/\tZ X pins σ H' s' a C d/\E C d H':=by
 obtain⟨a,C,d,H',rfl,os,bare,un,hok,F,q⟩:=hcx;refine⟨a,C,d,H',rfl,⟨I.call' (ch:=[]) os un hok bare (λb z=>absurd z ⋯),s.heap,λp hp z=>?_,λb o e=>I.base.there b o e (by rw[fm.ex];simp),λb o e=>un.there b o e ⋯,F⟩,q⟩;rw[(I.pin p hp).1] at z;cases z
theorem dA (fm:Frm X)(xo:Vb X E):kX (CX1 X.prog X.w) X E:=λpins σ H s e s' I hcx=>by
 obtain⟨a,C,d,H',rfl,L,q⟩:=qW fm I hcx;exact xo pins σ H' s' a C d L q
end
theorem cK {K:Frag}:
  Frm (yT CX P w K mg base N qual scope f cd A outer s H E):=⟨rfl,rfl,rfl⟩
theorem dC {K:Frag}:
  Vb (yT (CX1 P w) P w K mg base N qual scope f cd A outer s H E) E:=by
 intro pins σ H' s' a C d L q;show wpAny (model P w) (A.deeper (envOfC qual scope s.heap.objs.size f cd)) (leaving (envOfC qual scope s.heap.objs.size f cd) (.ref a)) (λ_ s''=>CX1 P w outer H s E (.ref a) s'') (λe' s''=>CX1 P w outer H s E e' s'') s';unfold leaving;refine wpAny_bind (Jk (X:=yT (CX1 P w) P w K mg base N qual scope f cd A outer s H E) L.1.ok.frames cK L λs'' L''=>?_);obtain⟨J,h0,hp,hs0,hth,F⟩:=L'';exact⟨a,C,d,H',rfl,J.os,J.bare,J.base,J.hok,F.older λb z=>rP hs0 b z,q⟩
abbrev pF:List Value:=[.type "ValueError",.type "Exception",.type "BaseException",.type "object"]
def My (K:Frag)(C:Addr):Prop:=W.excIn K C pF "ValueError.__new__"=true
theorem Yy {K:Frag}(X:K.In h)(q:W.excIn K C bmB newId=true):
  ∃bm N nm qn bs hdct sn sub ab col dd k0 k1 k2 k3 k5 mN,h.get? C=some (excClassObj nm qn C N bs bm hdct sn sub ab col dd k0 k1 k2 k3 k5 newId)/\h.Ns N mN/\mN "__init__"=none/\OwnTail h bmB bm:=by
 unfold W.excIn at q;split at q
 ·rename_i dd cd sl ho
  split at q
  ·rename_i C' bm k0 k1 k2 k3 n k5 hm hs
   simp only[Bool.and_eq_true,beq_iff_eq,Bool.not_eq_true'] at q;obtain⟨⟨⟨⟨⟨rfl,rfl⟩,hdel⟩,ht⟩,hok⟩,hni⟩:=q;obtain⟨nm,bs,mro,ns,qn,hd,sn,sub,ab,col,del⟩:=cd;dsimp only at hm hdel hok hni;subst hm hdel;have hsl:sl=#[k0,k1,k2,k3,some (.builtin n),k5]:=by
    obtain⟨l⟩:=sl;simp only at hs;rw[hs]
   subst hsl;exact⟨bm,ns,nm,qn,bs,hd,sn,sub,ab,col,dd,k0,k1,k2,k3,k5,_,X _ _ ho,.of_isNs (W.isNs_of_in X hok),W.nsMap_none_of_in X hok hni,W.tail_of_in X ht⟩
  ·cases q
 ·cases q
section
variable {X:Cx} {pins:List (Addr × Obj)} {σ:List (Option V)} {H:Hp} {s:Shared}
def qd0 (C:Addr)(E:XK)(ta:TA):TS:=λ_ σ H=>ta σ H λvs H1=>vs.length<=sizeLine/\E (.ref C) none H1
theorem vA (fm:Frm X)(xo:Vb X E)(hc:X.calm=true)(hg:Gl X x)(hm:X.mg x=some (.ref C))(q:My X.K C)(ha:PA X (e₀ :: es) ta)(hdb:(x == ("__debug__":Str))=false:=by decide)(he:starEach (e₀ :: es) X.env=(false,eval e₀ X.env) :: starEach es X.env:=by rfl)(hpl:(backTo cpos (starEach es X.env)).any (·.1)=false:=by rfl):
  PS X (.Raise (some (.Call (.Name x np) (e₀ :: es) [] cpos)) none pos) (qd0 C E ta):=by
 intro pins s σ H D I h;obtain⟨tl,N,nm,qn,bs,hdct,sn,sub,ab,col,dd,k0,k1,k2,k3,k5,mN,hC,hN,hni,T⟩:=Yy I.mod.kin q;have FB:=PySem.F.excBase_ValueError;refine wpAny_Raise_call_subU (C:=C) (nm:=nm) (q:=qn) (N:=N) (bs:=bs) (bm:=tl) (hdct:=hdct) (sn:=sn) (sub:=sub) (ab:=ab) (col:=col) (dd:=dd) (k0:=k0) (k1:=k1) (k2:=k2) (k3:=k3) (k5:=k5)
  FB ∅ FB (mN:=mN) (T.hasType FB.hasBase) (I.ok.hd hc) (by rw[he];show (false || (backTo cpos (starEach es X.env)).any (·.1))=false;rw[hpl];rfl) hni (iO I hg hm ⟨rfl,?_⟩ hdb)
 have ha':=ha cpos pins s σ H _ I h;rw[he] at ha' ⊢;refine Calls.evalArgs_plain (wpAny_mono ha' (λvs s2 h2=>?_) λ_ _ y=>y);obtain⟨xs,H1,I1,r,hz,q1⟩:=h2;refine⟨rfl,by rw[<- r.length];exact hz,I1.bk _ _ hC,hN.keeps I1.bk,T.keeps I1.bk,λh' e hx=>?_⟩;obtain⟨t,he1,htn,ht⟩:=hx.there;refine xo pins σ H1 _ e (.ref C) none ⟨I1.kept (t':=s2.toks) hx.keeps,s2.heap,λp hp z=>?_,λb o e=>I1.base.there b o e (by rw[fm.ex];simp),λb o z=>⟨o,hx.keeps b o z⟩,⟨hx.new,I1.hok.none_of hx.new,_,_,.none,he1,rfl,rfl,rfl,rfl,.inl rfl⟩⟩ q1;rw[(I1.pin p hp).1] at z;cases z
end
abbrev TEX:=St->Hp->VK->XK->Prop
abbrev TSX:=kL->(St->XK)->St->Hp->Prop
def XP (X:Cx)(pins:List (Addr × Obj))(E:St->XK)(e:Value)(s':Shared):Prop:=∃a C d σ' H',e=.ref a/\tZ X pins σ' H' s' a C d/\E σ' C d H'
def PX (X:Cx)(e:Expr)(t:TEX):Prop:=
 ∀(pins:List (Addr × Obj)) (s:Shared) (σ:St) (H:Hp) (Q:VK) (E:XK),Inv X pins σ H s->t σ H Q E->wpAny (model X.prog X.w) X.A (eval e X.env) (EP X pins σ Q) (XP X pins λσ' C d H'=>σ'=σ/\E C d H') s
def PSX (X:Cx)(st:Stmt)(t:TSX):Prop:=
 ∀(pins:List (Addr × Obj)) (s:Shared) (σ:St) (H:Hp) (D:kL) (E:St->XK),Inv X pins σ H s->t D E σ H->wpAny (model X.prog X.w) X.A (exec st X.env) (SP X pins D) (XP X pins E) s
def qm8 (X:Cx)(st:List Stmt)(t:TSX):Prop:=
 ∀(pins:List (Addr × Obj)) (s:Shared) (σ:St) (H:Hp) (D:kL) (E:St->XK),Inv X pins σ H s->t D E σ H->wpAny (model X.prog X.w) X.A (execs st X.env) (SP X pins D) (XP X pins E) s
theorem XP.at (h:XP X pins (λσ' C d H'=>σ'=σ/\E σ C d H') e s'):XP X pins E e s':=by
 obtain⟨a,C,d,σ',H',rfl,L,rfl,q⟩:=h;exact⟨a,C,d,σ',H',rfl,L,q⟩
section
variable {X:Cx} {k:Nat} {f C:Addr} {fd:FuncData} {ps:List Str} {sp:Sp} {dvs:List V} {ds:List Value} {x m:Str} {p pos apos:Pos} {e o:Expr} {es:List Expr} {ta:TE} {t:TA}
def qj3 (sp:Sp)(dvs:List V)(t:TA):TEX:=λσ H Q E=>t σ H λvs H1=>sp (vs++dvs) H1 Q E
theorem qi7 (F:aK X.prog X.w X.K X.mg X.base (CX1 X.prog X.w) k f fd ps sp)(fm:Frm X)(hr:gM k X.A)(hb:aL X.K fd ps ds)(hd:cA dvs ds)(I:Inv X pins σ H s)(r:cA vs us)(h:sp (vs++dvs) H Q E):wpAny (model X.prog X.w) X.A (call (.ref f) us) (EP X pins σ Q) (XP X pins λσ' C d H'=>σ'=σ/\E C d H') s:=by
 have r2:cA (vs++dvs) (us++ds):=r.append hd;have hl:(us++ds).length=ps.length:=by rw[<- r2.length];exact F.len _ _ _ _ h
 refine wpAny_call (codeAny_mono (F.run X.A X.stack s H ⟨us,[]⟩ (us++ds) (vs++dvs) Q E hr I.env0 (hb s us I.kIn hl) r2 h) λr s' hq=>?_)
 cases r with
 |error e=>
  obtain⟨a,C,d,H',rfl,L,q⟩:=qW fm I hq;exact⟨a,C,d,σ,H',rfl,L,rfl,q⟩
 |ok fl=>
  cases fl with
  |ret u=>exact I.after hq
  |next=>exact False.elim hq
  |brk=>exact False.elim hq
  |cont=>exact False.elim hq
theorem Uv (F:aK X.prog X.w X.K X.mg X.base (CX1 X.prog X.w) k f fd ps sp)(fm:Frm X)(hr:gM k X.A)(hg:Gl X x)(hm:X.mg x=some (.ref f))(hk:W.keepIn X.K (.ref f)=true)(hb:aL X.K fd ps ds)(hd:cA dvs ds)(ha:PA X.nox (e :: es) t)(hdb:(x == ("__debug__":Str))=false:=by decide)(he:starEach (e :: es) X.env=(false,eval e X.env) :: starEach es X.env:=by rfl)(hpl:(backTo pos (starEach es X.env)).any (·.1)=false:=by rfl) :
  PX X (.Call (.Name x p) (e :: es) [] pos) (qj3 sp dvs t):=by
 intro pins s σ H Q E I h;refine wpAny_Call_Name_kw (iO I hg hm ?_ hdb);refine W.callWith_K (h₀:=X.base) I.ok.mod.kin hk (wpAny_mono (ha pos pins s σ H _ (I.wish _) h) (λus s1 h1=>?_) λ_ _ z=>False.elim z) he hpl;obtain⟨vs,H1,I1,r,q⟩:=h1;exact⟨I1.kIn,qi7 F fm hr hb hd I1.unwish r q⟩
def qm7 (te:TEX):TSX:=λD E σ H=>te σ H (λ_ H1=>D.nx σ H1) (E σ)
theorem Ot (he:PX X e te)(hs:swapsWith e none pos.line X.env=pure false:=by rfl):PSX X (.Expr e pos) (qm7 te):=by
 intro pins s σ H D E I h;exact wpAny_Expr_any (wpAny_mono (he pins s σ H _ _ I h) (λv s1 ⟨x,H1,I1,r1,q1⟩=>⟨σ,H1,I1,q1⟩) λ_ _ z=>XP.at z) I.quiet hs
theorem Qs {st:Stmt}{t:TSX}(h1:PSX X st t):qm8 X [st] t:=by
 intro pins s σ H D E I h;refine wpAny_execs_cons (wpAny_mono (h1 pins s σ H D E I h) (λf s1 q=>?_) λ_ _ z=>z)
 cases f with
 |next=>exact wpAny_execs_nil q
 |ret v=>exact q
 |brk=>exact q
 |cont=>exact q
end
abbrev Cx.sup (X:Cx)(a:Addr):Cx:={ X with A:=X.A.mark (some (.ref a)),calm:=false,xe:=λ_ _=>False }
section
variable {X:Cx} {pins:List (Addr × Obj)} {σ:List (Option V)} {H:Hp} {s:Shared} {a:Addr}
theorem Cx.Ok.sup (ok:X.Ok)(a:Addr):(X.sup a).Ok:=
 ⟨ok.mod,ok.kind,ok.glob,ok.blt,ok.above,ok.inj,ok.has,ok.cab,λz=>Bool.noConfusion z,ok.frames,ok.stk,ok.exf,ok.bs,ok.bsz,ok.noex,ok.exfs,ok.funs,ok.frf⟩
theorem Inv.sup (I:Inv X pins σ H s)(a:Addr):Inv (X.sup a) pins σ H s:=⟨I.ok.sup a,I.os,I.bare,I.base,I.loc,I.cell,I.free,I.freeC,I.pin,I.hok,I.len⟩
theorem Inv.unsup (ok:X.Ok)(I:Inv (X.sup a) pins σ H s):Inv X pins σ H s:=⟨ok,I.os,I.bare,I.base,I.loc,I.cell,I.free,I.freeC,I.pin,I.hok,I.len⟩
def iK (a:Addr)(C:Value)(d:Option Addr):HO:=.ext λh=>∃o vs,h.get? a=some o/\o.cls=C/\o.dict=d/\o.data=.fields vs
theorem tZ.track (L:tZ X pins σ H s a C d)(fm:Frm X):Inv X pins σ (upd H a (iK a C d)) s:=by
 obtain⟨I,h0,hp,hs,ht,F⟩:=L;obtain⟨n,f,oe,vs,v,e1,e2,e3,e4,e5,t⟩:=F;obtain⟨c1,c2,c3,c4⟩:=Ck (a:=a) (C:=C) (d:=d) I hp hs (b:=a) ⟨n,f,_,_,e1,e4⟩;have tr:∀b u,H b=some u->upd H a (iK a C d) b=some u:=λb u e=>by rw[aR (bK e f)];exact e
 refine⟨I.ok,I.os,I.bare,⟨I.base.keep,I.base.slot,λb o e n' hx=>?_,I.base.there,λb xs e=>tr _ _ (I.base.tups b xs e),λb o u e=>tr _ _ (I.base.frzs b o u e),λb ps e=>?_⟩,I.loc,I.cell,?_,λx c e=>?_,λp hp'=>?_,λb o e=>?_,I.len⟩
 ·have:b≠a:=λz=>by rw[z,c1] at e;cases e
  rw[aR this];exact I.base.free b o e n' hx
 ·obtain⟨more,z⟩:=I.base.tbls b ps e;exact⟨more,tr _ _ z⟩
 ·rw[aR (Ne.symm c2)];exact I.free
 ·rw[aR (c3 x c e)];exact I.freeC x c e
 ·obtain⟨z1,z2,z3⟩:=I.pin p hp';exact⟨z1,by rw[aR (c4 p hp')];exact z2,z3⟩
 ·by_cases hb:b=a
  ·subst hb;rw[aB] at e;cases e;refine⟨⟨oe,vs,e1,e2,e3,e4⟩,⟨oe,e1⟩,λh1 h2 p k=>?_⟩;obtain⟨o,vs',z1,z2⟩:=p;exact⟨o,vs',k o z1,z2⟩
  ·rw[aR hb] at e;exact(I.hok b o e).stay (λ_ _ _ q=>q) (λc q=>tr _ _ q) λc xs q=>tr _ _ q
theorem oA (I:Inv X pins σ H s)(hN:X.N.Nodup)(hj:X.N[j]?=some n)(hl:X.env.scope.names.lookup n=some .local)(h:∀s',Inv X pins (σ.set j none) H s'->Q .unit s'):wpAny (model X.prog X.w) A' (do bindName X.env n .none;unbindBehindTheSuite X.env n pos) Q E s:=by
 obtain⟨m,hn,hlk⟩:=id I.loc;have hcls:(X.env.scope.kind == .class || (X.env.scope.kind == .module && X.env.locals != X.env.globals))=false:=by rw[I.ok.kind];rfl
 have hiσ:j < σ.length:=by rw[I.len];exact(List.getElem?_eq_some_iff.mp hj).1
 have cne:=I.cne;refine wpAny_nameGoes_keeps hl hn hcls λh' v hn' hs=>?_;obtain⟨oL,_,_,hoL,_⟩:=id hn;refine h _ ⟨I.ok,I.os,I.bare,⟨λb o e n hb hx=>?_,λb o e n hb hx=>?_,I.base.free,λb o e hx=>?_,I.base.tups,I.base.frzs,I.base.tbls⟩,⟨_,hn',λi y v' e1 e2 e3=>?_⟩,λy c e=>?_,I.free,I.freeC,λp hp=>?_,λb ob e=>?_,by simpa using I.len⟩
 ·exact(hs.2 b (Nat.ne_of_lt (Nat.lt_of_lt_of_le (Heap.lt_size e) I.ok.above))).trans (I.base.keep b o e n hb hx)
 ·obtain⟨sl,e1⟩:=I.base.slot b o e n hb hx;exact⟨sl,(hs.2 b (Nat.ne_of_lt (Nat.lt_of_lt_of_le (Heap.lt_size e) I.ok.above))).trans e1⟩
 ·obtain⟨o',e1⟩:=I.base.there b o e hx;exact⟨o',(hs.2 b (Nat.ne_of_lt (Nat.lt_of_lt_of_le (Heap.lt_size e) I.ok.above))).trans e1⟩
 ·by_cases hij:i=j
  ·subst hij;rw[getElem?_set_self hiσ] at e2
   cases e2
  ·rw[getElem?_set_ne (Ne.symm hij)] at e2;obtain⟨u',r',q⟩:=hlk i y v' e1 e2 e3;refine⟨u',r',?_⟩;rcases q with ⟨k,e⟩ | ⟨k,c,e,z⟩
   ·refine .inl ⟨k,?_⟩;have:y≠n:=λe=>hij (vQ hN e1 (e ▸ hj));simp[this,e]
   ·exact .inr ⟨k,c,e,z.sameBut hs (cne y c e)⟩
 ·obtain⟨w',z⟩:=I.cell y c e;exact⟨w',z.sameBut hs (cne y c e)⟩
 ·obtain⟨e,n,ne,nf,d⟩:=I.pin p hp;exact⟨(hs.2 p.1 ne).trans e,n,ne,nf,d⟩
 ·refine(I.hok b ob e).stay (λc w' hc q=>(hs.2 c ?_).trans q) (λ_ q=>q) λ_ _ q=>q;rintro rfl;rcases hc with rfl | hc
  ·rw[I.free] at e;cases e
  ·rw[I.free] at hc;cases hc
end
abbrev TH:=Addr->Value->Option Addr->kL->St->Hp->Prop
def PH (X:Cx)(hs:List ExceptHandler)(t:TH):Prop:=
 ∀(pins:List (Addr × Obj)) (s:Shared) (σ:St) (H:Hp) (D:kL) (a:Addr) (C:Value) (d:Option Addr),tZ X pins σ H s a C d->t a C d D σ H->wpAny (model X.prog X.w) X.A (handleBy (.ref a) X.env hs) (SP X pins D) X.xe s
section
variable {X:Cx} {pos np:Pos} {T:Str} {tc:Value} {b₀:Stmt} {suite:List Stmt} {rest:List ExceptHandler} {ts:TS} {tr:TH}
def qe5:TH:=λ_ _ _ _ _ _=>False
theorem Qd:PH X hs qe5:=λ_ _ _ _ _ _ _ _ _ h=>h.elim
def Yn (X:Cx)(T:Str)(c:Value):Prop:=X.mg T=some c\/(X.mg T=none/\bootBuiltins T=some c/\T≠"__name__")
theorem qd7 (I:Inv X pins σ H s)(hg:Gl X T)(hc:Yn X T tc)(h:Q tc s)(hd:(T == ("__debug__":Str))=false:=by decide):wpAny (model X.prog X.w) X.A (eval (.Name T np) X.env) Q E s:=by
 rcases hc with e | ⟨e,hv,hn⟩
 ·exact iO I hg e h hd
 ·exact jV I hg e hv h hn hd
theorem tZ.ty (L:tZ X pins σ H s a C d):W.Looks M s.heap (typeOf (.ref a)) C:=by
 obtain⟨I,h0,hp,hs,ht,n,f,oe,vs,v,e1,e2,_⟩:=L;subst e2;exact(W.Looks.ld e1).andThen .now
def Uc (K:Frag)(tc:Value)(j:Nat)(ts:TS)(tr:TH):TH:=λa C d D σ H=>∃b,W.exmOne K C tc=some b/\
 if b=true then ts { nx:=λσ' H'=>D.nx (σ'.set j none) H',rt:=D.rt,bk:=λσ' H'=>D.bk (σ'.set j none) H',ct:=λσ' H'=>D.ct (σ'.set j none) H' } (σ.set j (some (.ref a))) (upd H a (iK a C d)) else tr a C d D σ H
theorem qk3 (fm:Frm X)(hN:X.N.Nodup)(hj:X.N[j]?=some n)(hl:X.env.scope.names.lookup n=some .local)(hg:Gl X T)(hc:Yn X T tc)(hs:∀a,PSs (X.sup a) (b₀ :: suite) ts)(hr:PH X rest tr)(hd:(T == ("__debug__":Str))=false:=by decide):
  PH X (.ExceptHandler (some (.Name T np)) (some n) (b₀ :: suite) pos :: rest) (Uc X.K tc j ts tr):=by
 intro pins s σ H D a C d L h;obtain⟨b,hb,h⟩:=h;have I:=L.1;refine wpAny_handleBy_cons (codeAny_handlers_test (qd7 (X:=X.sup a) (I.sup a) hg hc ((W.exm_one I.kIn L.ty hb).here ?_) hd)) (by intro q;cases q)
 cases b with
 |false=>
  rw[if_neg Bool.false_ne_true] at h;exact hr pins s σ H D a C d L h
 |true=>
  rw[if_pos rfl] at h;refine codeAny_handlers_suite_as (Ul (X:=X) L λs' L'=>?_);refine jZ (X:=X.sup a) ((L'.track fm).sup a) hN hj (.inl hl) (v:=.ref a) rfl (λs2 I2=>?_) (.inr hl);refine wpAny_mono (hs a pins s2 _ _ _ I2 h) (λf s3 q=>?_) λ_ _ z=>False.elim z
  cases f with
  |next=>
   obtain⟨σ',H',J,q⟩:=q;exact oA (J.unsup I.ok) hN hj hl λs4 J4=>⟨_,H',J4,q⟩
  |brk=>
   obtain⟨σ',H',J,q⟩:=q;exact oA (J.unsup I.ok) hN hj hl λs4 J4=>⟨_,H',J4,q⟩
  |cont=>
   obtain⟨σ',H',J,q⟩:=q;exact oA (J.unsup I.ok) hN hj hl λs4 J4=>⟨_,H',J4,q⟩
  |ret u=>
   obtain⟨v,σ',H',J,r,q⟩:=q;exact oA (J.unsup I.ok) hN hj hl λs4 J4=>⟨v,_,H',J4,r,q⟩
def qt2 (tb:TSX)(to:TS)(th:TH):TS:=λD σ H=>tb { D with nx:=to D } (λσ' C d H'=>∀a,H' a=none->th a C d D σ' H') σ H
theorem qf4 (fm:Frm X)(hb:qm8 X body tb)(ho:PSs X orelse to)(hh:PH X (h₀ :: hs) th):PS X (.Try body (h₀ :: hs) orelse [] pos) (qt2 tb to th):=by
 intro pins s σ H D I h;refine wpAny_Try_except (wpAny_mono (hb pins s σ H _ _ I h) (λf s1 q=>?_) λe s1 q=>?_)
 ·cases f with
  |next=>
   obtain⟨σ',H',I',q⟩:=q;exact ho pins s1 σ' H' D I' q
  |ret v=>exact q
  |brk=>exact q
  |cont=>exact q
 ·obtain⟨a,C,d,σ',H',rfl,L,q⟩:=q;refine Jk I.ok.frames fm L λs2 L2=>?_;exact hh pins s2 σ' H' D a C d L2 (q a L2.2.choose_spec.2.2.2.free)
end
structure yJ (K:Frag) (C:Addr):Prop where
 ga:W.findIn K (.ref C) "__getattribute__"=some (some (.builtin "BaseException.__getattribute__"))
 gn:W.findIn K (.ref C) "__getattr__"=some none
 bx:W.mroIn K C (.type "BaseException")=some true
 ob:W.mroIn K C (.type "object")=some true
 ca:W.findIn K (.ref C) "__class__"=some (some (.builtin "object.__class__"))
 hn:W.specialIn K (.builtin "object.__class__") "__get__"=some (some (.builtin "getset_descriptor.__get__"))
 tk:W.takesIn K (.builtin "object.__class__")=some true
 cl:(W.clsIn K C).isSome=true
section
variable {prog:Program} {w:World} {A:Around} {E:Value->Shared->Prop} {s:Shared} {K:Frag} {x D:Addr} {ox:Obj} {odo:Option Obj} {name:Str}
theorem Lz (k:yJ K D)(X:K.In s.heap)(I:W.InstAt s.heap x ox D odo)(h:Q .unit s):
  wpAny (model prog w) A (checkBuiltinCall "BaseException.__getattribute__" ⟨[.ref x,nameV],[]⟩) Q E s:=by
 have hk:builtinKind "BaseException.__getattribute__"=some .slot:=by decide +kernel
 have hsplit:splitId "BaseException.__getattribute__"=some ("BaseException","__getattribute__"):=by decide +kernel
 obtain⟨hh,g,d,t,os⟩:=s;have L0:=I.type (M:=model prog w);have L1:=W.looks_mroIn (M:=model prog w) X k.bx;have LI:W.Looks (model prog w) hh (isInstance (.ref x) (.type "BaseException")) true:=L0.andThen L1;have ha:=PySem.F.args_bexc_ga (.ref x) nameV;simp only[checkBuiltinCall,hk,hsplit];refine wpAny_bind (LI.at ?_)
 repeat (first | lk | wp_step)
 exact h
theorem Ox {fill expr:Bool}(k:yJ K D)(X:K.In s.heap)(I:W.InstAt s.heap x ox D odo)(hv:W.handedIn v=true)(hf:W.findObj K D odo name=some (.value v)\/∃g a,W.findObj K D odo name=some (.bind g a)/\∀(A':Around) (R:Result->Shared->Prop),R (.ok (.ret v)) s->codeAny (model prog w) A' (.call g ⟨[a,.ref x,.ref D],[]⟩) R s)(h:P v s):
  wpAny (model prog w) A (getAttrBy (.ref x) (.str name tk) fill expr) P E s:=by
 obtain⟨hh,g,d,t,os⟩:=s;have L0:=I.type (M:=model prog w);have L1:=W.looks_findIn (M:=model prog w) X k.ga;have L2:=W.looks_findIn (M:=model prog w) X k.gn;unfold getAttrBy;refine wpAny_holding (wpAny_bind (L0.at (wpAny_bind (L1.at ?_))));show wpAny _ _ (getAttrByItsOwn (.ref x) (.str name tk) (.ref D) (.builtin "BaseException.__getattribute__") fill expr) _ _ _;unfold getAttrByItsOwn hookBefore;have f3:=PySem.F.attr_ValueError.ga.bind (.ref x);refine wpAny_bind (L2.at ?_);refine wpAny_bind (wpAny_attempt (wpAny_holding ?_));unfold callGetattribute boundAndCalled;rw[if_neg (by cases expr<;>decide)];refine wpAny_bind (wpAny_of_eq f3 ?_);refine wpAny_call (codeAny_call_builtin PySem.F.attr_ValueError.ga.plain PySem.F.entry_bexc_ga (Lz k X I ?_));unfold Builtin.«object.__getattribute__»;refine wpAny_bind (wpAny_pure ?_);refine wpAny_bind (wpAny_pure ?_);refine wpAny_bind (L0.at ?_);rcases hf with hf | ⟨gg,a,hf,hc⟩
 ·refine wpAny_bind ((W.looks_find (M:=model prog w) X I hf).at ?_);refine wpAny_pure ?_;show wpAny _ _ (handedOut v) _ _ _;rw[W.handedOut_of hv];exact wpAny_pure h
 ·refine wpAny_bind ((W.looks_find (M:=model prog w) X I hf).at ?_);show wpAny _ _ (Builtin.ObjectAttr.bindTo gg a (.ref x) (.ref D)) _ _ _;show wpAny _ _ (holding [a] (call gg [a,.ref x,.ref D]) >>= ret) _ _ _;refine wpAny_bind (wpAny_holding (wpAny_call (hc _ _ ?_)));refine wpAny_pure ?_;show wpAny _ _ (handedOut v) _ _ _;rw[W.handedOut_of hv];exact wpAny_pure h
theorem Ln (k:yJ K D)(X:K.In s.heap)(I:W.InstAt s.heap x ox D odo)(h:Q (some (.ref D)) { s with toks:=s.toks+1 }):
  wpAny (model prog w) A (getAttr? (.ref x) "__class__") Q E s:=by
 have hf:W.findObj K D odo "__class__"=some (.bind (.builtin "getset_descriptor.__get__") (.builtin "object.__class__")):=by
  obtain⟨cd,hc⟩:=Option.isSome_iff_exists.mp k.cl;unfold W.findObj;rw[hc,Option.bind_some,k.ca,Option.bind_some];simp[k.hn,k.tk]
 unfold getAttr? getAttrBy?;refine wpAny_bind (wpAny_mkText (wpAny_bind (wpAny_attempt (Ox (s:={ s with toks:=s.toks+1 }) k X I rfl (.inr ⟨_,_,hf,λA' R q=>W.class_get (s:={ s with toks:=s.toks+1 }) X I k.ob q⟩) ?_))));exact wpAny_pure h
theorem Ei (k:yJ K D):W.KitX K (.ref x) (.ref D) (λh=>W.InstAt h x ox D odo) where
 ty:=λ_ _ _ I=>I.type
 it:=λ_ _ X _=>by
  obtain⟨cdD,hcD⟩:=Option.isSome_iff_exists.mp k.cl;unfold W.clsIn at hcD;split at hcD
  ·rename_i c' d' cd' sl' ho
   intro A' Q' E' s' kk q;unfold isType loadHead;exact wpAny_bind (wpAny_loadPart (kk _ _ (X _ _ ho)) (wpAny_pure q))
  ·cases hcD
 ne:=λh tp dd its n sl X htp=>by
  obtain⟨cdD,hcD⟩:=Option.isSome_iff_exists.mp k.cl;refine Bool.eq_false_iff.mpr λq=>?_;have e:D=tp:=Value.ref.inj (beq_iff_eq.mp q);subst e;unfold W.clsIn at hcD;split at hcD
  ·rename_i c' d' cd' sl' ho
   have z:=(X _ _ ho).symm.trans htp
   cases z
  ·cases hcD
 ca:=λX I h=>Ln k X I h
end
section
variable {X:Cx}
theorem Pz (I:Inv X pins σ H s)(e:H a=some (iK a (.ref C) none)):∃ox,W.InstAt s.heap a ox C none:=by
 obtain⟨⟨o,vs,h1,h2,h3,h4⟩,_⟩:=(show cL X.prog X.w H s.heap a (iK a (.ref C) none) from I.hok a _ e)
 refine⟨o,h1,h2,?_,?_⟩
 ·unfold W.notCls;rw[h4]
 ·rw[h3];trivial
theorem Lb:kC X (.builtin "isinstance") (λxs H Q=>∃a C c cv b,xs=[.ref a,c]/\H a=some (iK a (.ref C) none)/\yJ X.K C/\cB c cv/\(∀u,cB c u->u=cv)/\W.kitOne X.K (.ref C) cv=some b/\Q (.bl b) H):=by
 intro pins s σ H xs us Q I r h;obtain⟨a,C,c,cv,b,rfl,ha,k,rc,ru,e,q⟩:=h;obtain⟨u,w',rfl,rx,rn⟩:=Kz r
 cases (show u=Value.ref a from rx)
 cases ru w' rn
 obtain⟨ox,hi⟩:=Pz I ha;exact W.kia_one (Ei (ox:=ox) (odo:=none) k) I.kIn hi e (λz=>nomatch z) λtk=>⟨.bl b,H,I.tok tk,rfl,q⟩
theorem gS (hg:Gl X x)(hm:X.mg x=some (.ref C))(hd:(x == ("__debug__":Str))=false:=by decide):PE X (.Name x pos) (tC (.ref C)):=dG hg hm rfl hd
end
end L2
namespace Mq
theorem fP (hp:1<=p.2)(hq:1<=q.2):Low (minus p q):=hZ (gO hp hq)
theorem zO (hp:1<=p.2)(hq:1<=q.2):Low (tN p q):=hZ (gO hp hq)
theorem uQ {p q:Q2}(hp:1<=p.2)(hq:q.1≠0):p.2*q.1≠0:=Int.mul_ne_zero () hq
theorem Qi (hp:1<=p.2)(hq:q.1≠0):Low (tV p q):=hZ (uQ hp hq)
theorem Ri (h:Bd n p)(g:Bd m q)(hp:1<=p.2)(hq:1<=q.2):Bd (n+m+1) (minus p q):=by
 have k:=pD (t:=p.1*q.2 - q.1*p.2) (gO hp hq);have a2:B (n+m) (q.1*p.2):=by rw[Nat.add_comm];exact g.a.mul h.b
 exact⟨((h.a.mul g.b).sub a2).le k.1,((h.b.mul g.b).mono (Nat.le_succ _)).le k.2⟩
theorem Nx (h:Bd n p)(g:Bd m q)(hp:1<=p.2)(hq:1<=q.2):Bd (n+m) (tN p q):=by
 have k:=pD (t:=p.1*q.1) (gO hp hq);exact⟨(h.a.mul g.a).le k.1,(h.b.mul g.b).le k.2⟩
theorem Wz (h:Bd n p)(g:Bd m q)(hp:1<=p.2)(hq:q.1≠0):Bd (n+m) (tV p q):=by
 have k:=pD (t:=p.1*q.2) (uQ hp hq);exact⟨(h.a.mul g.b).le k.1,(h.b.mul g.a).le k.2⟩
end Mq
namespace L2
open PySem PySem.Spec PyProof.Rows
def NW (K:Frag)(H:Hp)(x:V):Prop:=∃t,kM K H x t/\iD t
inductive Ai (K:Frag) (vs:List V) (H:Hp) (Q:VK) (E:XK):Prop where
 |mk (a b:Addr) (p q:Mq.Q2) (n m:Nat):vs=[.ref a,.ref b]->Fq K H a p->Fq K H b q->Mq.Bd n p->Mq.Bd m q->n+m+1<=9000->Q (.bl (decide (p.1*q.2 < q.1*p.2))) H->Ai K vs H Q E
inductive TyQ (K:Frag) (H:Hp):V->Value->Prop where
 |of {x:V} {t:Value} (h:kM K H x t):TyQ K H x t
 |tup {a:Addr} {xs:List V} (h:SqT K H a xs):TyQ K H (.ref a) (.type "tuple")
 |lst {a:Addr} {xs:List V} (h:SqL K H a xs):TyQ K H (.ref a) (.type "list")
section
variable {X:Cx} {pins:List (Addr × Obj)} {σ:St} {H:Hp} {s:Shared} {A:Around} {E:Value->Shared->Prop} {Q:Value->Shared->Prop} {c:Value} {b:Bool}
theorem Fd (I:Inv X pins σ H s)(rx:cB x u)(ty:TyQ X.K H x t)(e:W.kitOne X.K t c=some b)(h:∀tk,Q (.bool b) { s with toks:=tk }):
  wpAny (model X.prog X.w) A (call (.builtin "isinstance") [u,c]) Q E s:=by
 cases ty with
 |of ty=>exact Ms I rx ty e h
 | @tup a xs ht=>
  cases (show u=Value.ref a from rx)
  obtain⟨its,_,p,_⟩:=I.tuple ht;obtain⟨o,h1,h2,_⟩:=p;exact W.kia_one W.kitx_tuple I.kIn ⟨o,h1,h2⟩ e (λz=>nomatch z) h
 | @lst a xs ht=>
  cases (show u=Value.ref a from rx)
  obtain⟨its,_,p,_⟩:=I.list ht;obtain⟨o,h1,h2,_⟩:=p.isList;exact W.kia_one W.kitx_list I.kIn ⟨_,h1,h2⟩ e (λz=>nomatch z) h
end
section
variable {X:Cx}
theorem Mt:kC X (.builtin "isinstance") (λxs H Q=>∃x n t b,xs=[x,.ty n]/\TyQ X.K H x t/\W.kitOne X.K t (.type n)=some b/\Q (.bl b) H):=by
 intro pins s σ H vs us Q I rv h;obtain⟨x,n,t,b,rfl,ty,e,q⟩:=h;obtain⟨u,u2,rfl,r1,r2⟩:=Kz rv
 cases (show u2=Value.type n from r2)
 exact Fd I r1 ty e λtk=>⟨.bl b,H,I.tok tk,rfl,q⟩
theorem nX {i:Nat}(hN:X.N[i]?=some x)(hv:Vis X.env.scope x)(b:X.mg "isinstance"=none)(b2:X.mg T=none)(g1:Gl X "isinstance")(g2:Gl X T)(hT:bootBuiltins T=some (.type T'))(hd:(x == ("__debug__":Str))=false:=by decide)(hcd:(x == ("__classdict__":Str))=false:=by decide)(hTn:T≠"__name__":=by decide)(hTd:(T == ("__debug__":Str))=false:=by decide)(he:starEach [.Name x p2,.Name T p3] X.env=(false,eval (.Name x p2) X.env) :: starEach [.Name T p3] X.env:=by rfl)(he2:starEach [.Name T p3] X.env=(false,eval (.Name T p3) X.env) :: starEach [] X.env:=by rfl)(hpl:(backTo pos (starEach [.Name T p3] X.env)).any (·.1)=false:=by rfl):
  PE X (.Call (.Name "isinstance" p1) [.Name x p2,.Name T p3] [] pos) (λσ H Q=>∃v t b,σ[i]?=some (some v)/\TyQ X.K H v t/\W.kitOne X.K t (.type T')=some b/\Q (.bl b) H):=by
 have h:=bO (X:=X) (pos:=pos) (p:=p1) Mt g1 b PyProof.Rows.boot_isinstance (aA (Tk (i:=i) (pos:=p2) hN hv hd hcd) (aA (Kx (v:=.ty T') (pos:=p3) g2 b2 hT rfl hTn hTd) aC he2) he) ∅ ∅ he hpl;intro pins s σ H Q I q;obtain⟨v,t,bb,h1,h2,h3,h4⟩:=q;exact h pins s σ H Q I ⟨v,h1,v,T',t,bb,rfl,h2,h3,h4⟩
end
theorem SqT.upd {K:Frag}(h:SqT K H a xs)(hl:H l=some (.lst ys)):SqT K (L2.upd H l o) a xs:=by
 rcases h with (h | ⟨u,h⟩) | h
 ·exact .inl (.inl (by rw[aR (jP h hl (λz=>by cases z))];exact h))
 ·exact .inl (.inr ⟨u,by rw[aR (jP h hl (λz=>by cases z))];exact h⟩)
 ·exact .inr h
theorem qY {K:Frag}:∀ns:List Int,yW K H (ns.map V.int) (ns.map PyData.int)
 | []=>.nil
 |n :: r=>.cons (.int n) (qY r)
theorem vZ:∀ns:List Int,PyData.canLayAll0 (ns.map PyData.int)=true
 | []=>rfl
 |n :: r=>by
  show ((PyData.int n).canLay0 && PyData.canLayAll0 (r.map PyData.int))=true;rw[vZ r];rfl
theorem To (ns:List Int)(lo hi:Option Int):∃ms:List Int,mB (ns.map V.int) lo hi=ms.map V.int/\ms.length<=ns.length:=by
 refine⟨(ns.drop (HT.sIx (ns.map V.int).length 0 lo)).take (HT.sIx (ns.map V.int).length (ns.map V.int).length hi - HT.sIx (ns.map V.int).length 0 lo),?_,?_⟩
 ·unfold mB;rw[map_take,map_drop]
 ·rw[length_take,length_drop];lia
theorem xR {K:Frag}{ns:List Int}(h1:SqL K H a (ns.map V.int))(h2:SqL K H b [])(z:Q (.bl (if neg then !ns.isEmpty else ns.isEmpty)) H):yN K neg (.ref a) (.ref b) H Q:=by
 refine⟨_,_,.lst h1 (qY ns),.lst h2 .nil,vZ ns,rfl,?_,?_⟩
 ·have:(PyData.list []).depth<=1:=by decide
  lia
 ·cases ns<;>exact z
theorem jL:(((σC 2 fr σ).set 0 (some x)).set 1 (some y)).length=(σC 2 fr σ).length/\∀(i:Nat) v,(σC 2 fr σ)[i]?=some (some v)->(((σC 2 fr σ).set 0 (some x)).set 1 (some y))[i]?=some (some v):=by
 refine⟨⋯,λi v h=>?_⟩
 match i with
 |0=>unfold σC at h;simp at h
 |1=>unfold σC at h;simp at h
 |k+2=>rw[getElem?_set_ne (),getElem?_set_ne ()];exact h
theorem Fqs.set {K:Frag}(h:Fq K H a p):∀{xs:List V} {ps:List Mq.Q2} (i:Nat),Fqs K H xs ps->Fqs K H (xs.set i (.ref a)) (ps.set i p)
 |_,_,_,.nil=>.nil
 |_,_,0,.cons _ q=>.cons h q
 |_,_,i+1,.cons g q=>.cons g (Fqs.set h i q)
theorem Fqs.at {K:Frag}:∀{xs:List V} {ps:List Mq.Q2} {i:Nat} {p:Mq.Q2},Fqs K H xs ps->ps[i]?=some p->∃a,xs[i]?=some (.ref a)/\Fq K H a p
 |_,_,_,_,.nil,h=>by simp at h
 |_,_,0,_,.cons h _,e=>by simp at e;subst e;exact⟨_,rfl,h⟩
 |_,_,i+1,_,.cons _ q,e=>by simpa using Fqs.at q (by simpa using e)
theorem Eu (lo:-(2 ^ n:Int) < i)(hi:i < 2 ^ n):Mq.B n i:=by
 unfold Mq.B;have e:((2 ^ n:Nat):Int)=2 ^ n:=by simp
 lia
theorem Bb (X:Cx):∀l:List (Int × _ × Pos),PA X (l.map λq=>Expr.Constant (.int q.1) q.2.1 q.2.2) (λ_ H Q=>Q (l.map λq=>V.int q.1) H)
 | []=>aC
 |q :: l=>aA (te:=tC (.int q.1)) aG (Bb X l) rfl
theorem oK (h:k < n):ixN n (k:Int)=some k:=by
 unfold ixN;rw[if_pos (),if_pos ()];simp
section
variable {X:Cx} {tg:Expr}
inductive qi5 (K:Frag) (xs:List V) (H:Hp) (Q:VK):Prop where
 |mk (p:Addr) (bs:List Bool):xs=[.ref p]->SqL K H p (bs.map V.bl)->Q (.bl (bs.all id)) H->qi5 K xs H Q
theorem Qx (hc:X.calm=true):kC X (.builtin "all") (qi5 X.K):=by
 intro pins s σ H xs us Q I r h;obtain⟨p,bs,rfl,hq,q⟩:=h;obtain⟨u,rfl,rx⟩:=zP r
 cases rx
 obtain⟨its,rv,pl,hz⟩:=I.list hq;have hlen:its.toArray.size=bs.length:=by rw[size_toArray,<- rv.length,length_map]
 have hne:p≠s.heap.objs.size:=by
  obtain⟨o,e,_⟩:=pl.isList;exact Nat.ne_of_lt (Heap.lt_size e)
 refine call_all_walk (wpAny_pyIter_list pl.isList ?_);refine⟨s.heap.objs.size,_,_,_,_,_,λi=>bs.getD i false,rfl,Walks.list (by exact I.ok.hd hc) s.heap.objs.size p hne its.toArray,⟨⟨_,Heap.get?_push_size _ rfl,rfl,rfl⟩,?_⟩,?_,?_⟩
 ·obtain⟨o,e,c⟩:=pl.isList;exact⟨o,Heap.get?_push_of_some _ e,c⟩
 ·intro i v s' Q' E' hv q';have hv':its[i]?=some v:=by simpa using hv
  have hi:i < its.length:=(List.getElem?_eq_some_iff.mp hv').1;have hb:(bs.map V.bl)[i]?=some (.bl (bs.getD i false)):=by
   rw[getElem?_map,getElem?_eq_getElem (by rw[<- hlen];simpa using hi)];simp[List.getD,getElem?_eq_getElem (show i < bs.length by rw[<- hlen];simpa using hi)]
  obtain⟨u,hu,ru⟩:=rv.get hb;have e:u=v:=by rw[hv'] at hu;cases hu;rfl
  subst e
  cases ru
  exact wpAny_truthy_bool q'
 ·intro h' tk kk;have e:(List.range its.toArray.size).all (λi=>bs.getD i false)=bs.all id:=by
   rw[hlen,Bool.eq_iff_iff,all_eq_true,all_eq_true];constructor
   ·intro z b hb;obtain⟨i,hi,rfl⟩:=getElem_of_mem hb;have:=z i (mem_range.mpr hi);simpa[List.getD,getElem?_eq_getElem hi] using this
   ·intro z i hi;have hi':=mem_range.mp hi;have:=z bs[i] (getElem_mem hi');simpa[List.getD,getElem?_eq_getElem hi'] using this
  rw[e];refine⟨.bl _,H,I.kept (t':=tk) λb o hb=>?_,rfl,q⟩;have hb2:b≠s.heap.objs.size:=Nat.ne_of_lt (Heap.lt_size hb);exact kk b o (by simpa using hb2) (Heap.get?_push_of_some _ hb)
end
inductive Ik {ι:Type} (C:ι->Addr) (m:Str) (sp:ι->Sp) (dvs:List V) (E:XK) (t:TA) (σ:St) (Q:VK) (x:V) (H1:Hp):Prop where
 |mk (i a dx fs):x=.ref a->H1 a=some (.ins (C i) dx fs)->fs.lookup m=none->(t σ H1 λvs H2=>sp i (x :: (vs++dvs)) H2 Q E)->Ik C m sp dvs E t σ Q x H1
def qh9 {ι:Type}(C:ι->Addr)(m:Str)(sp:ι->Sp)(dvs:List V)(E:XK)(ta:TE)(t:TA):TE:=λσ H Q=>ta σ H λx H1=>Ik C m sp dvs E t σ Q x H1
section
variable {X:Cx} {ι:Type} {C f:ι->Addr} {fd:ι->FuncData} {sp:ι->Sp} {m:Str} {CX:CXT} {k:Nat} {ps:List Str} {ds:List Value} {dvs:List V} {E:XK} {o e:Expr} {es:List Expr} {ta:TE} {t:TA} {apos pos:Pos}
theorem gC (he:PE X o ta)(c:∀i,Cls X.K (C i))(hm:∀i,gE X.K (C i) m (f i))(F:∀i,aK X.prog X.w X.K X.mg X.base CX k (f i) (fd i) ps (sp i))(hr:gM k X.A)(hb:∀i,aL X.K (fd i) ps ds)(hd:cA dvs ds)(hx:kX CX X E)(ht:eval (.Call (.Attribute o m apos) [] [] pos) X.env=(do
   let ov <- eval o X.env
   standAt apos.atName
   let (f,first) <- holding [ov] (getMethod ov m pl)
   callWith pos f first (backTo pos (starEach [] X.env)) (backToKw pos (keywordEach [] X.env))):=by rfl):
  PE X (.Call (.Attribute o m apos) [] [] pos) (qh9 C m sp dvs E ta qf2):=by
 intro pins s σ H Q I h;refine W.methodCall_KW (pl:=pl) (thn (he pins s σ H _ I h) λu s1 ⟨x,H1,I1,rx,i,a,dx,fs,ex,ea,l,q⟩=>?_) ht;subst ex;obtain rfl:u=Value.ref a:=rx;refine pG I1 ea (c i) (hm i) l ?_;exact W.callWith_K0 (first:=[.ref a]) I1.kIn (hm i).kp (Cv (us:=[.ref a]) (vs:=[.ref a]) (F i) hr (hb i) hd hx I1 (.cons rfl .nil) q)
end
inductive Kd where
 |pc | pu | ho
 deriving DecidableEq
def Kd.wd:Kd->Str
 | .pc=>"piece"
 | .pu=>"push"
 | .ho=>"hold"
def Kd.cn:Kd->Str
 | .pc=>"Piece"
 | .pu=>"Push"
 | .ho=>"Hold"
theorem Kd.wd_inj {k j:Kd}(h:k.wd=j.wd):k=j:=by
 cases k<;>cases j<;>first | rfl | exact absurd h ∅
theorem fsg:¬(("start":Str) = "goal"):=by decide +kernel
theorem fsz:¬(("start":Str) = "size"):=by decide +kernel
theorem fgz:¬(("goal":Str) = "size"):=by decide +kernel
def jY (s g z:V):List (Str × V):=iZ "size" z (iZ "goal" g (iZ "start" s []))
theorem dS (s g z:V):(jY s g z).lookup ("start":Str)=some s:=by
 unfold jY;rw[cD,if_neg fsz,cD,if_neg fsg,cD,if_pos rfl]
theorem eQ (s g z:V):(jY s g z).lookup ("goal":Str)=some g:=by
 unfold jY;rw[cD,if_neg fgz,cD,if_pos rfl]
theorem gV (s g z:V):(jY s g z).lookup ("size":Str)=some z:=by
 unfold jY;rw[cD,if_pos rfl]
theorem fM (s g z:V){m:Str}(h1:¬m = "start")(h2:¬m = "goal")(h3:¬m = "size"):(jY s g z).lookup m=none:=by
 unfold jY;rw[cD,if_neg h3,cD,if_neg h2,cD,if_neg h1];rfl
def Rw (CK:Kd->Addr)(H:Hp)(x:Addr)(k:Kd)(s g z:V):Prop:=∃dx,H x=some (.ins (CK k) dx (jY s g z))
theorem Rw.same (e:aS H H')(h:Rw CK H x k s g z):Rw CK H' x k s g z:=let ⟨dx,q⟩:=h;⟨dx,e _ _ q⟩
theorem Rw.upd (h:Rw CK H x k s g z)(hl:H l=some (.lst ys)):Rw CK (L2.upd H l o) x k s g z:=let ⟨dx,q⟩:=h;⟨dx,by rw[aR (jP q hl (λz=>by cases z))];exact q⟩
structure RT (K:Frag) (mg:Str->Option Value) (CR:Addr) (CK:Kd->Addr):Prop where
 cl:∀k,Cls K (CK k)
 nS:∀k,jI K (CK k) "start"
 nG:∀k,jI K (CK k) "goal"
 nZ:∀k,jI K (CK k) "size"
 t1:∀k,W.findIn K (.ref (CK k)) "__class__"=some (some (.builtin "object.__class__"))
 t2:W.specialIn K (.builtin "object.__class__") "__get__"=some (some (.builtin "getset_descriptor.__get__"))
 t3:W.takesIn K (.builtin "object.__class__")=some true
 t4:∀k,W.mroIn K (CK k) (.type "object")=some true
 isR:∀k,W.kitOne K (.ref (CK k)) (.ref CR)=some true
 isK:∀k j,W.kitOne K (.ref (CK k)) (.ref (CK j))=some (decide (k=j))
 mR:mg "Row"=some (.ref CR)
 mK:∀k,mg (Kd.cn k)=some (.ref (CK k))
section
variable {K:Frag} {mg:Str->Option Value} {CR:Addr} {CK:Kd->Addr} {H:Hp} {x:Addr} {k:Kd} {s g z:V}
theorem Rw.new (h1:H x=none)(h2:H dx=none)(ne:dx≠x):aS H (L2.upd (L2.upd H dx (.own x)) x (.ins C dx fs)):=λb o e=>by
 rw[aR (bK e h1),aR (bK e h2)];exact e
end
inductive uU (CK:Kd->Addr) (vs:List V) (H:Hp) (Q:VK) (E:XK):Prop where
 |mk (x dx:Addr) (k:Kd) (s g z:V):vs=[.ref x,s,g,z]->H x=some (.ins (CK k) dx [])->Q .non (upd H x (.ins (CK k) dx (jY s g z)))->uU CK vs H Q E
inductive jW (k:Kd) (vs:List V) (H:Hp) (Q:VK) (E:XK):Prop where
 |mk (x):vs=[x]->Q (.str k.wd) H->jW k vs H Q E
inductive oC (k:Kd) (vs:List V) (H:Hp) (Q:VK) (E:XK):Prop where
 |mk (x):vs=[x]->Q (.bl (decide (k≠.pu))) H->oC k vs H Q E
inductive uL (CK:Kd->Addr) (vs:List V) (H:Hp) (Q:VK) (E:XK):Prop where
 |mk (x:Addr) (k:Kd) (s g z:V):vs=[.ref x]->Rw CK H x k s g z->(∀t,H t=none->Q (.ref t) (upd H t (.tup [.str k.wd,s,g,z])))->uL CK vs H Q E
def qq4 (CK:Kd->Addr)(H:Hp)(Q:VK)(k:Kd)(s g z:V):Prop:=∀x H',aS H H'->H x=none->Rw CK H' x k s g z->Q (.ref x) H'
theorem Au {K:Frag}(h1:qQ K H x d)(h2:qQ K H y d)(hl:d.canLay0=true)(hd:d.depth<=16)(z:Q (.bl (!neg)) H):yN K neg x y H Q:=by
 refine⟨d,d,h1,h2,hl,hl,(),?_⟩;have e:PyData.eqv d d=true:=PySem.SeqAt.eqv_refl _ hl;rw[e]
 cases neg<;>exact z
theorem ifT {A B:Prop}(h:c=true)(x:A):if c=true then A else B:=by rw[if_pos h];exact x
theorem ifF {A B:Prop}(h:c=false)(x:B):if c=true then A else B:=by rw[if_neg (by rw[h];decide)];exact x
theorem dY (k j:Kd):decide (V.str k.wd=V.str j.wd)=decide (k=j):=by
 by_cases h:k=j
 ·subst h;simp
 ·rw[decide_eq_false h];exact decide_eq_false λz=>h (Kd.wd_inj (V.str.inj z))
theorem kM.same {K:Frag}(s:aS H H')(h:kM K H x t):kM K H' x t:=by
 cases h with
 |non=>exact .non
 |bl b=>exact .bl b
 |int i=>exact .int i
 |str y=>exact .str y
 |flt y=>exact .flt y
 |lst e=>exact .lst (s _ _ e)
 |frz e=>exact .frz (s _ _ e)
 |tup e=>exact .tup (s _ _ e)
 |dK e=>exact .dK (s _ _ e)
 |dT e=>exact .dT (s _ _ e)
 |ins e cl ha hn htk hm=>exact .ins (s _ _ e) cl ha hn htk hm
theorem kE {p:Kd->Prop}(a:p .pc)(b:p .pu)(c:p .ho):∀k,p k:=λk=>by cases k<;>assumption
theorem rE (K:Frag)(t:PySem.Value):PySem.W.kitOne K t t=some true:=by unfold PySem.W.kitOne;rw[if_pos (beq_self_eq_true _)]
def kd3 {α:Type}(a b c:α):Kd->α
 | .pc=>a
 | .pu=>b
 | .ho=>c
end L2
namespace Mq
def mL (ps:List Q2):Prop:=∀p∈ps,Low p
end Mq
open Mq (mL)
namespace L2
open PySem PySem.Spec PyProof.Rows
section
variable {κ:Type} [DecidableEq κ]
def rF (kvs:List (κ × V))(k:κ):Option V:=(kvs.find? λkv=>decide (kv.1=k)).map (·.2)
def mZ (kvs:List (κ × V))(k:κ)(v:V):List (κ × V):=
 if (kvs.any λkv=>decide (kv.1=k))=true then kvs.map (λkv=>if kv.1=k then (kv.1,v) else kv) else kvs++[(k,v)]
theorem qK {p:κ × V}(e:p.1=k):rF (p :: r) k=some p.2:=by simp[rF,find?_cons,e]
theorem nQ {p:κ × V}(e:¬p.1=k):rF (p :: r) k=rF r k:=by simp[rF,find?_cons,e]
theorem Ds (k:κ):∀kvs:List (κ × V),(kvs.any λkv=>decide (kv.1=k))=(rF kvs k).isSome
 | []=>rfl
 |p :: r=>by
  rw[any_cons]
  by_cases e:p.1=k
  ·simp only[qK e,decide_eq_true e,Bool.true_or,Option.isSome_some]
  ·rw[nQ e,decide_eq_false e,Bool.false_or];exact Ds k r
theorem mQ (kvs:List (κ × V))(k:κ)(v:V):(mZ kvs k v).length<=kvs.length+1:=by
 unfold mZ;split
 ·rw[length_map];lia
 ·rw[List.length_append,length_cons,length_nil];lia
theorem jT.isSome_eq (r:jT o u):o.isSome=u.isSome:=by
 cases o with
 |none=>cases u with
  |none=>rfl
  |some _=>exact(show False from r).elim
 |some _=>cases u with
  |none=>exact(show False from r).elim
  |some _=>rfl
theorem jT.getD (r:jT o u)(rd:cB d d'):cB (o.getD d) (u.getD d'):=by
 cases o with
 |none=>cases u with
  |none=>exact rd
  |some _=>exact(show False from r).elim
 |some _=>cases u with
  |none=>exact(show False from r).elim
  |some _=>exact r
theorem KV.val (r:KV kvs vs)(k:κ):jT (rF kvs k) (valueAt vs k):=by
 unfold KV at r
 induction r with
 |nil=>exact True.intro
 | @cons p q ps qs h t ih=>
  obtain⟨h1,h2⟩:=h
  by_cases e:p.1=k
  ·have e':q.1=k:=h1.symm.trans e;have b:valueAt (q :: qs) k=some q.2:=by simp[valueAt,find?_cons,e']
   rw[qK e,b];exact h2
  ·have e':¬q.1=k:=λz=>e (h1.trans z);have b:valueAt (q :: qs) k=valueAt qs k:=by simp[valueAt,find?_cons,e']
   rw[nQ e,b];exact ih
theorem KV.any (r:KV kvs vs)(k:κ):(kvs.any λkv=>decide (kv.1=k))=vs.any λkv=>decide (kv.1=k):=by
 unfold KV at r
 induction r with
 |nil=>rfl
 |cons h t ih=>rw[any_cons,any_cons,ih,h.1]
theorem KV.repl (r:KV kvs vs)(k:κ)(ry:cB y u):
  KV (kvs.map λkv=>if kv.1=k then (kv.1,y) else kv) (vs.map λkv=>if kv.1=k then (kv.1,u) else kv):=by
 unfold KV at r ⊢
 induction r with
 |nil=>exact .nil
 | @cons p q ps qs h t ih=>
  rw[map_cons,map_cons];refine .cons ?_ ih;obtain⟨h1,h2⟩:=h
  by_cases e:p.1=k
  ·rw[if_pos e,if_pos (h1.symm.trans e)];exact⟨h1,ry⟩
  ·rw[if_neg e,if_neg (λz=>e (h1.trans z))];exact⟨h1,h2⟩
theorem KV.put (r:KV kvs vs)(k:κ)(ry:cB y u):KV (mZ kvs k y) (stored vs k u):=by
 unfold mZ stored;rw[r.any k]
 by_cases e:(vs.any λkv=>decide (kv.1=k))=true
 ·rw[if_pos e,if_pos e];exact r.repl k ry
 ·rw[if_neg e,if_neg e];exact Paired.snoc r ⟨rfl,ry⟩
theorem KV.length {kvs:List (κ × V)}(r:KV kvs vs):kvs.length=vs.length:=Paired.length r
end
theorem yG (r:cB (kV k) u):(eK P w).is k u=true:=by
 cases k with
 |inl i=>obtain⟨t,e⟩:=(show ∃t,u=Value.int i t from r);subst e;exact Er P w i t
 |inr x=>obtain⟨t,e⟩:=(show ∃t,u=Value.str x t from r);subst e;exact Ea P w x t
theorem zA:∀{ks:List Key} {us:List Value},cA (ks.map kV) us->ItemsAre (eK P w) ks us
 | [],_,r=>by rw[map_nil] at r;cases r;exact .nil
 |k :: ks,_,r=>by
  rw[map_cons] at r
  cases r with
  |cons h t=>exact .cons (yG h) (zA t)
abbrev KT (H:Hp):List (List Key × V)->List (List Key × Addr × Value)->Prop:=Paired λp q=>p.1=q.1/\H q.2.1=some (.tup (p.1.map kV))/\cB p.2 q.2.2
theorem KT.val (r:KT H kvs xs)(k:List Key):jT (rF kvs k) ((atKey xs k).map (·.2)):=by
 induction r with
 |nil=>exact True.intro
 | @cons p q ps qs h t ih=>
  obtain⟨h1,_,h2⟩:=h
  by_cases e:p.1=k
  ·have e':q.1=k:=h1.symm.trans e;have b:atKey (q :: qs) k=some q.2:=by simp[atKey,find?_cons,e']
   rw[qK e,b];exact h2
  ·have e':¬q.1=k:=λz=>e (h1.trans z);have b:atKey (q :: qs) k=atKey qs k:=by simp[atKey,find?_cons,e']
   rw[nQ e,b];exact ih
theorem KT.repl (r:KT H kvs xs)(k:List Key)(ry:cB y u):
  KT H (kvs.map λkv=>if kv.1=k then (kv.1,y) else kv) (xs.map (putAt k u)):=by
 induction r with
 |nil=>exact .nil
 | @cons p q ps qs h t ih=>
  rw[map_cons,map_cons];refine .cons ?_ ih;obtain⟨h1,h2,h3⟩:=h;unfold putAt
  by_cases e:p.1=k
  ·rw[if_pos e,if_pos (h1.symm.trans e)];exact⟨h1,h2,ry⟩
  ·rw[if_neg e,if_neg (λz=>e (h1.trans z))];exact⟨h1,h2,h3⟩
theorem KT.put (r:KT H kvs xs)(k:List Key)(hb:H b=some (.tup (k.map kV)))(ry:cB y u):
  KT H (mZ kvs k y) (storedH xs k b u):=by
 have e:(kvs.any λkv=>decide (kv.1=k))=(atKey xs k).isSome:=by
  rw[Ds,(r.val k).isSome_eq,Option.isSome_map]
 unfold mZ storedH;rw[e]
 by_cases q:(atKey xs k).isSome=true
 ·rw[if_pos q,if_pos q];exact r.repl k ry
 ·rw[if_neg q,if_neg q];exact Paired.snoc r ⟨rfl,hb,ry⟩
theorem KT.keeps (r:KT H kvs xs)(ht:∀b ys,H b=some (.tup ys)->H' b=some (.tup ys)):KT H' kvs xs:=
 Paired.mapP r λ_ _ z=>⟨z.1,ht _ _ z.2.1,z.2.2⟩
section
variable {P:Program} {w:World} {H:Hp} {h:Heap} {a:Addr}
theorem Yf (ok:HOk P w H h)(e:Rd H a u):cL P w H h a u:=e.ok ok
theorem wG (ok:HOk P w H h)(e:Rd H a (.dK kvs)):kvs.length<=sizeLine/\(a == sysModules)=false/\∃vs,KV kvs vs/\h.DictOf (eK P w) a vs:=
 show cL P w H h a (.dK kvs) from Yf ok e
theorem Xy (ok:HOk P w H h)(e:H a=some (.dK kvs)):kvs.length<=sizeLine/\(a == sysModules)=false/\∃vs,KV kvs vs/\h.DictOf (eK P w) a vs:=wG ok (.inl e)
theorem rQ (ok:HOk P w H h)(e:H a=some (.tup (ks.map kV))):(tupleKind (eK P w)).is h ks a:=by
 obtain⟨_,its,r,o,h1,h2,n,h3⟩:=(show cL P w H h a (.tup (ks.map kV)) from ok a _ e)
 exact⟨o,its.toArray,n,h1,h2,h3,by simpa using zA r⟩
theorem wN (ok:HOk P w H h)(e:Rd H a (.dT kvs)):kvs.length<=sizeLine/\(a == sysModules)=false/\
  ∃xs,KT H kvs xs/\h.DictOfH (tupleKind (eK P w)) a xs:=by
 obtain⟨z,y,xs,r,o,es,ep,h1,h2,h3,h4,h5⟩:=(show cL P w H h a (.dT kvs) from Yf ok e)
 refine⟨z,y,xs,r,o,es,ep,h1,h2,h3,h4,λx hx=>?_,h5⟩;have all:∀{l:List (List Key × V)} {m:List (List Key × Addr × Value)},KT H l m->∀x∈m,(tupleKind (eK P w)).is h x.1 x.2.1:=by
  intro l m q
  induction q with
  |nil=>intro x hx;exact nomatch hx
  | @cons p q ps qs hq t ih=>
   intro x hx;rcases mem_cons.mp hx with e | hx
   ·subst e;exact rQ ok (by rw[<- hq.1];exact hq.2.1)
   ·exact ih x hx
 exact all r x hx
theorem qp5 (ok:HOk P w H h)(e:H a=some (.dT kvs)):kvs.length<=sizeLine/\(a == sysModules)=false/\
  ∃xs,KT H kvs xs/\h.DictOfH (tupleKind (eK P w)) a xs:=wN ok (.inl e)
end
def jK (H:Hp)(a:Addr)(y:V)(r:Option V):Prop:=
 (∃kvs k,Rd H a (.dK kvs)/\y=kV k/\r=rF kvs k)\/∃kvs k b,Rd H a (.dT kvs)/\y=.ref b/\H b=some (.tup (k.map kV))/\r=rF kvs k
def Ow (H:Hp)(a:Addr)(y v:V)(H':Hp):Prop:=
 (∃kvs k,H a=some (.dK kvs)/\y=kV k/\kvs.length < sizeLine/\H'=upd H a (.dK (mZ kvs k v)))\/
 ∃kvs k b,H a=some (.dT kvs)/\y=.ref b/\H b=some (.tup (k.map kV))/\kvs.length < sizeLine/\H'=upd H a (.dT (mZ kvs k v))
theorem jK.k {k:Key}(e:H a=some (.dK kvs)):jK H a (kV k) (rF kvs k):=.inl ⟨kvs,k,.inl e,rfl,rfl⟩
theorem Ow.k {k:Key}(e:H a=some (.dK kvs))(hl:kvs.length < sizeLine):Ow H a (kV k) v (upd H a (.dK (mZ kvs k v))):=.inl ⟨kvs,k,e,rfl,hl,rfl⟩
section
variable {X:Cx} {pins:List (Addr × Obj)} {σ:St} {H:Hp} {s:Shared} {a:Addr} {y v:V} {u r:Value} {o:Option V} {A:Around} {E:Value->Shared->Prop}
theorem Inv.big (I:Inv X pins σ H s):sysModules < s.heap.objs.size:=by
 have h:mainGlobals < s.heap.objs.size:=(I.mod.glob.keeps I.bk).lt;exact Nat.lt_trans ∅ h
theorem Nn (hu:A.units+1 < cLine)(I:Inv X pins σ H s)(g:jK H a y (some v))(ry:cB y u)(h:∀w' s',Inv X pins σ H s'->cB v w'->Q w' s'):
  wpAny (model X.prog X.w) A (getItem (.ref a) u) Q E s:=by
 rcases g with ⟨kvs,k,e,ey,l⟩ | ⟨kvs,k,b,e,ey,eb,l⟩
 ·subst ey;obtain⟨z,hd,vs,rel,dd⟩:=wG I.hok e;obtain⟨w',hw,rw'⟩:=jT.some_of (v:=v) (o:=valueAt vs k) (by rw[l];exact rel.val k);exact wpAny_getItem_of (yG ry) dd.mapOf hw (h w' _ (I.tok _) rw')
 ·subst ey
  cases (show u=Value.ref b from ry)
  obtain⟨z,hd,xs,rel,dd⟩:=wN I.hok e;obtain⟨w',hw,rw'⟩:=jT.some_of (v:=v) (o:=(atKey xs k).map (·.2)) (by rw[l];exact rel.val k);obtain⟨p,hp,hp2⟩:=Option.map_eq_some_iff.mp hw;refine wpAny_getItem_heap (tupleKind_room_in1 hu) (rQ I.hok eb) dd hp ?_;rw[hp2];exact h w' _ (I.tok _) rw'
theorem qs7 (hu:A.units+1 < cLine)(I:Inv X pins σ H s)(g:jK H a y o)(ry:cB y u)(h:∀s',Inv X pins σ H s'->Q (.bool o.isSome) s'):
  wpAny (model X.prog X.w) A (compareOp .In u (.ref a)) Q E s:=by
 rcases g with ⟨kvs,k,e,ey,l⟩ | ⟨kvs,k,b,e,ey,eb,l⟩
 ·subst ey;obtain⟨z,hd,vs,rel,dd⟩:=wG I.hok e;refine wpAny_in_of (yG ry) hd dd.mapOf ?_;rw[<- (rel.val k).isSome_eq,<- l];exact h _ (I.tok _)
 ·subst ey
  cases (show u=Value.ref b from ry)
  obtain⟨z,hd,xs,rel,dd⟩:=wN I.hok e;refine wpAny_in_heap (tupleKind_room_in1 hu) (rQ I.hok eb) hd dd ?_;have q:=(rel.val k).isSome_eq;rw[Option.isSome_map] at q;rw[<- q,<- l];exact h _ (I.tok _)
theorem Uq (hu:A.units+1 < cLine)(I:Inv X pins σ H s)(g:jK H a y o)(ry:cB y u)(h:∀s',Inv X pins σ H s'->Q (.bool (!o.isSome)) s'):
  wpAny (model X.prog X.w) A (compareOp .NotIn u (.ref a)) Q E s:=by
 rcases g with ⟨kvs,k,e,ey,l⟩ | ⟨kvs,k,b,e,ey,eb,l⟩
 ·subst ey;obtain⟨z,hd,vs,rel,dd⟩:=wG I.hok e;refine wpAny_notIn_of (yG ry) hd dd.mapOf ?_;rw[<- (rel.val k).isSome_eq,<- l];exact h _ (I.tok _)
 ·subst ey
  cases (show u=Value.ref b from ry)
  obtain⟨z,hd,xs,rel,dd⟩:=wN I.hok e;refine wpAny_notIn_heap (tupleKind_room_in1 hu) (rQ I.hok eb) hd dd ?_;have q:=(rel.val k).isSome_eq;rw[Option.isSome_map] at q;rw[<- q,<- l];exact h _ (I.tok _)
theorem Db (I:Inv X pins σ H s)(mu:Mut (H a))(hs:Heap.SameBut a s.heap h')(he:∃q,h'.get? a=some q)(new:cL X.prog X.w (upd H a ob) h' a ob):
  Inv X pins σ (upd H a ob) { s with heap:=h',toks:=t' }:=
 I.write (x:=a) (e:=a) mu (.inl rfl) (λb q hb z=>(hs.2 b hb).trans z) he new
theorem Of (z:kvs.length<=sizeLine)(hd:(a == sysModules)=false)(rel:KV kvs vs)(dd:h'.DictOf (eK P w) a vs):
  cL P w H' h' a (.dK kvs):=⟨z,hd,vs,rel,dd⟩
theorem Lw (hu:A.units+1 < cLine)(I:Inv X pins σ H s)(g:Ow H a y v H')(ry:cB y u)(rv:cB v r)(h:∀s',Inv X pins σ H' s'->Q .unit s'):
  wpAny (model X.prog X.w) A (setItem (.ref a) u r) Q E s:=by
 rcases g with ⟨kvs,k,e,ey,l,eH⟩ | ⟨kvs,k,b,e,ey,eb,l,eH⟩
 ·subst ey eH;obtain⟨z,hd,vs,rel,dd⟩:=Xy I.hok e;have hz:vs.length<=sizeLine:=by rw[<- rel.length];exact z
  have hl:(mZ kvs k v).length<=sizeLine:=by have:=mQ kvs k v;lia
  refine wpAny_setItem_pairs (hsz:=hz) (yG ry) dd λh' dd' hs=>h _ ?_;have he:∃q,h'.get? a=some q:=let ⟨q,_,_,hq,_⟩:=dd';⟨q,hq⟩
  exact Db I (by rw[e];exact True.intro) hs he (Of hl hd (rel.put k rv) dd')
 ·subst ey eH
  cases (show u=Value.ref b from ry)
  obtain⟨z,hd,xs,rel,dd⟩:=qp5 I.hok e;have hz:xs.length<=sizeLine:=by rw[<- Paired.length rel];exact z
  have hl:(mZ kvs k v).length<=sizeLine:=by have:=mQ kvs k v;lia
  refine wpAny_setItem_heap (hsz:=hz) (tupleKind_room_in1 hu) (rQ I.hok eb) dd λh' dd' hs=>h _ ?_;obtain⟨q,es,ep,hq,h2,h3,h4,_,h5⟩:=dd';refine Db I (by rw[e];exact True.intro) hs ⟨q,hq⟩ ⟨hl,hd,_,(rel.put k eb rv).keeps λc ys ec=>?_,q,es,ep,hq,h2,h3,h4,h5⟩;rw[aR (jP ec e (λz=>nomatch z))];exact ec
end
def qm2 (i:Expr):Prop:=∀ov iv,subscripted i false ov iv=operate [ov,iv] (getItem ov iv)
theorem Vp {T id:String}(hl:typeLookup (.type T) "__getitem__"=pure (some (.builtin id)))(hs:qm2 slice)(h:wpAny (model prog w) A (eval value env) (λo s₁=>wpAny (model prog w) A (eval slice env) (λi s₂=>s₂.TypeIs o T/\wpAny (model prog w) A (getItem o i) Q E s₂) E s₁) E s):
  wpAny (model prog w) A (eval (.Subscript value slice pos) env) Q E s:=by
 refine Subscript_ (wpAny_mono h (λo s₁ h₁=>wpAny_mono h₁ (λi s₂ h₂=>?_) λ_ _ x=>x) λ_ _ x=>x);obtain⟨hT,h₂⟩:=h₂;unfold subscriptTail;refine wpAny_bind ?_;rw[getitemInPython_of_ne hT.not_modules];refine wpAny_bind (wpAny_specialOf hT hl ?_);have fin:wpAny (model prog w) A (subscripted slice false o i) (λr s₃=>wpAny (model prog w) A (letTemporaryGo value o r >>= λ_=>pure r) Q E s₃) E s₂:=by
  rw[hs o i];exact wpAny_operating (wpAny_mono h₂ (λr s₃ h₃=>wpAny_bind (wpAny_letTemporaryGo (wpAny_pure h₃))) λ_ _ x=>x)
 first
  |exact wpAny_pure (wpAny_bind fin)
  |exact wpAny_bind (wpAny_pure (wpAny_bind fin))
  |exact wpAny_bind fin
theorem Df (I:Inv X pins σ H s)(g:jK H a y o):s.TypeIs (.ref a) "dict":=by
 rcases g with ⟨kvs,k,e,_,_⟩ | ⟨kvs,k,b,e,_,_,_⟩
 ·obtain⟨_,_,vs,_,dd⟩:=wG I.hok e;exact dd.typeIs
 ·obtain⟨_,_,xs,_,dd⟩:=wN I.hok e;exact dd.typeIs
def qj2 (td ty:TE):TE:=λσ H Q=>td σ H λx H1=>ty σ H1 λy H2=>∃a v,x=.ref a/\jK H2 a y (some v)/\Q v H2
def qs5 (ty td:TE):TE:=λσ H Q=>ty σ H λy H1=>td σ H1 λx H2=>∃a o,x=.ref a/\jK H2 a y o/\Q (.bl o.isSome) H2
def Wq (ty td:TE):TE:=λσ H Q=>ty σ H λy H1=>td σ H1 λx H2=>∃a o,x=.ref a/\jK H2 a y o/\Q (.bl (!o.isSome)) H2
def qo1 (td ty tv:TE):TS:=λD σ H=>tv σ H λv H1=>td σ H1 λx H2=>ty σ H2 λy H3=>∃a H4,x=.ref a/\Ow H3 a y v H4/\D.nx σ H4
section
variable {X:Cx} {o i e value:Expr} {pos pos' tpos:Pos} {td ty tv:TE}
theorem iR (hu:X.A.units+1 < cLine)(ho:PE X o td)(hi:PE X i ty)(hs:qm2 i):PE X (.Subscript o i pos) (qj2 td ty):=by
 intro pins s σ H Q I h;refine Vp PySem.F.slot_dict_getitem.lookup hs (thn (ho pins s σ H _ I h) λu s1 ⟨x,H1,I1,rx,q1⟩=>thn (hi pins s1 σ H1 _ I1 q1) λiv s2 ⟨y,H2,I2,ry,a,v,ex,g,q2⟩=>?_);subst ex;obtain rfl:u=Value.ref a:=rx;exact⟨Df I2 g,Nn hu I2 g ry λw' s3 I3 rw'=>⟨v,H2,I3,rw',q2⟩⟩
theorem qa9 (hu:X.A.units+1 < cLine)(hi:PE X i ty)(ho:PE X o td):PC X .In i o (qs5 ty td):=by
 intro pins s σ H Q I h;refine thn (hi pins s σ H _ I h) λiv s1 ⟨y,H1,I1,ry,q1⟩=>thn (ho pins s1 σ H1 _ I1 q1) λu s2 ⟨x,H2,I2,rx,a,ov,ex,g,q2⟩=>?_;subst ex;obtain rfl:u=Value.ref a:=rx;exact qs7 hu I2 g ry λs3 I3=>⟨.bl ov.isSome,H2,I3,rfl,q2⟩
theorem zM (hu:X.A.units+1 < cLine)(hi:PE X i ty)(ho:PE X o td):PC X .NotIn i o (Wq ty td):=by
 intro pins s σ H Q I h;refine thn (hi pins s σ H _ I h) λiv s1 ⟨y,H1,I1,ry,q1⟩=>thn (ho pins s1 σ H1 _ I1 q1) λu s2 ⟨x,H2,I2,rx,a,ov,ex,g,q2⟩=>?_;subst ex;obtain rfl:u=Value.ref a:=rx;exact Uq hu I2 g ry λs3 I3=>⟨.bl (!ov.isSome),H2,I3,rfl,q2⟩
theorem Um (hu:X.A.units+1 < cLine)(ho:PE X o td)(hi:PE X i ty)(hv:PE X value tv)(hs:swapsWith value (some (.Subscript o i pos')) pos.line X.env=pure false) :
  PS X (.Assign [.Subscript o i pos'] value pos) (qo1 td ty tv):=by
 intro pins s σ H D I h;refine wpAny_Assign_Subscript (thn (hv pins s σ H _ I h) λr s1 ⟨v,H1,I1,rv,q1⟩=>thn (ho pins s1 σ H1 _ I1 q1) λu s2 ⟨x,H2,I2,rx,q2⟩=>thn (hi pins s2 σ H2 _ I2 q2) λiv s3 ⟨y,H3,I3,ry,a,H4,ex,g,q3⟩=>?_) hs;subst ex;obtain rfl:u=Value.ref a:=rx;exact Lw hu I3 g ry rv λs4 I4=>⟨σ,H4,I4,q3⟩
end
theorem Ph (h:Heap)(hb:sysModules < h.objs.size):cL P w H (h.push { cls:=.type "dict",data:=.dict #[] }) h.objs.size (.dK []):=
 ⟨Nat.zero_le _,beq_eq_false_iff_ne.mpr (Ne.symm (Nat.ne_of_lt hb)),[],.nil,Heap.DictOf.new h⟩
def Fw:List (TE × TE)->St->Hp->(List (V × V)->Hp->Prop)->Prop
 | [],_,H,Q=>Q [] H
 | (tk,tv) :: r,σ,H,Q=>tk σ H λx H1=>tv σ H1 λy H2=>Fw r σ H2 λps H3=>Q ((x,y) :: ps) H3
abbrev VV:List (V × V)->List (Value × Value)->Prop:=Paired λp q=>cB p.1 q.1/\cB p.2 q.2
def PPs (X:Cx)(pos:Pos)(keys:List (Option Expr))(values:List Expr)(trs:List (TE × TE)):Prop:=
 ∀(pins:List (Addr × Obj)) (s:Shared) (σ:St) (H:Hp) (Q:List (V × V)->Hp->Prop),Inv X pins σ H s->Fw trs σ H Q->
  wpAny (model X.prog X.w) X.A (evalPairs (pairTrees keys values X.env pos)) (λvs s'=>∃ps H',Inv X pins σ H' s'/\VV ps vs/\Q ps H') X.xe s
theorem Iu:PPs X pos [] [] []:=λpins s σ H Q I h=>pairTrees_nil_walk ⟨[],H,I,.nil,h⟩
theorem mP (hk:PE X k tk)(hv:PE X v tv)(hr:PPs X pos ks vs trs):
  PPs X pos (some k :: ks) (v :: vs) ((tk,tv) :: trs):=λpins s σ H Q I h=>
 pairTrees_cons_walk (thn (hk pins s σ H _ I h) λu s1 ⟨x,H1,I1,rx,q1⟩=>thn (hv pins s1 σ H1 _ I1 q1) λw2 s2 ⟨y,H2,I2,ry,q2⟩=>
  thn (hr pins s2 σ H2 _ I2 q2) λws s3 ⟨ps,H3,I3,rel,q3⟩=>⟨(x,y) :: ps,H3,I3,.cons ⟨rx,ry⟩ rel,q3⟩)
def jQ (kvs more:List (Key × V)):List (Key × V):=more.foldl (λacc kv=>mZ acc kv.1 kv.2) kvs
theorem KV.merge:∀{more:List (Key × V)} {rs:List (Key × Value)} {kvs:List (Key × V)} {vs:List (Key × Value)},KV more rs->KV kvs vs->KV (jQ kvs more) (merged vs rs):=by
 intro more rs kvs vs r;unfold KV at r
 induction r generalizing kvs vs with
 |nil=>intro q;exact q
 | @cons p q ps qs h t ih=>
  intro r0;have e:KV (mZ kvs p.1 p.2) (stored vs q.1 q.2):=by
   have:=r0.put p.1 h.2;rw[<- h.1];exact this
  exact ih e
theorem oZ:∀(more kvs:List (Key × V)),(jQ kvs more).length<=kvs.length+more.length
 | [],kvs=>by show kvs.length<=kvs.length+0;lia
 |p :: r,kvs=>by
  have h1:=oZ r (mZ kvs p.1 p.2);have h2:=mQ kvs p.1 p.2;show (jQ (mZ kvs p.1 p.2) r).length<=_;rw[length_cons];lia
theorem yE:∀{kvs:List (Key × V)} {ws:List (Value × Value)},VV (kvs.map λkv=>(kV kv.1,kv.2)) ws->∃rs,Carries (eK P w) ws rs/\KV kvs rs
 | [],_,r=>by rw[map_nil] at r;cases r;exact⟨[],True.intro,.nil⟩
 |p :: kvs,_,r=>by
  rw[map_cons] at r
  cases r with
  | @cons a b as bs h t=>
   obtain⟨rs,c,q⟩:=yE (P:=P) (w:=w) t;obtain⟨b1,b2⟩:=b;exact⟨(p.1,b2) :: rs,⟨yG h.1,rfl,c⟩,.cons ⟨rfl,h.2⟩ q⟩
def qm0 (trs:List (TE × TE)):TE:=λσ H Q=>∀p,H p=none->Fw trs σ (upd H p (.dK [])) λps H2=>H2 p=some (.dK [])/\∃kvs:List (Key × V),ps=kvs.map (λkv=>(kV kv.1,kv.2))/\kvs.length<=15/\Q (.ref p) (upd H2 p (.dK (jQ [] kvs)))
theorem Ij (h:PPs X pos keys values trs)(hall:keys.all (·.isSome)=true)(hl:keys.length=values.length)(h0:keys≠[])(h15:keys.length<=15):PE X (.Dict keys values pos) (qm0 trs):=by
 intro pins s σ H Q I q;have hn:=I.hok.fresh (Nat.le_refl s.heap.objs.size);have I1:=I.laid (a:=s.heap.objs.size) (o:=.dK []) (h':=s.heap.push { cls:=.type "dict",data:=.dict #[] }) (t':=s.toks) (λ_ _ q=>Heap.get?_push_of_some _ q) (Nat.le_refl _) (Ph s.heap I.big);refine wpAny_Dict_walk (knd:=eK X.prog X.w) hall hl h0 h15 (thn (h pins _ σ _ _ I1 (q _ hn)) λws s2 ⟨ps,H2,I2,rel,e,kvs,ep,lk,q2⟩=>?_);subst ep;obtain⟨rs,c,rk⟩:=yE (P:=X.prog) (w:=X.w) rel;obtain⟨z,hd,vs0,r0,dd⟩:=Xy I2.hok e
 cases r0
 refine⟨rs,c,dd,λh' dd' hs=>⟨.ref s.heap.objs.size,_,?_,rfl,q2⟩⟩;have hz:(jQ [] kvs).length<=sizeLine:=by
  have h1:=oZ kvs [];rw[length_nil] at h1;rw[sizeLine_eq];lia
 have he:∃q,h'.get? s.heap.objs.size=some q:=let ⟨q,_,_,hq,_⟩:=dd';⟨q,hq⟩
 exact Db I2 (by rw[e];exact True.intro) hs he (Of hz hd (rk.merge .nil) dd')
structure M1 (X:Cx) (o:Expr) (m:Str) (apos:Pos) (e:Expr) (cpos:Pos):Prop where
 base:attributeBase o m X.env (eval o X.env)=eval o X.env
 few:((backTo cpos (starEach [e] X.env)).all (λx=>!x.1) && (backToKw cpos (keywordEach [] X.env)).all (λx=>x.1.isSome)
  && decide (([e]:List Expr).length+([]:List Keyword).length+(if ([]:List Keyword).isEmpty then 0 else 1) < 30))=true
 line:(apos.endLine == cpos.line)=true
 trees:backTo cpos (starEach [e] X.env)=[(false,eval e X.env)]
def IsD (H:Hp)(a:Addr):Prop:=(∃kvs,Rd H a (.dK kvs))\/∃kvs,Rd H a (.dT kvs)
theorem Zo (I:Inv X pins σ H s)(d:IsD H a):
  s.TypeIs (.ref a) "dict"/\(∀b,Value.ref a=.ref b->∃ob,s.heap.get? b=some ob/\ob.dict=none)/\(a == sysModules)=false:=by
 rcases d with ⟨kvs,e⟩ | ⟨kvs,e⟩
 ·obtain⟨_,hd,vs,_,dd⟩:=wG I.hok e;refine⟨dd.typeIs,λb q=>?_,hd⟩
  cases q
  obtain⟨ob,_,_,h1,h2,_⟩:=dd;exact⟨ob,h1,h2.2.1⟩
 ·obtain⟨_,hd,xs,_,dd⟩:=wN I.hok e;refine⟨dd.typeIs,λb q=>?_,hd⟩
  cases q
  obtain⟨ob,_,_,h1,h2,_⟩:=dd;exact⟨ob,h1,h2.2.1⟩
section
variable {X:Cx} {pins:List (Addr × Obj)} {σ:St} {H:Hp} {s:Shared} {a:Addr} {y d:V} {u r:Value} {o:Option V} {A:Around} {E:Value->Shared->Prop}
theorem Zx (hu:A.units+1 < cLine)(I:Inv X pins σ H s)(g:jK H a y o)(ry:cB y u)(h:∀w' s',Inv X pins σ H s'->cB (o.getD .non) w'->Q w' s'):
  wpAny (model X.prog X.w) A (call (.builtin "dict.get") [.ref a,u]) Q E s:=by
 rcases g with ⟨kvs,k,e,ey,l⟩ | ⟨kvs,k,b,e,ey,eb,l⟩
 ·subst ey;obtain⟨z,hd,vs,rel,dd⟩:=wG I.hok e;refine call_meetsIn PySem.F.slot_dict_get dd.typeIs PySem.F.entry_dict_get (PySem.F.args_dict_get_2 _ _) (meets_dict_get (eK X.prog X.w) a (yG ry) hd) ⟨_,dd.mapOf,h _ _ (I.tok _) ?_⟩;rw[l];exact(rel.val k).getD rfl
 ·subst ey
  cases (show u=Value.ref b from ry)
  obtain⟨z,hd,xs,rel,dd⟩:=wN I.hok e;refine call_meetsIn PySem.F.slot_dict_get dd.typeIs PySem.F.entry_dict_get (PySem.F.args_dict_get_2 _ _) (meetsH_dict_get (tupleKind (eK X.prog X.w)) a b hd) ⟨tupleKind_room_in1 hu,k,xs,rQ I.hok eb,dd,h _ _ (I.tok _) ?_⟩;rw[l];exact(rel.val k).getD rfl
end
def Zs (td ty:TE):TE:=λσ H Q=>td σ H λx H1=>∃a,x=.ref a/\IsD H1 a/\ty σ H1 λy H2=>∃o,jK H2 a y o/\Q (o.getD .non) H2
section
variable {X:Cx} {o e f:Expr} {apos cpos:Pos} {td ty tx:TE}
theorem Sc (hu:X.A.units+1 < cLine)(ho:PE X o td)(he:PE X e ty)(m:M1 X o "get" apos e cpos):PE X (.Call (.Attribute o "get" apos) [e] [] cpos) (Zs td ty):=by
 intro pins s σ H Q I h;refine wpAny_Call_method m.base m.few m.line PySem.F.plainAttrs_dict PySem.F.slot_dict_get PySem.F.type_dict_get (thn (ho pins s σ H _ I h) λu s1 ⟨x,H1,I1,rx,a,ex,d,q1⟩=>?_);subst ex;obtain rfl:u=Value.ref a:=rx;obtain⟨t1,t2,_⟩:=Zo I1 d;refine⟨t1,t2,?_⟩;rw[m.trees];refine Calls.callWith_builtin rfl (Calls.evalArgs_plain (Calls.spliced_cons (thn (he pins s1 σ H1 _ I1 q1) λiv s2 ⟨y,H2,I2,ry,ov,g,q2⟩=>Calls.spliced_nil ?_)));exact Zx hu I2 g ry λw' s3 I3 rw'=>⟨_,H2,I3,rw',q2⟩
end
theorem vU:∀ns:List Int,PyData.depthAll (ns.map PyData.int)<=1
 | []=>by simp[PyData.depthAll]
 |n :: r=>by
  have b:=vU r;simp only[map_cons,PyData.depthAll,PyData.depth];lia
theorem qh1 {K:Frag}{ns:List Int}(h1:SqL K H a (ns.map V.int))(h2:SqL K H b (ns.map V.int))(z:Q (.bl (!neg)) H):yN K neg (.ref a) (.ref b) H Q:=
 Au (d:=.list (ns.map PyData.int)) (.lst h1 (qY ns)) (.lst h2 (qY ns)) (vZ ns) (by have:=vU ns;simp only[PyData.depth];lia) z
theorem Fq.mod {K:Frag}(l:K.lookup a=some ⟨.type "tuple",d,.seq #[.int i t,.int j u] n,sl⟩)(H:Hp):Fq K H a (i,j):=
 .inr ⟨_,_,_,l,rfl,rfl,(zl9 2),.cons ⟨_,rfl⟩ (.cons ⟨_,rfl⟩ .nil)⟩
abbrev RD:=Kd × Int × Int × Mq.Q2
inductive Rts (K:Frag) (H:Hp):List V->List RD->Prop where
 |nil:Rts K H [] []
 |cons {t z:Addr} {k:Kd} {i j:Int} {p:Mq.Q2} {xs:List V} {ds:List RD} (h:SqT K H t [.str k.wd,.int i,.int j,.ref z]) (f:Fq K H z p) (q:Rts K H xs ds):Rts K H (.ref t :: xs) ((k,i,j,p) :: ds)
section
variable {K:Frag} {H H':Hp}
theorem Rts.same (e:aS H H'):∀{xs:List V} {ds:List RD},Rts K H xs ds->Rts K H' xs ds
 |_,_,.nil=>.nil
 |_,_,.cons h f q=>.cons (e.seqT h) (e.fq f) (Rts.same e q)
theorem Rts.length:∀{xs:List V} {ds:List RD},Rts K H xs ds->xs.length=ds.length
 |_,_,.nil=>rfl
 |_,_,.cons _ _ q=>by simp[Rts.length q]
theorem Rts.app:∀{xs ys:List V} {ds es:List RD},Rts K H xs ds->Rts K H ys es->Rts K H (xs++ys) (ds++es)
 |_,_,_,_,.nil,r=>r
 |_,_,_,_,.cons h f q,r=>.cons h f (Rts.app q r)
theorem Rts.at:∀{xs:List V} {ds:List RD} {q:Nat} {d:RD},Rts K H xs ds->ds[q]?=some d->∃t z,xs[q]?=some (.ref t)/\SqT K H t [.str d.1.wd,.int d.2.1,.int d.2.2.1,.ref z]/\Fq K H z d.2.2.2
 |_,_,_,_,.nil,h=>by simp at h
 |_,_,0,_,.cons h f _,e=>by simp at e;subst e;exact⟨_,_,rfl,h,f⟩
 |_,_,i+1,_,.cons _ _ q,e=>by simpa using Rts.at q (by simpa using e)
theorem Rts.upd (hl:H l=some (.lst ys)):∀{xs:List V} {ds:List RD},Rts K H xs ds->Rts K (L2.upd H l o) xs ds
 |_,_,.nil=>.nil
 |_,_,.cons h f q=>.cons (h.upd hl) (f.upd hl) (Rts.upd hl q)
end
def kQ (l:Addr)(H H':Hp):Prop:=∀b o,H b=some o->b≠l->H' b=some o
theorem aS.x (s:aS H H'):kQ l H H':=λb o h _=>s b o h
theorem kQ.write (a:kQ l H H1):kQ l H (upd H1 l o):=λc u h n=>by rw[aR n];exact a c u h n
section
variable {K:Frag} {H H':Hp} {l:Addr}
theorem kQ.seqT (hl:H l=some (.lst ys))(e:kQ l H H')(h:SqT K H a xs):SqT K H' a xs:=by
 rcases h with (h | ⟨u,h⟩) | h
 ·exact .inl (.inl (e _ _ h (jP h hl (λz=>by cases z))))
 ·exact .inl (.inr ⟨u,e _ _ h (jP h hl (λz=>by cases z))⟩)
 ·exact .inr h
theorem kQ.rts (hl:H l=some (.lst ys))(e:kQ l H H'):∀{xs:List V} {ds:List RD},Rts K H xs ds->Rts K H' xs ds
 |_,_,.nil=>.nil
 |_,_,.cons h f q=>.cons (e.seqT hl h) (e.seqT hl f) (kQ.rts hl e q)
end
theorem fpk:¬(("point_count":Str) = "kept"):=by decide +kernel
def qV (m:Int)(l:Addr):List (Str × V):=iZ "kept" (.ref l) (iZ "point_count" (.int m) [])
theorem En (m:Int)(l:Addr):(qV m l).lookup ("point_count":Str)=some (.int m):=by
 unfold qV;rw[cD,if_neg fpk,cD,if_pos rfl]
theorem kS (m:Int)(l:Addr):(qV m l).lookup ("kept":Str)=some (.ref l):=by
 unfold qV;rw[cD,if_pos rfl]
theorem cY (m:Int)(l:Addr){x:Str}(h1:¬x = "point_count")(h2:¬x = "kept"):(qV m l).lookup x=none:=by
 unfold qV;rw[cD,if_neg h2,cD,if_neg h1];rfl
def Mf (m:Int)(d:RD):Prop:=0<=d.2.1/\d.2.1 < m/\0<=d.2.2.1/\d.2.2.1 < m/\Mq.Low d.2.2.2/\(d.1=.pc->0 < d.2.2.2.1)/\Mq.Bd 1000 d.2.2.2
structure dW (CN:Addr) (K:Frag) (H:Hp) (n l:Addr) (m:Int) (ds:List RD):Prop where
 ob:∃dx,H n=some (.ins CN dx (qV m l))
 ls:∃ts,H l=some (.lst ts)/\Rts K H ts ds
theorem dW.same {K:Frag}(e:aS H H')(h:dW CN K H n l m ds):dW CN K H' n l m ds:=
 let ⟨⟨dx,a⟩,ts,b,c⟩:=h;⟨⟨dx,e _ _ a⟩,ts,e _ _ b,c.same e⟩
theorem dW.x {K:Frag}(hq:H q=some (.lst ys))(e:kQ q H H')(ne:l≠q)(h:dW CN K H n l m ds):dW CN K H' n l m ds:=
 let ⟨⟨dx,a⟩,ts,b,c⟩:=h;⟨⟨dx,e _ _ a (jP a hq (λz=>by cases z))⟩,ts,e _ _ b ne,e.rts hq c⟩
structure NT (K:Frag) (mg:Str->Option Value) (CN:Addr):Prop where
 cl:Cls K CN
 nP:jI K CN "point_count"
 nK:jI K CN "kept"
 t1:W.findIn K (.ref CN) "__class__"=some (some (.builtin "object.__class__"))
 t2:W.specialIn K (.builtin "object.__class__") "__get__"=some (some (.builtin "getset_descriptor.__get__"))
 t3:W.takesIn K (.builtin "object.__class__")=some true
 t4:W.mroIn K CN (.type "object")=some true
 mN:mg "Net"=some (.ref CN)
inductive mS (K:Frag) (CK:Kd->Addr) (vs:List V) (H:Hp) (Q:VK) (E:XK):Prop where
 |mk (t:Addr) (v s g z:V) (_:vs=[.ref t]) (_:SqT K H t [v,s,g,z]) (k:Kd):v=.str k.wd->qq4 CK H Q k s g z->mS K CK vs H Q E
inductive Iw (K:Frag) (vs:List V) (H:Hp) (Q:VK) (E:XK):Prop where
 |mk (a:Addr) (p:Mq.Q2):vs=[.ref a]->Fq K H a p->Mq.Low p->Q (.bl true) H->Iw K vs H Q E
inductive qf6 (K:Frag) (vs:List V) (H:Hp) (Q:VK) (E:XK):Prop where
 |mk (a:Addr) (p:Mq.Q2) (n:Nat):vs=[.ref a]->Fq K H a p->Mq.Low p->0 < p.1->Mq.Bd n p->n<=8000->Q (.bl true) H->qf6 K vs H Q E
inductive qe4 (K:Frag) (vs:List V) (H:Hp) (Q:VK) (E:XK):Prop where
 |mk (k:Kd) (z:Addr) (p:Mq.Q2):vs=[.str k.wd,.ref z]->Fq K H z p->Mq.Low p->(k=.pc->0 < p.1)->Mq.Bd 1000 p->Q .non H->qe4 K vs H Q E
inductive Co (CN:Addr) (vs:List V) (H:Hp) (Q:VK) (E:XK):Prop where
 |mk (n dx:Addr) (m:Int):vs=[.ref n,.int m]->H n=some (.ins CN dx [])->1<=m->m<=20->(∀l H',H l=none->(∀b o,H b=some o->b≠n->H' b=some o)->H' n=some (.ins CN dx (qV m l))->H' l=some (.lst [])->Q .non H')->Co CN vs H Q E
inductive jF (CN:Addr) (K:Frag) (vs:List V) (H:Hp) (Q:VK) (E:XK):Prop where
 |mk (n l:Addr) (m:Int) (ds:List RD):vs=[.ref n]->dW CN K H n l m ds->Q (.int m) H->jF CN K vs H Q E
inductive Im (CN:Addr) (K:Frag) (CK:Kd->Addr) (vs:List V) (H:Hp) (Q:VK) (E:XK):Prop where
 |mk (n l x z:Addr) (m:Int) (ds:List RD) (k:Kd) (i j:Int) (p:Mq.Q2):vs=[.ref n,.ref x]->dW CN K H n l m ds->Rw CK H x k (.int i) (.int j) (.ref z)->Fq K H z p->Mf m (k,i,j,p)->ds.length < 40->(∀H',kQ l H H'->dW CN K H' n l m (ds++[(k,i,j,p)])->Q (.int ds.length) H')->Im CN K CK vs H Q E
theorem rJ (P:St->Hp->Prop)(h1:∀X:St->Hp->Prop,(∀σ' H',P σ' H'->X σ' H')->(a1) { D with nx:=X } σ H)(h2:∀σ' H',P σ' H'->u D σ' H'):(kO a1 (u)) D σ H:=h1 _ h2
theorem qj7 (P:St->Hp->Prop)(h1:∀X:St->Hp->Prop,(∀σ' H',P σ' H'->X σ' H')->(kO a1 (a2)) { D with nx:=X } σ H)(h2:∀σ' H',P σ' H'->u D σ' H'):(kO a1 (kO a2 (u))) D σ H:=h1 _ h2
theorem qg9 (P:St->Hp->Prop)(h1:∀X:St->Hp->Prop,(∀σ' H',P σ' H'->X σ' H')->(kO a1 (kO a2 (a3))) { D with nx:=X } σ H)(h2:∀σ' H',P σ' H'->u D σ' H'):(kO a1 (kO a2 (kO a3 (u)))) D σ H:=h1 _ h2
theorem qk6 (P:St->Hp->Prop)(h1:∀X:St->Hp->Prop,(∀σ' H',P σ' H'->X σ' H')->(kO a1 (kO a2 (kO a3 (a4)))) { D with nx:=X } σ H)(h2:∀σ' H',P σ' H'->u D σ' H'):(kO a1 (kO a2 (kO a3 (kO a4 (u))))) D σ H:=h1 _ h2
theorem Lm (ns:List Int)(lo hi:Option Int):∃ms:List Int,mB (ns.map V.int) lo hi=ms.map V.int:=
 ⟨(ns.drop (HT.sIx (ns.map V.int).length 0 lo)).take (HT.sIx (ns.map V.int).length (ns.map V.int).length hi - HT.sIx (ns.map V.int).length 0 lo),by unfold mB;rw[map_take,map_drop]⟩
end L2
namespace Mq
def val (p:Q2):Rat:=(p.1:Rat) / (p.2:Rat)
theorem cZ {b:Int}(h:b≠0):(b:Rat)≠0:=λe=>h (Rat.intCast_inj.mp (by simpa using e))
theorem Hk {p:Q2}(hp:p.2≠0)(hb:b≠0)(h:p.1*b=t*p.2):val p=(t:Rat) / (b:Rat):=by
 unfold val;have h1:=cZ hp;have h2:=cZ hb;have h3:(p.1:Rat)*(b:Rat)=(t:Rat)*(p.2:Rat):=by rw[<- Rat.intCast_mul,<- Rat.intCast_mul,h]
 grind
theorem iP (hb:b≠0):val (red t b)=(t:Rat) / (b:Rat):=by
 have:=(hZ (t:=t) hb).pos;exact Hk () hb (Aa hb)
theorem Xk (hp:Low p)(hq:Low q)(h:val p=val q):p=q:=by
 refine Re hp hq ?_;have p1:=cZ (show p.2≠0 by have:=hp.pos;lia);have q1:=cZ (show q.2≠0 by have:=hq.pos;lia);unfold val at h;have:(p.1:Rat)*(q.2:Rat)=(q.1:Rat)*(p.2:Rat):=by grind
 rw[<- Rat.intCast_mul,<- Rat.intCast_mul] at this;exact Rat.intCast_inj.mp this
theorem mM (hp:1<=p.2)(hq:1<=q.2):val (jJ p q)=val p+val q:=by
 have p1:=cZ (show p.2≠0 by lia);have q1:=cZ (show q.2≠0 by lia);unfold jJ;rw[iP (gO hp hq),Rat.intCast_add,Rat.intCast_mul,Rat.intCast_mul,Rat.intCast_mul];unfold val;grind
theorem fB (hp:1<=p.2)(hq:1<=q.2):val (minus p q)=val p - val q:=by
 have p1:=cZ (show p.2≠0 by lia);have q1:=cZ (show q.2≠0 by lia);unfold minus;rw[iP (gO hp hq),Rat.intCast_sub,Rat.intCast_mul,Rat.intCast_mul,Rat.intCast_mul];unfold val;grind
theorem Ls (hp:1<=p.2)(hq:1<=q.2):val (tN p q)=val p*val q:=by
 have p1:=cZ (show p.2≠0 by lia);have q1:=cZ (show q.2≠0 by lia);unfold tN;rw[iP (gO hp hq),Rat.intCast_mul,Rat.intCast_mul];unfold val;grind
theorem Oj (hp:1<=p.2)(hq:1<=q.2)(h0:q.1≠0):val (tV p q)=val p / val q:=by
 have p1:=cZ (show p.2≠0 by lia);have q1:=cZ (show q.2≠0 by lia);have q2:=cZ h0;unfold tV;rw[iP (uQ hp h0),Rat.intCast_mul,Rat.intCast_mul];unfold val;grind
theorem tS:val (0,1)=0:=by unfold val;simp;grind
theorem Oh:val (1,1)=1:=by unfold val;simp;grind
theorem Vx (ht:0 < t)(hb:0 < b):0 < (red t b).1:=by
 have h1:=Aa (t:=t) (b:=b) ();have h2:=(hZ (t:=t) (b:=b) ()).pos;have h3:0 < t*(red t b).2:=Int.mul_pos ht ();rw[<- h1] at h3;exact Int.pos_of_mul_pos_left h3 ()
def Mg:List Rat->Rat
 | []=>0
 |x :: l=>x+Mg l
theorem zV:∀{l:List Q2} {p:Q2},1<=p.2->Pos l->val (l.foldl jJ p)=val p+Mg (l.map val)
 | [],p,_,_=>by simp[Mg];grind
 |q :: l,p,hp,h=>by
  have hq:=h q ⋯;rw[foldl_cons,zV (kI hp hq).pos (λf hf=>h f (mem_cons_of_mem _ hf)),mM hp hq];simp only[map_cons,Mg];grind
theorem Uu (h:Pos l):val (tot l)=Mg (l.map val):=by
 unfold tot;rw[zV ∅ h,tS];grind
def rs (n:Nat)(F:Nat->Rat):Rat:=match n with
 |0=>0
 |n+1=>rs n F+F n
theorem aU {F G:Nat->Rat}(h:∀i,i < n->F i=G i):rs n F=rs n G:=by
 induction n with
 |zero=>rfl
 |succ n ih=>simp only[rs];rw[ih (λi hi=>h i ()),h n ()]
theorem fD (n:Nat)(F G:Nat->Rat):rs n (λi=>F i+G i)=rs n F+rs n G:=by
 induction n with
 |zero=>simp[rs];grind
 |succ n ih=>simp only[rs];rw[ih];grind
theorem fQ (n:Nat)(c:Rat)(F:Nat->Rat):rs n (λi=>c*F i)=c*rs n F:=by
 induction n with
 |zero=>simp[rs]
 |succ n ih=>simp only[rs];rw[ih];grind
theorem rW (n:Nat)(F:Nat->Rat):rs n (λi=>- F i)=- rs n F:=by
 induction n with
 |zero=>simp[rs]
 |succ n ih=>simp only[rs];rw[ih];grind
theorem eO (n:Nat):rs n (λ_=>0)=0:=by
 induction n with
 |zero=>rfl
 |succ n ih=>simp only[rs];rw[ih];grind
theorem Hb (n k:Nat)(F:Nat->Rat):rs n (λi=>if k=i then F i else 0)=if k < n then F k else 0:=by
 induction n with
 |zero=>simp[rs]
 |succ n ih=>
  simp only[rs];rw[ih]
  by_cases h1:k < n
  ·rw[if_pos h1,if_neg (),if_pos ()];grind
  ·by_cases h2:k=n
   ·subst h2;rw[if_neg h1,if_pos rfl,if_pos ()];grind
   ·rw[if_neg h1,if_neg h2,if_neg ()];grind
abbrev z0:Q2:=(0,1)
abbrev Row:=Nat × Nat × Q2
theorem mL.pos (h:mL ls):Pos ls:=λp hp=>(h p hp).pos
def oP (L b:Int):Int:=Int.fdiv L (gc L b)*b
theorem lD (hL:1<=L)(hb:1<=b):1<=oP L b/\(∃j,oP L b=L*j)/\(∃k,oP L b=k*b/\1<=k)/\oP L b<=L*b:=by
 have gp:0 < gc L b:=vW ();have d1:gc L b ∣ L:=by unfold gc;exact Int.gcd_dvd_left ..
 have d2:gc L b ∣ b:=by unfold gc;exact Int.gcd_dvd_right ..
 obtain⟨k,hk⟩:=d1;obtain⟨j,hj⟩:=d2;have ek:Int.fdiv L (gc L b)=k:=fK () hk;have k1:1<=k:=by
  have:0 < gc L b*k:=by lia
  have:=Int.pos_of_mul_pos_right this ();lia
 unfold oP;rw[ek];refine⟨?_,⟨j,?_⟩,⟨k,rfl,k1⟩,?_⟩
 ·have:0 < k*b:=Int.mul_pos () ();lia
 ·generalize gc L b=g at *
  rw[hk,hj];grind
 ·have:k<=L:=by
   rw[hk];have:=Int.mul_le_mul_of_nonneg_right (show 1<=gc L b by lia) (show 0<=k by lia);lia
  exact Int.mul_le_mul_of_nonneg_right this ()
def dI (ps:List Q2):Int:=ps.foldl (λL p=>oP L p.2) 1
theorem Le (ps:List Q2)(p:Q2):dI (ps++[p])=oP (dI ps) p.2:=by unfold dI;rw[foldl_append];rfl
theorem oH {ps:List Q2}(h:ps[i]?=some p):dI (ps.take (i+1))=oP (dI (ps.take i)) p.2:=by
 rw[take_add_one,h];exact Le _ _
theorem pB (hp:Pos ps)(hb:∀p∈ps,Bd n p):∀i,i<=ps.length->1<=dI (ps.take i)/\B (1+n*i) (dI (ps.take i))/\∀p∈ps.take i,∃k,dI (ps.take i)=k*p.2
 |0,_=>⟨by show (1:Int)<=1;lia,show (1:Nat) < 2 ^ (1+n*0) by simp,λp h=>by simp at h⟩
 |i+1,hi=>by
  obtain⟨h1,h2,h3⟩:=pB hp hb i ();have e:ps[i]?=some ps[i]:=getElem?_eq_getElem ();have mem:ps[i]∈ps:=getElem_mem _;rw[oH e];obtain⟨l1,⟨j,l2⟩,⟨k,l3,l4⟩,l5⟩:=lD h1 (hp _ mem);refine⟨l1,?_,λp hpp=>?_⟩
  ·have:=h2.mul (hb _ mem).b;refine B.mono (n:=1+n*i+n) (this.le ?_) (by rw[Nat.mul_succ];lia);have h0:1<=ps[i].2:=hp _ mem;have:0<=dI (ps.take i)*ps[i].2:=Int.mul_nonneg () ();lia
  ·rw[take_add_one,e] at hpp;rcases mem_append.mp hpp with z | z
   ·obtain⟨q,hq⟩:=h3 p z;exact⟨q*j,by rw[l2,hq];grind⟩
   ·have:p=ps[i]:=by simpa using z
    rw[this];exact⟨k,l3⟩
theorem pQ (hp:Pos ps):1<=dI ps:=by
 have:∀(l:List Q2) (L:Int),1<=L->Pos l->1<=l.foldl (λL p=>oP L p.2) L:=λl=>by
  induction l with
  |nil=>intro L h _;exact h
  |cons p l ih=>intro L h q;exact ih _ (lD h (q p ⋯)).1 λx hx=>q x (mem_cons_of_mem _ hx)
 exact this ps 1 () hp
def yI (L:Int)(p:Q2):Int:=p.1*Int.fdiv L p.2
def iw (ps:List Q2):List Int:=ps.map (yI (dI ps))
theorem Tc (h:1<=p.2)(e:L=k*p.2):((yI L p:Int):Rat)=val p*(L:Rat):=by
 have e1:Int.fdiv L p.2=k:=fK () (by rw[e,Int.mul_comm]);have n:=cZ (show p.2≠0 by lia);unfold yI val;rw[e1,e,Rat.intCast_mul,Rat.intCast_mul];grind
theorem uZ (hp:Pos ps):∀p∈ps,∃k,dI ps=k*p.2:=λp hpp=>by
 have:∀(l:List Q2) (L:Int),1<=L->Pos l->(∃j,l.foldl (λL p=>oP L p.2) L=L*j)/\∀p∈l,∃k,l.foldl (λL p=>oP L p.2) L=k*p.2:=λl=>by
  induction l with
  |nil=>intro L h _;exact⟨⟨1,⋯⟩,λp h=>by simp at h⟩
  |cons q l ih=>
   intro L h hq;obtain⟨l1,⟨j,l2⟩,⟨k,l3,l4⟩,l5⟩:=lD h (hq q ⋯);obtain⟨⟨j2,i1⟩,i2⟩:=ih (oP L q.2) l1 λx hx=>hq x (mem_cons_of_mem _ hx);refine⟨⟨j*j2,by rw[foldl_cons,i1,l2];grind⟩,λp hp=>?_⟩;rcases mem_cons.mp hp with rfl | hp
   ·exact⟨k*j2,by rw[foldl_cons,i1,l3];grind⟩
   ·exact i2 p hp
 exact(this ps 1 () hp).2 p hpp
def eE (X:List (List Q2)):Prop:=∀row∈X,Pos row
theorem Pc (h:Pos row)(j:Nat):1<=(row.getD j z0).2:=by
 rw[getD_eq_getElem?_getD]
 cases e:row[j]? with
 |none=>exact Int.le_refl 1
 |some v=>exact h v (mem_of_getElem? e)
end Mq
open Mq (Hb Oh aU cZ dI eE eO fD fQ iP iw pB pQ uZ yI)
namespace L2
open PySem PySem.Spec PyProof.Rows
def Ite (K : Frag)(a : Addr) : It :=
  ⟨λi H => ∃ xs x, SqL K H a xs /\ xs[i]? = some x,
   λi H v H' => ∃ T x, v = .ref T /\ H T = none /\ H' = upd H T (.tup [.int (i : Int), x]) /\ ∀ xs, SqL K H a xs -> xs[i]? = some x,
   λi H => ∃ xs, SqL K H a xs /\ xs.length <= i⟩
def qb0 (e it l:Addr)(i:Nat)(h:Heap):Prop:=e≠it/\(∃old,IsEnum h e it (i:Int) old)/\h.IsListIter it l i
theorem Nh {K:Frag}(e it l:Addr):
  Oq P w K (.Tuple elts kk tpos) (Ite K l) [e,it] e (qb0 e it l) where
 mem:=by simp
 obj:=λi h st b hb=>by
  obtain⟨ne,⟨old,he⟩,⟨o1,e1,c1,d1⟩⟩:=st;simp only[mem_cons,not_mem_nil,or_false] at hb;rcases hb with rfl | rfl
  ·exact⟨_,he,λv q=>by cases q⟩
  ·exact⟨o1,e1,λv q=>by rw[d1] at q;cases q⟩
 keep:=λi h h' st k=>by
  obtain⟨ne,⟨old,he⟩,⟨o1,e1,c1,d1⟩⟩:=st;exact⟨ne,⟨old,k _ ⋯ _ he⟩,⟨o1,k _ ⋯ _ e1,c1,d1⟩⟩
 item:=by
  intro X hP hw hK hc i pins s σ H E I hf st hg;subst hP hw hK;obtain⟨ne,⟨old,he⟩,t1⟩:=st;obtain⟨xs,x,hx,ex⟩:=hg;obtain⟨its1,rv1,p1,z1⟩:=I.list hx;obtain⟨u1,hu1,ru1⟩:=rv1.get ex;refine wpAny_pyNext_enum_item he t1 p1.isList (x:=u1) (by simpa using hu1) ne λh' g1 g2 g3 g4 kk'=>?_;have hn:H s.heap.objs.size=none:=I.hok.fresh (Nat.le_refl _);have lt:∀b∈[e,it],b < s.heap.objs.size:=λb hb=>by
   simp only[mem_cons,not_mem_nil,or_false] at hb;obtain⟨o1,e1,_⟩:=t1;rcases hb with rfl | rfl
   ·exact Heap.lt_size he
   ·exact Heap.lt_size e1
  have I1:Inv X pins σ (upd H s.heap.objs.size (.tup [.int (i:Int),x])) { s with heap:=s.heap.push { cls:=.type "tuple",data:=.seq #[.int i s.toks,u1] },toks:=s.toks+1 }:=
   I.laid (t':=s.toks+1) (λb o e=>Heap.get?_push_of_some _ e) (Nat.le_refl _) (show cL X.prog X.w _ _ _ (.tup [.int (i:Int),x]) from ⟨zl9 2,[.int i s.toks,u1],.cons ⟨_,rfl⟩ (.cons ru1 .nil),IsTup.new _ _⟩)
  have hf1:∀b∈[e,it],oQ X pins (upd H s.heap.objs.size (.tup [.int (i:Int),x])) b:=λb hb=>⟨by rw[aR (Nat.ne_of_lt (lt b hb))];exact(hf b hb).1,(hf b hb).2⟩
  have k1:∀b o,b∉[e,it]->(s.heap.push { cls:=.type "tuple",data:=.seq #[.int i s.toks,u1] }).get? b=some o->h'.get? b=some o:=λb o nb e=>by
   simp only[mem_cons,not_mem_nil,or_false,not_or] at nb
   by_cases hb:b=s.heap.objs.size
   ·subst hb;rw[Heap.get?_push_size _ rfl] at e
    cases e
    exact g3
   ·have e0:s.heap.get? b=some o:=by rw[Heap.get?_push_ne _ _ _ hb] at e;exact e
    exact kk' b o nb.1 nb.2 e0
  have I2:Inv X pins σ (upd H s.heap.objs.size (.tup [.int (i:Int),x])) { s with heap:=h',toks:=s.toks+1 }:=Inv.turnedL (s:={ s with heap:=s.heap.push { cls:=.type "tuple",data:=.seq #[.int i s.toks,u1] },toks:=s.toks+1 }) (t':=s.toks+1) I1 k1 hf1;refine⟨_,rfl,wpAny_letOwnedTupleGo_enum (s:={ s with heap:=h',toks:=s.toks+1 }) g1 λh2 q1 q2=>?_⟩;have kz:∀b o,b≠e->h'.get? b=some o->h2.get? b=some o:=λb o nb e=>(q2.2 b nb).trans e;have I3:Inv X pins σ (upd H s.heap.objs.size (.tup [.int (i:Int),x])) { s with heap:=h2,toks:=s.toks+1 }:=Inv.turnedL (s:={ s with heap:=h',toks:=s.toks+1 }) (t':=s.toks+1) (fp:=[e]) I2 (λb o nb e=>kz b o (by simpa using nb) e) λb hb=>hf1 b (by simp at hb;simp[hb]);obtain⟨o3,e3,c3,d3⟩:=g2;refine⟨.ref s.heap.objs.size,_,I3,rfl,⟨_,x,rfl,hn,rfl,λxs' h1=>?_⟩,⟨ne,⟨_,q1⟩,⟨o3,kz _ _ ne.symm e3,c3,d3⟩⟩,λb hb=>(hf1 b hb).1⟩;rw[I.list_inj h1 hx];exact ex
 done:=by
  intro X hP hw hK hc i pins s σ H E I hf st hg;subst hP hw hK;obtain⟨ne,⟨old,he⟩,t1⟩:=st;obtain⟨xs,hx,hor⟩:=hg;obtain⟨its1,rv1,p1,z1⟩:=I.list hx;have l1':=rv1.length;refine wpAny_pyNext_enum_end (I.ok.hd hc) he t1 p1.isList (by simp;lia) λh' kk'=>⟨rfl,?_⟩
  refine I.turnedL (t':=s.toks) (λb o nb e=>?_) hf;simp only[mem_cons,not_mem_nil,or_false,not_or] at nb;exact kk' b o nb.2 e
 self:=λA i s Q E st h=>by
  obtain⟨ne,⟨old,he⟩,t1⟩:=st;exact wpAny_pyIter_enum he h
section
variable {X:Cx}
def qp9 (K:Frag)(ta:TA):TI:=λσ H R=>ta σ H λvs H1=>∃a,vs=[.ref a]/\(∃xs,SqL K H1 a xs)/\R (Ite K a) H1
theorem rB (hg:Gl X "enumerate")(hm:X.mg "enumerate"=none)(hv:bootBuiltins "enumerate"=some (.type "enumerate"))(ha:PA X [e1] ta)(hs:starEach [e1] X.env=(false,eval e1 X.env) :: starEach [] X.env:=by rfl)(hpl:(backTo pos (starEach [] X.env)).any (·.1)=false:=by rfl):PI X (.Tuple elts kk tpos) (.Call (.Name "enumerate" p) [e1] [] pos) (qp9 X.K ta):=by
 intro pins s σ H R I h;refine Call_ (jV I hg hm hv (PyProof.Rows.callWith_type1 (thn (ha pos pins s σ H _ I h) λus s1 ⟨vs,H1,I1,r1,q1⟩=>?_) hs hpl));obtain⟨a,rfl,⟨xs,hx⟩,q⟩:=q1;obtain⟨u,rfl,ra⟩:=zP r1
 cases (show u=Value.ref a from ra)
 obtain⟨its1,rv1,p1,z1⟩:=I1.list hx;have la:a < s1.heap.objs.size:=by obtain⟨o,e,_⟩:=p1.isList;exact Heap.lt_size e
 refine call_enumerate_list p1.isList λh' g1 g2 g3 kk'=>?_;refine wpAny_pyIter_enum g1 ?_;refine⟨s1.heap.objs.size+1,[s1.heap.objs.size+1,s1.heap.objs.size],_,Ite X.K a,H1,rfl,I1.kept (t':=s1.toks) kk',Nh _ _ a,⟨?_,⟨_,g1⟩,g2⟩,λc hc=>?_,q⟩
 ·exact Nat.succ_ne_self _
 ·have hle:s1.heap.objs.size<=c:=by
   simp only[mem_cons,not_mem_nil,or_false] at hc;rcases hc with rfl | rfl<;>first | exact Nat.le_add_right _ _ | exact Nat.le_refl _
  exact I1.fpOk hle (I1.hok.fresh hle)
theorem Dc {K:Frag}{g:TG}{tb:TS}{D:kL}(Pv:Nat->St->Hp->Prop)(h0:Pv 0 σ H)(hl:∀i σ H,i<=xs.length->Pv i σ H->SqL K H a xs)(hs:∀i x σ H T,xs[i]?=some x->Pv i σ H->H T=none->g (.ref T) σ (upd H T (.tup [.int (i:Int),x])) λσ2 H2=>tb { D with nx:=Pv (i+1),ct:=Pv (i+1),bk:=D.nx } σ2 H2)(hd:∀σ H,Pv xs.length σ H->D.nx σ H):
  ∃W:Nat->Nat->St->Hp->Prop,(∃m,W 0 m σ H)/\∀i m σ H,W i m σ H->
   ((Ite K a).stop i H/\D.nx σ H)\/((Ite K a).go i H/\∃N:St->Hp->Prop,(∀σ' H',N σ' H'->∃m',m' < m/\W (i+1) m' σ' H')/\∀x H',(Ite K a).yld i H x H'->g x σ H' λσ2 H2=>tb { D with nx:=N,ct:=N,bk:=D.nx } σ2 H2):=by
 refine⟨λi m σ H=>m=xs.length - i/\i<=xs.length/\Pv i σ H,⟨_,rfl,Nat.zero_le _,h0⟩,?_⟩;rintro i m σ H ⟨rfl,hi,p⟩;have qx:=hl i σ H hi p
 by_cases hlt:i < xs.length
 ·refine .inr ⟨⟨xs,xs[i],qx,by simp[hlt]⟩,Pv (i+1),λσ' H' p'=>⟨xs.length - (i+1),(),rfl,hlt,p'⟩,λv H' z=>?_⟩;obtain⟨T,x,rfl,hT,rfl,hh⟩:=z;exact hs i x σ H T (hh xs qx) p hT
 ·have e:i=xs.length:=by lia
  subst e;exact .inl ⟨⟨xs,qx,Nat.le_refl _⟩,hd σ H p⟩
theorem sM {K:Frag}(Pv:Nat->List V->Hp->Prop)(h0:Pv 0 [] (upd H1 D (.lst [])))(hl:∀i zs H,Pv i zs H->H D=some (.lst zs))(hx:∀i zs H,i<=xs.length->Pv i zs H->SqL K H a xs)(hs:∀i zs x H T,xs[i]?=some x->Pv i zs H->H T=none->∀(C:Nat->List V->Hp->Prop),(∀zs H,Pv (i+1) zs H->C (i+1) zs H)->Iy nl fr g tt te σ D C i zs (.ref T) (upd H T (.tup [.int (i:Int),x])))(hd:∀zs H,Pv xs.length zs H->Q (.ref D) H):
  Ev (Ite K a) nl fr g tt te σ D H1 Q:=by
 refine⟨λi m zs H=>m=xs.length - i/\i<=xs.length/\Pv i zs H,⟨_,rfl,Nat.zero_le _,h0⟩,?_⟩;rintro i m zs H ⟨rfl,hi,p⟩;refine⟨hl i zs H p,?_⟩;have qx:=hx i zs H hi p
 by_cases hlt:i < xs.length
 ·refine .inr ⟨⟨xs,xs[i],qx,by simp[hlt]⟩,λv H' z=>?_⟩;obtain⟨T,x,rfl,hT,rfl,hh⟩:=z;exact hs i zs x H T (hh xs qx) p hT (λj zs Hz=>∃m',m' < xs.length - i/\m'=xs.length - j/\j<=xs.length/\Pv j zs Hz) λzs Hz z=>⟨xs.length - (i+1),(),rfl,hlt,z⟩
 ·have e:i=xs.length:=by lia
  subst e;exact .inl ⟨⟨xs,qx,Nat.le_refl _⟩,hd zs H p⟩
end
end L2
namespace Shp
open PySem L2
theorem Ur (h:0 < b):dvr t b=gc t b:=by unfold dvr;rw[if_neg ()]
inductive Fmx (K:Frag) (D:Addr) (H:Hp):List V->List (List Mq.Q2)->Prop where
 |nil:Fmx K D H [] []
 |cons {u:Addr} {xs:List V} {ps:List Mq.Q2} {us:List V} {X:List (List Mq.Q2)} (ne:u≠D) (h:SqL K H u xs) (f:Fqs K H xs ps) (q:Fmx K D H us X):Fmx K D H (.ref u :: us) (ps :: X)
theorem Fmx.length:∀{xs:List V} {X:List (List Mq.Q2)},Fmx K D H xs X->xs.length=X.length
 |_,_,.nil=>rfl
 |_,_,.cons _ _ _ q=>by rw[length_cons,length_cons,q.length]
theorem Fmx.get:∀{xs:List V} {X:List (List Mq.Q2)} {i:Nat} {x:V},Fmx K D H xs X->xs[i]?=some x->∃u ys ps,x=.ref u/\X[i]?=some ps/\SqL K H u ys/\Fqs K H ys ps
 |_,_,0,_,.cons n h f q,e=>by simp at e;exact⟨_,_,_,e.symm,rfl,h,f⟩
 |_,_,i+1,_,.cons n h f q,e=>by simp at e;exact q.get e
def wh (row:List Mq.Q2):List Int × Int:=(iw row,dI row)
end Shp
namespace Mq
def skip (j k:Nat):Nat:=if k < j then k else k+1
def sgn (n:Nat):Rat:=if n % 2=0 then 1 else -1
theorem vJ (n:Nat):sgn (n+1)=- sgn n:=by
 unfold sgn;rcases Nat.mod_two_eq_zero_or_one n with h | h
 ·rw[if_neg (),if_pos h]
 ·rw[if_pos (),if_neg ()];grind
abbrev Mat:=Nat->Nat->Rat
def det:Nat->Mat->Rat
 |0,_=>1
 |n+1,M=>rs (n+1) λj=>sgn (n+j)*M n j*det n λi k=>M i (skip j k)
theorem fY (n:Nat)(M:Mat):det (n+1) M=rs (n+1) λj=>sgn (n+j)*M n j*det n λi k=>M i (skip j k):=rfl
theorem Ub (hk:k < n):skip j k < n+1:=by unfold skip;split<;>lia
theorem cH:∀{n:Nat} {M N:Mat},(∀i j,i < n->j < n->M i j=N i j)->det n M=det n N
 |0,_,_,_=>rfl
 |n+1,M,N,h=>by
  rw[fY,fY];exact aU λj hj=>by rw[h n j () hj,cH (N:=λi k=>N i (skip j k)) λi k hi hk=>h i _ () (Ub hk)]
theorem zN (h:j<=k):skip (k+1) (skip j l)=skip j (skip k l):=by
 unfold skip
 by_cases h1:l < j
 ·rw[if_pos h1,if_pos (show l < k by lia),if_pos (show l < k+1 by lia),if_pos h1]
 ·rw[if_neg h1]
  by_cases h2:l < k
  ·rw[if_pos h2,if_pos (show l+1 < k+1 by lia),if_neg h1]
  ·rw[if_neg h2,if_neg (show ¬l+1 < k+1 by lia),if_neg (show ¬l+1 < j by lia)]
theorem Vm (n m:Nat)(F:Nat->Nat->Rat):(rs n λi=>rs m λj=>F i j)=rs m λj=>rs n λi=>F i j:=by
 induction n with
 |zero=>simp only[rs];rw[eO]
 |succ n ih=>simp only[rs];rw[ih,<- fD]
theorem xQ (n:Nat)(F:Nat->Rat):rs (n+1) F=F 0+rs n λi=>F (i+1):=by
 induction n with
 |zero=>simp only[rs];grind
 |succ n ih=>rw[show rs (n+1+1) F=rs (n+1) F+F (n+1) from rfl,ih];simp only[rs];grind
theorem Ad (N:Nat)(X:Nat->Nat->Rat):(rs (N+1) λj=>rs N λk=>X j k)=(rs N λk=>rs N λj=>if k<=j then X (j+1) k else 0)+rs N λj=>rs N λk=>if j<=k then X j k else 0:=by
 have h1:(rs (N+1) λj=>rs N λk=>X j k)=(rs (N+1) λj=>rs N λk=>if k < j then X j k else 0)+rs (N+1) λj=>rs N λk=>if k < j then 0 else X j k:=by
  rw[<- fD];refine aU λj _=>?_;rw[<- fD];exact aU λk _=>by split<;>grind
 have h2:(rs (N+1) λj=>rs N λk=>if k < j then X j k else 0)=rs N λk=>rs N λj=>if k<=j then X (j+1) k else 0:=by
  rw[Vm];refine aU λk _=>?_;rw[xQ,if_neg ()];have:(rs N λi=>if k < i+1 then X (i+1) k else 0)=rs N λj=>if k<=j then X (j+1) k else 0:=aU λi _=>by
   by_cases c:k<=i
   ·rw[if_pos (),if_pos c]
   ·rw[if_neg (),if_neg c]
  rw[this];grind
 have h3:(rs (N+1) λj=>rs N λk=>if k < j then 0 else X j k)=rs N λj=>rs N λk=>if j<=k then X j k else 0:=by
  show (rs N λj=>rs N λk=>if k < j then 0 else X j k)+(rs N λk=>if k < N then 0 else X N k)=_;have:(rs N λk=>if k < N then 0 else X N k)=rs N λ_=>0:=aU λk hk=>by rw[if_pos hk]
  rw[this,eO];have e2:(rs N λj=>rs N λk=>if k < j then 0 else X j k)=rs N λj=>rs N λk=>if j<=k then X j k else 0:=aU λj _=>aU λk _=>by
   by_cases c:j<=k
   ·rw[if_neg (),if_pos c]
   ·rw[if_pos (),if_neg c]
  rw[e2];grind
 rw[h1,h2,h3]
theorem Hy (N:Nat)(X Y:Nat->Nat->Rat)(h:∀j k,j<=k->Y (k+1) j=- X j k)(h':∀j k,j<=k->X (k+1) j=- Y j k):(rs (N+1) λj=>rs N λk=>Y j k)=- rs (N+1) λj=>rs N λk=>X j k:=by
 rw[Ad,Ad];have e1:(rs N λk=>rs N λj=>if k<=j then Y (j+1) k else 0)=- rs N λj=>rs N λk=>if j<=k then X j k else 0:=by
  rw[<- rW];refine aU λk _=>?_;rw[<- rW];exact aU λj _=>by
   by_cases c:k<=j
   ·rw[if_pos c,if_pos c,h k j c]
   ·rw[if_neg c,if_neg c];grind
 have e2:(rs N λk=>rs N λj=>if k<=j then X (j+1) k else 0)=- rs N λj=>rs N λk=>if j<=k then Y j k else 0:=by
  rw[<- rW];refine aU λk _=>?_;rw[<- rW];exact aU λj _=>by
   by_cases c:k<=j
   ·rw[if_pos c,if_pos c,h' k j c]
   ·rw[if_neg c,if_neg c];grind
 rw[e1,e2];grind
def cG (a:Nat)(M:Mat):Mat:=λi=>if i=a then M (a+1) else if i=a+1 then M a else M i
theorem Ip (n:Nat)(M:Mat):det (n+2) M=rs (n+2) λj=>rs (n+1) λk=>(sgn (n+1+j)*M (n+1) j)*(sgn (n+k)*M n (skip j k)*det n λi l=>M i (skip j (skip k l))):=by
 rw[fY];exact aU λj _=>by rw[fY,<- fQ]
theorem pP (a b:Nat):sgn (a+1+b)=- sgn (a+b):=by rw[show a+1+b=a+b+1 by lia,vJ]
theorem zZ (n:Nat)(M:Mat):det (n+2) (cG n M)=- det (n+2) M:=by
 rw[Ip,Ip];refine Hy (n+1) _ _ (λj k hjk=>?_) (λj k hjk=>?_)
 ·show (sgn (n+1+(k+1))*cG n M (n+1) (k+1))*(sgn (n+j)*cG n M n (skip (k+1) j)*det n λi l=>cG n M i (skip (k+1) (skip j l)))=- ((sgn (n+1+j)*M (n+1) j)*(sgn (n+k)*M n (skip j k)*det n λi l=>M i (skip j (skip k l))));have a1:cG n M (n+1)=M n:=by unfold cG;rw[if_neg (),if_pos rfl]
  have a2:cG n M n=M (n+1):=by unfold cG;rw[if_pos rfl]
  have a3:(det n λi l=>cG n M i (skip (k+1) (skip j l)))=det n λi l=>M i (skip j (skip k l)):=cH λi l hi _=>by
   show cG n M i (skip (k+1) (skip j l))=M i (skip j (skip k l));rw[zN hjk];unfold cG;rw[if_neg (),if_neg ()]
  have a4:skip (k+1) j=j:=by unfold skip;rw[if_pos ()]
  have a5:skip j k=k+1:=by unfold skip;rw[if_neg ()]
  rw[a1,a2,a3,a4,a5,pP,pP,show n+(k+1)=n+k+1 by lia,vJ];generalize (det n λi l=>M i (skip j (skip k l)))=dd;generalize sgn (n+k)=s1;generalize sgn (n+j)=s2;grind
 ·show (sgn (n+1+(k+1))*M (n+1) (k+1))*(sgn (n+j)*M n (skip (k+1) j)*det n λi l=>M i (skip (k+1) (skip j l)))=- ((sgn (n+1+j)*cG n M (n+1) j)*(sgn (n+k)*cG n M n (skip j k)*det n λi l=>cG n M i (skip j (skip k l))));have a1:cG n M (n+1)=M n:=by unfold cG;rw[if_neg (),if_pos rfl]
  have a2:cG n M n=M (n+1):=by unfold cG;rw[if_pos rfl]
  have a3:(det n λi l=>M i (skip (k+1) (skip j l)))=det n λi l=>cG n M i (skip j (skip k l)):=cH λi l hi _=>by
   show M i (skip (k+1) (skip j l))=cG n M i (skip j (skip k l));rw[zN hjk];unfold cG;rw[if_neg (),if_neg ()]
  have a4:skip (k+1) j=j:=by unfold skip;rw[if_pos ()]
  have a5:skip j k=k+1:=by unfold skip;rw[if_neg ()]
  rw[a1,a2,a3,a4,a5,pP,pP,show n+(k+1)=n+k+1 by lia,vJ];generalize (det n λi l=>cG n M i (skip j (skip k l)))=dd;generalize sgn (n+k)=s1;generalize sgn (n+j)=s2;grind
theorem mY:∀(n a:Nat) (M:Mat),a+1 < n->det n (cG a M)=- det n M
 |0,_,_,h=>absurd h ()
 |n+1,a,M,h=>by
  by_cases e:a+1=n
  ·subst e;exact zZ a M
  ·rw[fY,fY,<- rW];refine aU λj hj=>?_;have e1:cG a M n j=M n j:=by unfold cG;rw[if_neg (),if_neg ()]
   have e2:(det n λi k=>cG a M i (skip j k))=- det n λi k=>M i (skip j k):=by
    rw[<- mY n a (λi k=>M i (skip j k)) ()];exact cH λi k _ _=>by
     show cG a M i (skip j k)=cG a (λi k=>M i (skip j k)) i k;unfold cG;split
     ·rfl
     ·split<;>rfl
   rw[e1,e2];grind
theorem Ab:∀(t n:Nat) (M:Mat) (i:Nat),i+t+1=n->(∀j,M i j=M n j)->det (n+1) M=0
 |0,n,M,i,h,e=>by
  have hn:n=i+1:=by lia
  subst hn;have s:=zZ i M;have c:det (i+2) (cG i M)=det (i+2) M:=cH λk j _ _=>by
   unfold cG
   by_cases k1:k=i
   ·rw[if_pos k1,k1];exact(e j).symm
   ·rw[if_neg k1]
    by_cases k2:k=i+1
    ·rw[if_pos k2,k2];exact e j
    ·rw[if_neg k2]
  rw[c] at s;grind
 |t+1,n,M,i,h,e=>by
  have s:=mY (n+1) i M ();have z:=Ab t n (cG i M) (i+1) () λj=>by
   have a1:cG i M (i+1)=M i:=by unfold cG;rw[if_neg (),if_pos rfl]
   have a2:cG i M n=M n:=by unfold cG;rw[if_neg (),if_neg ()]
   rw[a1,a2];exact e j
  rw[z] at s;grind
def Cd (n:Nat)(S:Mat)(x:Nat->Rat):Mat:=λi=>if i=n then x else S i
def F (n:Nat)(S:Mat)(c:Nat->Nat)(x:Nat->Rat):Rat:=det (n+1) (Cd n (λi j=>S i (c j)) λj=>x (c j))
theorem Mw (n:Nat)(S:Mat)(c:Nat->Nat)(x:Nat->Rat):F n S c x=rs (n+1) λj=>sgn (n+j)*x (c j)*det n λi k=>S i (c (skip j k)):=by
 unfold F;rw[fY];refine aU λj _=>?_;have e1:Cd n (λi j=>S i (c j)) (λj=>x (c j)) n j=x (c j):=by unfold Cd;rw[if_pos rfl]
 rw[e1,cH λi k hi _=>show Cd n (λi j=>S i (c j)) (λj=>x (c j)) i (skip j k)=S i (c (skip j k)) by unfold Cd;rw[if_neg ()]]
theorem qn5 (n:Nat)(S:Mat)(c:Nat->Nat)(x y:Nat->Rat)(l:Rat):F n S c (λj=>x j+l*y j)=F n S c x+l*F n S c y:=by
 rw[Mw,Mw,Mw,<- fQ,<- fD];exact aU λj _=>by grind
theorem La (n:Nat)(S:Mat)(c:Nat->Nat)(h:i < n):F n S c (S i)=0:=by
 unfold F;refine Ab (n - i - 1) n _ i () λj=>?_;unfold Cd;rw[if_neg (),if_pos rfl]
theorem Cf (n:Nat)(S:Mat)(c:Nat->Nat)(x:Nat->Rat)(h:∀j,j < n->x (c j)=0):F n S c x=x (c n)*det n λi j=>S i (c j):=by
 rw[Mw];show (rs n λj=>sgn (n+j)*x (c j)*det n λi k=>S i (c (skip j k)))+sgn (n+n)*x (c n)*(det n λi k=>S i (c (skip n k)))=_;have z:(rs n λj=>sgn (n+j)*x (c j)*det n λi k=>S i (c (skip j k)))=rs n λ_=>0:=aU λj hj=>by rw[h j hj];grind
 have s:sgn (n+n)=1:=by unfold sgn;rw[if_pos ()]
 have d:(det n λi k=>S i (c (skip n k)))=det n λi j=>S i (c j):=cH λi k _ hk=>by show S i (c (skip n k))=_;unfold skip;rw[if_pos hk]
 rw[z,eO,s,d];grind
theorem Dp {F:Nat->Rat}(h:∀i,i < n->∃z:Int,F i=(z:Rat)):∃z:Int,rs n F=(z:Rat):=by
 induction n with
 |zero=>exact⟨0,by simp[rs]⟩
 |succ n ih=>
  obtain⟨a,ha⟩:=ih λi hi=>h i ();obtain⟨b,hb⟩:=h n ();exact⟨a+b,by simp only[rs];rw[ha,hb,Rat.intCast_add]⟩
theorem Ni (n:Nat):∃z:Int,sgn n=(z:Rat):=by
 unfold sgn;split
 ·exact⟨1,⋯⟩
 ·exact⟨-1,by rw[Rat.intCast_neg];simp⟩
theorem sI (h:∃z:Int,a=(z:Rat))(k:∃z:Int,b=(z:Rat)):∃z:Int,a*b=(z:Rat):=by
 obtain⟨x,rfl⟩:=h;obtain⟨y,rfl⟩:=k;exact⟨x*y,by rw[Rat.intCast_mul]⟩
theorem zY:∀{n:Nat} {M:Mat},(∀i j,∃z:Int,M i j=(z:Rat))->∃z:Int,det n M=(z:Rat)
 |0,_,_=>⟨1,by simp[det]⟩
 |n+1,M,h=>by
  rw[fY];exact Dp λj _=>sI (sI (Ni _) (h n j)) (zY λi k=>h i _)
theorem Xh (h:∀i j,∃z:Int,S i j=(z:Rat))(hx:∀j,∃z:Int,x j=(z:Rat)):∃z:Int,F n S c x=(z:Rat):=by
 unfold F;refine zY λi j=>?_;unfold Cd;split
 ·exact hx _
 ·exact h i _
def Lin (Φ:(Nat->Rat)->Rat):Prop:=∀x y l,Φ (λj=>x j+l*y j)=Φ x+l*Φ y
theorem Lin.zero (h:Lin Φ):Φ (λ_=>0)=0:=by
 have:=h (λ_=>0) (λ_=>0) 1;have e:(λj:Nat=>(λ_=>(0:Rat)) j+1*(λ_=>(0:Rat)) j)=λ_=>0:=by funext j;show (0:Rat)+1*0=0;grind
 rw[e] at this;grind
theorem Lin.mul (h:Lin Φ)(l:Rat)(y:Nat->Rat):Φ (λj=>l*y j)=l*Φ y:=by
 have:=h (λ_=>0) y l;have e:(λj:Nat=>(λ_=>(0:Rat)) j+l*y j)=λj=>l*y j:=by funext j;show (0:Rat)+l*y j=_;grind
 rw[e,h.zero] at this;grind
theorem Lin.sum (h:Lin Φ)(a:Nat->Rat)(Y:Nat->Nat->Rat):∀n,Φ (λj=>rs n λk=>a k*Y k j)=rs n λk=>a k*Φ (Y k)
 |0=>h.zero
 |n+1=>by
  have:=h (λj=>rs n λk=>a k*Y k j) (Y n) (a n);simp only[rs];rw[this,Lin.sum h a Y n]
theorem Jv (n:Nat)(S:Mat)(c:Nat->Nat):Lin (F n S c):=λx y l=>qn5 n S c x y l
def Wh (x:Rat):Prop:=∃z:Int,x=(z:Rat)
theorem Wh.mul (h:Wh a)(k:Wh b):Wh (a*b):=sI h k
theorem Wh.neg (h:Wh a):Wh (-a):=by obtain⟨z,rfl⟩:=h;exact⟨-z,by rw[Rat.intCast_neg]⟩
theorem Wh.sub (h:Wh a)(k:Wh b):Wh (a - b):=by obtain⟨x,rfl⟩:=h;obtain⟨y,rfl⟩:=k;exact⟨x - y,by rw[Rat.intCast_sub]⟩
theorem Wh.one:Wh 1:=⟨1,⋯⟩
theorem Wh.nil:Wh 0:=⟨0,⋯⟩
structure Bar (m:Nat) (A E:Mat) (r col:Nat) (d:Rat) (c:Nat->Nat):Prop where
 dne:d≠0
 rm:r<=m
 rc:r<=col
 clt:∀j,j < r->c j < col
 cinj:∀i j,i < r->j < r->c i=c j->i=j
 wA:∀i j,Wh (A i j)
 wE:∀i j,i < m->Wh (E i j)
 i2:∀k j,k < r->j < r->E k (c j)=if j=k then d else 0
 i3:∀i x,r<=i->i < m->x < col->E i x=0
 i4:∀i x,i < m->d*A i x=(rs r λk=>A i (c k)*E k x)+if i < r then 0 else E i x
 i5:det r (λi j=>A i (c j))=d
 i6:∀Φ,Lin Φ->(∀s,s < r->Φ (A s)=0)->∀k,k < r->Φ (E k)=0
 full:r=col->∀j,j < r->c j=j
theorem Bar.start (wA:∀i j,Wh (A i j)):Bar m A A 0 0 1 id where
 dne:=by grind
 rm:=by lia
 rc:=by lia
 clt:=λj h=>absurd h ()
 cinj:=λi j h=>absurd h ()
 wA:=wA
 wE:=λi j _=>wA i j
 i2:=λk j h=>absurd h ()
 i3:=λi x _ _ h=>absurd h ()
 i4:=λi x _=>by simp only[rs];rw[if_neg ()];grind
 i5:=rfl
 i6:=λΦ _ _ k h=>absurd h ()
 full:=λ_ j h=>absurd h ()
section
variable {m:Nat} {A E:Mat} {r col:Nat} {d:Rat} {c:Nat->Nat}
theorem Bar.skip (h:Bar m A E r col d c)(hz:∀i,r<=i->i < m->E i col=0):Bar m A E r (col+1) d c:=
 { h with
  rc:=by have:=h.rc;lia
  clt:=λj hj=>by have:=h.clt j hj;lia
  i3:=λi x hi hm hx=>by
   by_cases e:x=col
   ·rw[e];exact hz i hi hm
   ·exact h.i3 i x hi hm ()
  full:=λe=>by have:=h.rc;lia }
def sw (p r i:Nat):Nat:=if i=r then p else if i=p then r else i
theorem zJ (hp:r<=p)(hi:i < r):sw p r i=i:=by unfold sw;rw[if_neg (),if_neg ()]
theorem Xw (hp:r<=p)(hi:r<=i):r<=sw p r i:=by unfold sw;split;exact hp;split<;>lia
theorem Bs (hp:p < m)(hr:r < m)(hi:i < m):sw p r i < m:=by unfold sw;split;exact hp;split<;>lia
theorem Qv (p r i:Nat):sw p r (sw p r i)=i:=by
 unfold sw
 by_cases h1:i=r
 ·rw[if_pos h1]
  by_cases h2:p=r
  ·rw[if_pos h2];lia
  ·rw[if_neg h2,if_pos rfl];exact h1.symm
 ·rw[if_neg h1]
  by_cases h2:i=p
  ·rw[if_pos h2,if_pos rfl];exact h2.symm
  ·rw[if_neg h2,if_neg h1,if_neg h2]
theorem Bar.swap (h:Bar m A E r col d c)(hp:r<=p)(hpm:p < m):Bar m (λi=>A (sw p r i)) (λi=>E (sw p r i)) r col d c:=
 { h with
  wA:=λi j=>h.wA _ j
  wE:=λi j hi=>h.wE _ j (Bs hpm () hi)
  i2:=λk j hk hj=>by
   show E (sw p r k) (c j)=_;rw[zJ hp hk];exact h.i2 k j hk hj
  i3:=λi x hi hm hx=>h.i3 _ x (Xw hp hi) (Bs hpm () hm) hx
  i4:=λi x hm=>by
   have e:(rs r λk=>A (sw p r i) (c k)*E (sw p r k) x)=rs r λk=>A (sw p r i) (c k)*E k x:=aU λk hk=>by rw[zJ hp hk]
   show d*A (sw p r i) x=(rs r λk=>A (sw p r i) (c k)*E (sw p r k) x)+_;rw[e,h.i4 _ x (Bs hpm () hm)];congr 1
   by_cases hi:i < r
   ·rw[zJ hp hi,if_pos hi]
   ·have:=Xw hp (show r<=i by lia);rw[if_neg (),if_neg hi]
  i5:=by
   rw[<- h.i5];exact cH λi j hi _=>by show A (sw p r i) (c j)=_;rw[zJ hp hi]
  i6:=λΦ hΦ hs k hk=>by
   show Φ (E (sw p r k))=0;rw[zJ hp hk];exact h.i6 Φ hΦ (λs hs'=>by have:=hs s hs';rwa [zJ hp hs'] at this) k hk }
def clr (E:Mat)(r col:Nat)(d:Rat):Mat:=λk x=>if k=r then E r x else (E r col*E k x - E k col*E r x) / d
def c1 (c:Nat->Nat)(r col:Nat):Nat->Nat:=λj=>if j=r then col else c j
theorem jB (c:Nat->Nat)(h:j < r):c1 c r col j=c j:=by unfold c1;rw[if_neg ()]
theorem oS (c:Nat->Nat)(r col:Nat):c1 c r col r=col:=by unfold c1;rw[if_pos rfl]
theorem Aw (E:Mat)(r col:Nat)(d:Rat):clr E r col d r=E r:=by funext x;unfold clr;rw[if_pos rfl]
theorem nI (E:Mat)(h:k≠r)(x:Nat):clr E r col d k x=(E r col*E k x - E k col*E r x) / d:=by unfold clr;rw[if_neg h]
theorem Bar.j2 (h:Bar m A E r col d c)(hr:r < m):∀k j,k < r+1->j < r+1->clr E r col d k (c1 c r col j)=if j=k then E r col else 0:=λk j hk hj=>by
 have hd:=h.dne
 by_cases kr:k=r
 ·subst kr;rw[Aw]
  by_cases jr:j=k
  ·rw[if_pos jr,jr,oS]
  ·rw[if_neg jr,jB c ()];exact h.i3 k _ (Nat.le_refl _) hr (h.clt j ())
 ·rw[nI E kr]
  by_cases jr:j=r
  ·subst jr;rw[oS,if_neg ()];grind
  ·rw[jB c (),h.i2 k j () (),h.i3 r (c j) (Nat.le_refl _) hr (h.clt j ())]
   by_cases e:j=k
   ·rw[if_pos e,if_pos e];grind
   ·rw[if_neg e,if_neg e];grind
theorem Bar.j4 (h:Bar m A E r col d c)(hr:r < m):∀i x,i < m->E r col*A i x=(rs (r+1) λk=>A i (c1 c r col k)*clr E r col d k x)+if i < r+1 then 0 else clr E r col d i x:=λi x hi=>by
 have hd:=h.dne;have q:=h.i4 i x hi;have q2:=h.i4 i col hi;show _=(rs r λk=>A i (c1 c r col k)*clr E r col d k x)+A i (c1 c r col r)*clr E r col d r x+_;rw[oS,Aw];have e:(rs r λk=>A i (c1 c r col k)*clr E r col d k x)=(E r col / d)*(rs r λk=>A i (c k)*E k x)+(-(E r x / d))*rs r λk=>A i (c k)*E k col:=by
  rw[<- fQ,<- fQ,<- fD];exact aU λk hk=>by rw[jB c hk,nI E ()];grind
 rw[e];generalize (rs r λk=>A i (c k)*E k x)=s1 at q ⊢;generalize (rs r λk=>A i (c k)*E k col)=s2 at q2 ⊢
 by_cases h1:i < r
 ·rw[if_pos h1] at q q2;rw[if_pos ()];have:s1=d*A i x:=by grind
  have:s2=d*A i col:=by grind
  subst s1 s2;grind
 ·rw[if_neg h1] at q q2;have a1:s1=d*A i x - E i x:=by grind
  have a2:s2=d*A i col - E i col:=by grind
  subst a1 a2
  by_cases h2:i=r
  ·subst h2;rw[if_pos ()];grind
  ·rw[if_neg (),nI E h2];grind
theorem Bar.j6 (h:Bar m A E r col d c)(hr:r < m):∀Φ,Lin Φ->(∀s,s < r+1->Φ (A s)=0)->∀k,k < r+1->Φ (clr E r col d k)=0:=λΦ hΦ hs k hk=>by
 have hd:=h.dne;have z:=h.i6 Φ hΦ λs hs'=>hs s ();have zr:Φ (E r)=0:=by
  have e:E r=λx=>(λx=>d*A r x) x+(-1)*(λx=>rs r λk=>A r (c k)*E k x) x:=by
   funext x
   have:=h.i4 r x hr;rw[if_neg ()] at this;show E r x=d*A r x+(-1)*(rs r λk=>A r (c k)*E k x)
   grind
  rw[e,hΦ,hΦ.mul,hΦ.sum,hs r ()];have:(rs r λk=>A r (c k)*Φ (E k))=rs r λ_=>0:=aU λk hk=>by rw[z k hk];grind
  rw[this,eO];grind
 by_cases kr:k=r
 ·rw[kr,Aw];exact zr
 ·have e:clr E r col d k=λx=>(λx=>(E r col / d)*E k x) x+(-(E k col / d))*E r x:=by
   funext x
   rw[nI E kr];show _=(E r col / d)*E k x+(-(E k col / d))*E r x;grind
  rw[e,hΦ,hΦ.mul,z k (),zr];grind
theorem Bar.j5 (h:Bar m A E r col d c)(hr:r < m):det (r+1) (λi j=>A i (c1 c r col j))=E r col:=by
 have hd:=h.dne;have e1:det (r+1) (λi j=>A i (c1 c r col j))=F r A (c1 c r col) (A r):=by
  unfold F;exact cH λi j hi _=>by
   unfold Cd
   by_cases e:i=r
   ·rw[if_pos e,e]
   ·rw[if_neg e]
 have hΦ:=Jv r A (c1 c r col);have z:=h.i6 _ hΦ λs hs=>La r A (c1 c r col) hs;have eA:A r=λx=>(λx=>(1 / d)*E r x) x+(1 / d)*(λx=>rs r λk=>A r (c k)*E k x) x:=by
  funext x
  have:=h.i4 r x hr;rw[if_neg ()] at this;show A r x=(1 / d)*E r x+(1 / d)*(rs r λk=>A r (c k)*E k x)
  grind
 have zs:(rs r λk=>A r (c k)*F r A (c1 c r col) (E k))=0:=by
  have:(rs r λk=>A r (c k)*F r A (c1 c r col) (E k))=rs r λ_=>0:=aU λk hk=>by rw[z k hk];grind
  rw[this,eO]
 have fb:=Cf r A (c1 c r col) (E r) λj hj=>by rw[jB c hj];exact h.i3 r _ (Nat.le_refl _) hr (h.clt j hj)
 have dd:(det r λi j=>A i (c1 c r col j))=d:=by rw[<- h.i5];exact cH λi j _ hj=>by show A i (c1 c r col j)=_;rw[jB c hj]
 rw[oS,dd] at fb;rw[e1,eA,hΦ,hΦ.mul,hΦ.sum,zs,fb];grind
theorem Bar.wV (h:Bar m A E r col d c)(hr:r < m)(he:E r col≠0):∀i x,i < m->Wh (clr E r col d i x):=by
 have j2:=h.j2 hr;have j4:=h.j4 hr;have j5:=h.j5 hr;have j6:=h.j6 hr;have cin:∀i j,i < r+1->j < r+1->c1 c r col i=c1 c r col j->i=j:=λi j hi hj e=>by
  by_cases a:i=r
  ·by_cases b:j=r
   ·lia
   ·rw[a,oS,jB c ()] at e;have:=h.clt j ();lia
  ·by_cases b:j=r
   ·rw[b,oS,jB c ()] at e;have:=h.clt i ();lia
   ·rw[jB c (),jB c ()] at e;exact h.cinj i j () () e
 have top:∀k x,k < r+1->Wh (clr E r col d k x):=λk x hk=>by
  by_cases hx:∃j,j < r+1/\x=c1 c r col j
  ·obtain⟨j,hj,rfl⟩:=hx;rw[j2 k j hk hj];split
   ·exact h.wE r col hr
   ·exact Wh.nil
  ·let c2:Nat->Nat:=λj=>if j=r+1 then x else c1 c r col j
   let u:Nat->Rat:=λj=>if j=c1 c r col k then 1 else 0
   have hΦ:=Jv (r+1) A c2;have z:=j6 _ hΦ (λs hs=>La (r+1) A c2 hs) k hk;have eu:u=λy=>(λy=>u y+(-(1 / E r col))*clr E r col d k y) y+(1 / E r col)*clr E r col d k y:=by
    funext y
    show u y=u y+(-(1 / E r col))*clr E r col d k y+(1 / E r col)*clr E r col d k y;grind
   have fb:=Cf (r+1) A c2 (λy=>u y+(-(1 / E r col))*clr E r col d k y) λj hj=>by
    have ec:c2 j=c1 c r col j:=by show (if j=r+1 then x else c1 c r col j)=_;rw[if_neg ()]
    rw[ec];show u (c1 c r col j)+(-(1 / E r col))*clr E r col d k (c1 c r col j)=0;rw[j2 k j hk hj];show (if c1 c r col j=c1 c r col k then (1:Rat) else 0)+_=0
    by_cases e:j=k
    ·rw[if_pos e,if_pos (by rw[e])];grind
    ·rw[if_neg e,if_neg (λq=>e (cin j k hj hk q))];grind
   have dd:(det (r+1) λi j=>A i (c2 j))=E r col:=by
    rw[<- j5];exact cH λi j _ hj=>by show A i (if j=r+1 then x else c1 c r col j)=_;rw[if_neg ()]
   have ux:u x=0:=by show (if x=c1 c r col k then (1:Rat) else 0)=0;rw[if_neg (λq=>hx ⟨k,hk,q⟩)]
   have cx:c2 (r+1)=x:=by show (if r+1=r+1 then x else _)=x;rw[if_pos rfl]
   rw[dd,cx] at fb;have val:F (r+1) A c2 u=- clr E r col d k x:=by
    rw[eu,hΦ,z,fb];show (u x+(-(1 / E r col))*clr E r col d k x)*E r col+_=_;rw[ux];grind
   have wh:Wh (F (r+1) A c2 u):=Xh h.wA λj=>by
    show Wh (if j=c1 c r col k then (1:Rat) else 0);split
    ·exact Wh.one
    ·exact Wh.nil
   rw[val] at wh;have:=wh.neg
   rwa [show - - clr E r col d k x=clr E r col d k x by grind] at this
 intro i x hi
 by_cases h1:i < r+1
 ·exact top i x h1
 ·have q:=j4 i x hi;rw[if_neg h1] at q;have e:clr E r col d i x=E r col*A i x - rs (r+1) λk=>A i (c1 c r col k)*clr E r col d k x:=by grind
  rw[e];exact Wh.sub (Wh.mul (h.wE r col hr) (h.wA i x)) (Dp λk hk=>Wh.mul (h.wA _ _) (top k x hk))
theorem Bar.clear (h:Bar m A E r col d c)(hr:r < m)(he:E r col≠0):Bar m A (clr E r col d) (r+1) (col+1) (E r col) (c1 c r col) where
 dne:=he
 rm:=hr
 rc:=by have:=h.rc;lia
 clt:=λj hj=>by
  by_cases e:j=r
  ·rw[e,oS];lia
  ·rw[jB c ()];have:=h.clt j ();lia
 cinj:=λi j hi hj e=>by
  by_cases a:i=r
  ·by_cases b:j=r
   ·lia
   ·rw[a,oS,jB c ()] at e;have:=h.clt j ();lia
  ·by_cases b:j=r
   ·rw[b,oS,jB c ()] at e;have:=h.clt i ();lia
   ·rw[jB c (),jB c ()] at e;exact h.cinj i j () () e
 wA:=h.wA
 wE:=λi j hi=>h.wV hr he i j hi
 i2:=h.j2 hr
 i3:=λi x hi hm hx=>by
  rw[nI E ()]
  by_cases e:x=col
  ·rw[e];grind
  ·rw[h.i3 i x () hm (),h.i3 r x (Nat.le_refl _) hr ()];grind
 i4:=h.j4 hr
 i5:=h.j5 hr
 i6:=h.j6 hr
 full:=λe j hj=>by
  by_cases a:j=r
  ·rw[a,oS];lia
  ·rw[jB c ()];exact h.full () j ()
end
def ent (R:List (List Int))(i x:Nat):Int:=(R.getD i []).getD x 0
def at2 (R:List (List Int)):Mat:=λi x=>((ent R i x:Int):Rat)
theorem Bar.congr (h:Bar m A E r col d c)(e:∀i,i < m->E i=E' i):Bar m A E' r col d c:=
 { h with
  wE:=λi j hi=>by rw[<- e i hi];exact h.wE i j hi
  i2:=λk j hk hj=>by rw[<- e k (by have:=h.rm;lia)];exact h.i2 k j hk hj
  i3:=λi x hi hm hx=>by rw[<- e i hm];exact h.i3 i x hi hm hx
  i4:=λi x hm=>by
   rw[h.i4 i x hm];congr 1
   ·exact aU λk hk=>by rw[e k (by have:=h.rm;lia)]
   ·rw[e i hm]
  i6:=λΦ hΦ hs k hk=>by rw[<- e k (by have:=h.rm;lia)];exact h.i6 Φ hΦ hs k hk }
theorem Pf (n:Nat):∀(t p r:Nat) (A:Mat),p=r+t+1->p < n->det n (λi=>A (sw p r i))=- det n A
 |0,p,r,A,h,hp=>by
  subst h;rw[<- mY n r A ()];exact cH λi j _ _=>by
   show A (sw (r+0+1) r i) j=cG r A i j;unfold sw cG
   by_cases h1:i=r
   ·rw[if_pos h1,if_pos h1]
   ·rw[if_neg h1,if_neg h1]
    by_cases h2:i=r+1
    ·rw[if_pos (),if_pos h2]
    ·rw[if_neg (),if_neg h2]
 |t+1,p,r,A,h,hp=>by
  have ih:=Pf n t (r+t+1) r (cG (r+t+1) A) rfl ();have s1:=mY n (r+t+1) A ();have s2:=mY n (r+t+1) (λi=>cG (r+t+1) A (sw (r+t+1) r i)) ();have e:det n (λi=>A (sw p r i))=det n (cG (r+t+1) (λi=>cG (r+t+1) A (sw (r+t+1) r i))):=cH λi j _ _=>by
   subst h;show A (sw (r+(t+1)+1) r i) j=cG (r+t+1) (λi=>cG (r+t+1) A (sw (r+t+1) r i)) i j
   by_cases h1:i=r
   ·have a1:sw (r+(t+1)+1) r i=r+t+1+1:=by unfold sw;rw[if_pos h1];lia
    have a2:sw (r+t+1) r i=r+t+1:=by unfold sw;rw[if_pos h1]
    rw[a1];unfold cG;rw[if_neg (),if_neg ()];dsimp only;rw[a2,if_pos rfl]
   ·by_cases h2:i=r+t+1+1
    ·have a1:sw (r+(t+1)+1) r i=r:=by unfold sw;rw[if_neg h1,if_pos ()]
     have a2:sw (r+t+1) r (r+t+1)=r:=by unfold sw;rw[if_neg (),if_pos rfl]
     rw[a1];unfold cG;rw[if_neg (),if_pos h2];dsimp only;rw[a2,if_neg (),if_neg ()]
    ·have a1:sw (r+(t+1)+1) r i=i:=by unfold sw;rw[if_neg h1,if_neg ()]
     rw[a1]
     by_cases h3:i=r+t+1
     ·have a2:sw (r+t+1) r (r+t+1+1)=r+t+1+1:=by unfold sw;rw[if_neg (),if_neg ()]
      unfold cG;rw[if_pos h3];dsimp only;rw[a2,if_neg (),if_pos rfl,h3]
     ·have a2:sw (r+t+1) r i=i:=by unfold sw;rw[if_neg h1,if_neg h3]
      unfold cG;rw[if_neg h3,if_neg h2];dsimp only;rw[a2,if_neg h3,if_neg h2]
  rw[e,s2,ih,s1];grind
def fU (R:List (List Int))(p r:Nat):List (List Int):=(R.set p (R.getD r [])).set r (R.getD p [])
theorem qi1 (R:List (List Int))(p r:Nat):(fU R p r).length=R.length:=by unfold fU;simp
theorem Ap (hp:p < R.length)(hr:r < R.length)(i:Nat):(fU R p r).getD i []=R.getD (sw p r i) []:=by
 unfold fU sw;rw[getD_eq_getElem?_getD]
 by_cases h1:i=r
 ·rw[if_pos h1,h1,getElem?_set_self (by simpa using hr)];rfl
 ·rw[if_neg h1,getElem?_set_ne (Ne.symm h1)]
  by_cases h2:i=p
  ·rw[if_pos h2,h2,getElem?_set_self hp];rfl
  ·rw[if_neg h2,getElem?_set_ne (Ne.symm h2),getD_eq_getElem?_getD]
def gN (upper row:List Int)(col:Nat)(dv:Int):List Int:=zipWith (λhere above=>Int.fdiv (upper.getD col 0*here - row.getD col 0*above) dv) row upper
def cJ (R:List (List Int))(r col:Nat)(dv:Int):List (List Int):=R.mapIdx λi row=>if i=r then row else gN (R.getD r []) row col dv
theorem Ki (R:List (List Int))(r col:Nat)(dv:Int):(cJ R r col dv).length=R.length:=by unfold cJ;simp
theorem qT (hi:i < R.length)(r col:Nat)(dv:Int):(cJ R r col dv).getD i []=if i=r then R.getD i [] else gN (R.getD r []) (R.getD i []) col dv:=by
 unfold cJ;rw[getD_eq_getElem?_getD,getElem?_mapIdx,getElem?_eq_getElem hi];have:R.getD i []=R[i]:=by rw[getD_eq_getElem?_getD,getElem?_eq_getElem hi];rfl
 rw[this];rfl
structure SI (m w:Nat) (A0:Mat) (R:List (List Int)) (r col:Nat) (d sg:Int):Prop where
 len:R.length=m
 wid:∀i,i < m->(R.getD i []).length=w
 bar:∃A c,Bar m A (at2 R) r col (d:Rat) c/\det m A=(sg:Rat)*det m A0
 one:sg=1\/sg=-1
theorem SI.start (h:R.length=m)(hw:∀i,i < m->(R.getD i []).length=w):SI m w (at2 R) R 0 0 1 1:=
 ⟨h,hw,⟨at2 R,id,by
  have:=Bar.start (m:=m) (A:=at2 R) λi j=>⟨_,rfl⟩
  simpa using this,⋯⟩,.inl rfl⟩
theorem SI.skip (h:SI m w A0 R r col d sg)(hz:∀i,r<=i->i < m->ent R i col=0):SI m w A0 R r (col+1) d sg:=by
 obtain⟨A,c,B,e⟩:=h.bar;exact⟨h.len,h.wid,⟨A,c,B.skip λi h1 h2=>by unfold at2;rw[hz i h1 h2];simp,e⟩,h.one⟩
theorem SI.swap (h:SI m w A0 R r col d sg)(hp:r < p)(hm:p < m):SI m w A0 (fU R p r) r col d (-sg):=by
 obtain⟨A,c,B,e⟩:=h.bar;have hl:=h.len;have gd:=λi=>Ap (R:=R) (p:=p) (r:=r) () () i;refine⟨(qi1 R p r).trans hl,λi hi=>?_,⟨_,c,(B.swap () hm).congr λi hi=>?_,?_⟩,?_⟩
 ·rw[gd i];exact h.wid _ (Bs hm () hi)
 ·funext x
  show (((R.getD (sw p r i) []).getD x 0:Int):Rat)=((((fU R p r).getD i []).getD x 0:Int):Rat)
  rw[gd i]
 ·rw[Pf m (p - r - 1) p r A () hm,e,Rat.intCast_neg];grind
 ·rcases h.one with z | z
  ·right;lia
  ·left;lia
theorem mD {l:List Int}(h:x < l.length):l[x]?=some (l.getD x 0):=by rw[getD_eq_getElem?_getD,getElem?_eq_getElem h];rfl
theorem yD {l:List Int}(h:l.length<=x):l.getD x 0=0:=by rw[getD_eq_getElem?_getD,getElem?_eq_none h];rfl
theorem Jm (h:SI m w A0 R r col d sg)(B:Bar m A (at2 R) r col (d:Rat) c)(hr:r < m)(hc:col < w)(he:ent R r col≠0)(hi:i < m)(hir:i≠r)(x:Nat):
  ∃z:Int,(gN (R.getD r []) (R.getD i []) col d).getD x 0=z/\(z:Rat)=clr (at2 R) r col (d:Rat) i x/\(x < w->ent R r col*ent R i x - ent R i col*ent R r x=d*z):=by
 have dn:d≠0:=λz=>B.dne (by rw[z];simp);have dq:=B.dne;have heq:at2 R r col≠0:=λz=>he (Rat.intCast_inj.mp (by unfold at2 at z;simpa using z));have wi:=h.wid i hi;have wr:=h.wid r hr
 by_cases hx:x < w
 ·obtain⟨z,hz⟩:=B.wV hr heq i x hi;have e1:ent R r col*ent R i x - ent R i col*ent R r x=d*z:=by
   rw[nI _ hir] at hz;have:((ent R r col*ent R i x - ent R i col*ent R r x:Int):Rat)=((d*z:Int):Rat):=by
    rw[Rat.intCast_sub,Rat.intCast_mul,Rat.intCast_mul,Rat.intCast_mul,<- hz];show at2 R r col*at2 R i x - at2 R i col*at2 R r x=_;grind
   exact Rat.intCast_inj.mp this
  refine⟨z,?_,hz.symm,λ_=>e1⟩;unfold gN;have g1:(R.getD i [])[x]?=some ((R.getD i []).getD x 0):=mD ();have g2:(R.getD r [])[x]?=some ((R.getD r []).getD x 0):=mD ();rw[getD_eq_getElem?_getD (l:=zipWith _ _ _),getElem?_zipWith,g1,g2];exact fK dn e1
 ·refine⟨0,?_,?_,λh=>absurd h hx⟩
  ·unfold gN;exact yD (by rw[length_zipWith,wi,wr];lia)
  ·rw[nI _ hir];have a1:at2 R i x=0:=by unfold at2 ent;rw[yD ()];simp
   have a2:at2 R r x=0:=by unfold at2 ent;rw[yD ()];simp
   rw[a1,a2];simp;grind
theorem SI.clear (h:SI m w A0 R r col d sg)(hr:r < m)(hc:col < w)(he:ent R r col≠0):SI m w A0 (cJ R r col d) (r+1) (col+1) (ent R r col) sg:=by
 obtain⟨A,c,B,e⟩:=h.bar;have hl:=h.len;have heq:at2 R r col≠0:=λz=>he (Rat.intCast_inj.mp (by unfold at2 at z;simpa using z));refine⟨(Ki R r col d).trans hl,λi hi=>?_,⟨A,_,(B.clear hr heq).congr λi hi=>?_,e⟩,h.one⟩
 ·rw[qT ()];split
  ·exact h.wid i hi
  ·unfold gN;rw[length_zipWith,h.wid i hi,h.wid r hr,Nat.min_self]
 ·funext x
  show clr (at2 R) r col (d:Rat) i x=((((cJ R r col d).getD i []).getD x 0:Int):Rat)
  rw[qT ()]
  by_cases hir:i=r
  ·rw[if_pos hir,hir,Aw];rfl
  ·rw[if_neg hir];obtain⟨z,h1,h2,_⟩:=Jm h B hr hc he hi hir x;rw[h1,h2]
def BdR (n:Nat)(R:List (List Int)):Prop:=∀i x,B n (ent R i x)
theorem SI.whole (h:SI m w A0 R m m d sg):det m A0=(sg:Rat)*(d:Rat):=by
 obtain⟨A,c,B,e⟩:=h.bar;have f:=B.full rfl;have i5:=B.i5;have:det m (λi j=>A i (c j))=det m A:=cH λi j _ hj=>by show A i (c j)=A i j;rw[f j hj]
 rw[this,e] at i5;rcases h.one with z | z
 ·rw[z] at i5 ⊢;simp at i5 ⊢;exact i5
 ·rw[z,Rat.intCast_neg] at i5 ⊢;simp at i5 ⊢;grind
theorem SI.lame (h:SI m w A0 R r m d sg)(hr:r < m):det m A0=0:=by
 obtain⟨A,c,B,e⟩:=h.bar;obtain⟨n,rfl⟩:∃n,m=n+1:=⟨m - 1,()⟩
 have dq:=B.dne;have e1:det (n+1) A=F n A id (A n):=by
  unfold F;exact cH λi j hi _=>by
   unfold Cd
   by_cases z:i=n
   ·rw[if_pos z,z];rfl
   ·rw[if_neg z];rfl
 have hΦ:=Jv n A id;have z:=B.i6 _ hΦ λs hs=>La n A id ();have eA:A n=λx=>(λx=>(1 / (d:Rat))*at2 R n x) x+(1 / (d:Rat))*(λx=>rs r λk=>A n (c k)*at2 R k x) x:=by
  funext x
  have:=B.i4 n x ();rw[if_neg ()] at this;show A n x=(1 / (d:Rat))*at2 R n x+(1 / (d:Rat))*(rs r λk=>A n (c k)*at2 R k x)
  grind
 have zs:(rs r λk=>A n (c k)*F n A id (at2 R k))=0:=by
  have:(rs r λk=>A n (c k)*F n A id (at2 R k))=rs r λ_=>0:=aU λk hk=>by rw[z k hk];grind
  rw[this,eO]
 have zn:F n A id (at2 R n)=0:=by
  rw[Mw];have:(rs (n+1) λj=>sgn (n+j)*at2 R n (id j)*det n λi k=>A i (id (Mq.skip j k)))=rs (n+1) λ_=>0:=aU λj hj=>by
   rw[show at2 R n (id j)=0 from B.i3 n j () () hj];grind
  rw[this,eO]
 have:det (n+1) A=0:=by
  rw[e1,eA,hΦ,hΦ.mul,hΦ.sum,zs,zn];grind
 rw[this] at e;rcases h.one with q | q
 ·rw[q] at e;simp at e;exact e.symm
 ·rw[q,Rat.intCast_neg] at e;simp at e;grind
def Ma:Nat->(Nat->Rat)->Rat
 |0,_=>1
 |n+1,b=>Ma n b*b n
theorem oO:∀(n:Nat) (b:Nat->Rat) (Q:Mat),det n (λi j=>b i*Q i j)=Ma n b*det n Q
 |0,_,_=>by simp[det,Ma]
 |n+1,b,Q=>by
  rw[fY,fY,<- fQ];refine aU λj _=>?_;have:=oO n b (λi k=>Q i (Mq.skip j k));show sgn (n+j)*(b n*Q n j)*det n (λi k=>b i*Q i (Mq.skip j k))=Ma n b*b n*_;rw[this];grind
end Mq
open Mq (Ap BdR Ma Mat SI cH cJ fU gN mD oO qT xQ)
namespace Shp
open PySem L2
inductive Imx (D:Addr) (H:Hp):List V->List (List Int)->Prop where
 |nil:Imx D H [] []
 |cons {u:Addr} {r:List Int} {us:List V} {R:List (List Int)} (ne:u≠D) (h:H u=some (.lst (r.map V.int))) (q:Imx D H us R):Imx D H (.ref u :: us) (r :: R)
theorem Imx.same (e:aS H H'):∀{xs:List V} {R:List (List Int)},Imx D H xs R->Imx D H' xs R
 |_,_,.nil=>.nil
 |_,_,.cons n h q=>.cons n (e _ _ h) (q.same e)
theorem Imx.upd:∀{xs:List V} {R:List (List Int)},Imx D H xs R->Imx D (L2.upd H D o) xs R
 |_,_,.nil=>.nil
 |_,_,.cons n h q=>.cons n (by rw[aR n];exact h) q.upd
theorem Imx.length:∀{xs:List V} {R:List (List Int)},Imx D H xs R->xs.length=R.length
 |_,_,.nil=>rfl
 |_,_,.cons _ _ q=>by rw[length_cons,length_cons,q.length]
theorem Imx.get:∀{xs:List V} {R:List (List Int)} {i:Nat} {x:V},Imx D H xs R->xs[i]?=some x->∃u r,x=.ref u/\R[i]?=some r/\u≠D/\H u=some (.lst (r.map V.int))
 |_,_,0,_,.cons n h q,e=>by simp at e;exact⟨_,_,e.symm,rfl,n,h⟩
 |_,_,i+1,_,.cons n h q,e=>by simp at e;exact q.get e
theorem Imx.at (h:Imx D H xs R)(hi:i < R.length):∃u,xs[i]?=some (.ref u)/\u≠D/\H u=some (.lst ((R.getD i []).map V.int)):=by
 have hx:i < xs.length:=by rw[h.length];exact hi
 obtain⟨u,r,e1,e2,e3,e4⟩:=h.get (getElem?_eq_getElem hx);refine⟨u,by rw[getElem?_eq_getElem hx,e1],e3,?_⟩;rw[getD_eq_getElem?_getD,e2];exact e4
theorem Imx.app:∀{xs ys:List V} {R S:List (List Int)},Imx D H xs R->Imx D H ys S->Imx D H (xs++ys) (R++S)
 |_,_,_,_,.nil,k=>k
 |_,_,_,_,.cons n h q,k=>.cons n h (q.app k)
theorem Imx.set (hn:u≠D)(hu:H u=some (.lst (r.map V.int))):∀{xs:List V} {R:List (List Int)} (i:Nat),Imx D H xs R->Imx D H (xs.set i (.ref u)) (R.set i r)
 |_,_,_,.nil=>by simp;exact .nil
 |_,_,0,.cons n h q=>.cons hn hu q
 |_,_,i+1,.cons n h q=>.cons n h (q.set hn hu i)
theorem Imx.other (hD:H D'=none):∀{xs:List V} {R:List (List Int)},Imx D H xs R->Imx D' H xs R
 |_,_,.nil=>.nil
 |_,_,.cons n h q=>.cons (λz=>by rw[z,hD] at h;cases h) h (q.other hD)
inductive Wmx (K:Frag) (D:Addr) (H:Hp):List V->List (List Int × Int)->Prop where
 |nil:Wmx K D H [] []
 |cons {t l:Addr} {r:List Int × Int} {us:List V} {rs:List (List Int × Int)} (ne:l≠D) (h:SqT K H t [.ref l,.int r.2]) (f:H l=some (.lst (r.1.map V.int))) (q:Wmx K D H us rs):Wmx K D H (.ref t :: us) (r :: rs)
theorem Wmx.same (e:aS H H'):∀{xs:List V} {rs:List (List Int × Int)},Wmx K D H xs rs->Wmx K D H' xs rs
 |_,_,.nil=>.nil
 |_,_,.cons n h f q=>.cons n (e.seqT h) (e _ _ f) (q.same e)
theorem Wmx.upd (hl:H D=some (.lst ys)):∀{xs:List V} {rs:List (List Int × Int)},Wmx K D H xs rs->Wmx K D (L2.upd H D o) xs rs
 |_,_,.nil=>.nil
 |_,_,.cons n h f q=>.cons n (h.upd hl) (by rw[aR n];exact f) (q.upd hl)
theorem Wmx.length:∀{xs:List V} {rs:List (List Int × Int)},Wmx K D H xs rs->xs.length=rs.length
 |_,_,.nil=>rfl
 |_,_,.cons _ _ _ q=>by rw[length_cons,length_cons,q.length]
theorem Wmx.get:∀{xs:List V} {rs:List (List Int × Int)} {i:Nat} {x:V},Wmx K D H xs rs->xs[i]?=some x->∃t l r,x=.ref t/\rs[i]?=some r/\SqT K H t [.ref l,.int r.2]/\H l=some (.lst (r.1.map V.int))
 |_,_,0,_,.cons n h f q,e=>by simp at e;exact⟨_,_,_,e.symm,rfl,h,f⟩
 |_,_,i+1,_,.cons n h f q,e=>by simp at e;exact q.get e
theorem Wmx.app:∀{xs ys:List V} {rs ss:List (List Int × Int)},Wmx K D H xs rs->Wmx K D H ys ss->Wmx K D H (xs++ys) (rs++ss)
 |_,_,_,_,.nil,k=>k
 |_,_,_,_,.cons n h f q,k=>.cons n h f (q.app k)
theorem kW {l:List Int}(h:i < l.length):(l.map V.int)[i]?=some (.int (l.getD i 0)):=by
 rw[getElem?_map,mD h];rfl
inductive Jy (K:Frag) (vs:List V) (H:Hp) (Q:VK) (E:XK):Prop where
 |mk (a:Addr) (xs:List V) (ps:List Mq.Q2) (n:Nat):vs=[.ref a]->SqL K H a xs->Fqs K H xs ps->Mq.Pos ps->(∀p∈ps,Mq.Bd n p)->ps.length<=100->10+n+n*ps.length<=8000->(∀t l H',aS H H'->H l=none->SqT K H' t [.ref l,.int (dI ps)]->H' l=some (.lst ((iw ps).map V.int))->Q (.ref t) H')->Jy K vs H Q E
inductive Qo (K:Frag) (vs:List V) (H:Hp) (Q:VK) (E:XK):Prop where
 |mk (l D:Addr) (zs:List V) (R:List (List Int)) (r c m w:Nat):vs=[.ref l,.int (r:Int),.int (c:Int)]->SqL K H l zs->Imx D H zs R->R.length=m->(∀i,i < m->(R.getD i []).length=w)->c < w->r<=m->m<=100->(∀p,r<=p->p < m->Mq.ent R p c≠0->Q (.int (p:Int)) H)->((∀i,r<=i->i < m->Mq.ent R i c=0)->Q .non H)->Qo K vs H Q E
inductive tJ (K:Frag) (vs:List V) (H:Hp) (Q:VK) (E:XK):Prop where
 |mk (u v:Addr) (row upper:List Int) (c n:Nat) (dv:Int):vs=[.ref u,.ref v,.int (c:Int),.int dv]->SqL K H u (row.map V.int)->SqL K H v (upper.map V.int)->row.length=upper.length->row.length<=100->c < row.length->dv≠0->(∀i,Mq.B n (row.getD i 0))->(∀i,Mq.B n (upper.getD i 0))->Mq.B n dv->n<=9000->(∀l H',aS H H'->H l=none->H' l=some (.lst ((gN upper row c dv).map V.int))->Q (.ref l) H')->tJ K vs H Q E
inductive rN (K:Frag) (vs:List V) (H:Hp) (Q:VK) (E:XK):Prop where
 |mk (l D:Addr) (zs:List V) (R:List (List Int)) (r c m w n:Nat) (dv:Int):vs=[.ref l,.int (r:Int),.int (c:Int),.int dv]->SqL K H l zs->Imx D H zs R->R.length=m->(∀i,i < m->(R.getD i []).length=w)->c < w->w<=100->r < m->m<=100->dv≠0->BdR n R->Mq.B n dv->n<=9000->(∀l' zs' H',aS H H'->H l'=none->H' l'=some (.lst zs')->Imx l' H' zs' (cJ R r c dv)->Q (.ref l') H')->rN K vs H Q E
def Rq (l:Addr)(rank:Nat)(pivot sign:Int):HO:=.dK (jQ [] [(.inr "rows",.ref l),(.inr "rank",.int (rank:Int)),(.inr "pivot",.int pivot),(.inr "sign",.int sign)])
def wgt (X:List (List Mq.Q2)):Rat:=Mq.det X.length λi j=>Mq.val ((X.getD i []).getD j Mq.z0)
theorem xL (h:H d=some (Rq l rank pivot sign)):jK H d (.str "rows") (some (.ref l))/\jK H d (.str "rank") (some (.int (rank:Int)))/\jK H d (.str "pivot") (some (.int pivot))/\jK H d (.str "sign") (some (.int sign)):=by
 refine⟨?_,?_,?_,?_⟩
 ·exact jK.k (k:=(Sum.inr "rows":Key)) h
 ·exact jK.k (k:=(Sum.inr "rank":Key)) h
 ·exact jK.k (k:=(Sum.inr "pivot":Key)) h
 ·exact jK.k (k:=(Sum.inr "sign":Key)) h
def lT (X:List (List Mq.Q2)):Int:=X.foldl (λb row=>b*dI row) 1
theorem oE {X:List (List Mq.Q2)}(h:X[i]?=some row):lT (X.take (i+1))=lT (X.take i)*dI row:=by
 unfold lT;rw[take_add_one,h,foldl_append];rfl
theorem oI (X:List (List Mq.Q2)):∀i,i<=X.length->((lT (X.take i):Int):Rat)=Ma i λk=>((dI (X.getD k []):Int):Rat)
 |0,_=>by simp[lT,Ma]
 |i+1,h=>by
  have e:X[i]?=some (X.getD i []):=by rw[getD_eq_getElem?_getD,getElem?_eq_getElem ()];rfl
  rw[oE e,Rat.intCast_mul,oI X i ()];rfl
theorem oN (hX:eE X):∀i,i<=X.length->1<=lT (X.take i)
 |0,_=>by show (1:Int)<=1;lia
 |i+1,h=>by
  have e:X[i]?=some (X.getD i []):=by rw[getD_eq_getElem?_getD,getElem?_eq_getElem ()];rfl
  rw[oE e];have h1:=oN hX i ();have h2:=pQ (hX _ (mem_of_getElem? e));have:=Int.mul_pos (show 0 < lT (X.take i) by lia) (show 0 < dI (X.getD i []) by lia);lia
theorem Fy (hp:Mq.Pos row)(hj:j < row.length):(((iw row).getD j 0:Int):Rat)=((dI row:Int):Rat)*Mq.val (row.getD j Mq.z0):=by
 have ej:row[j]?=some (row.getD j Mq.z0):=by rw[getD_eq_getElem?_getD,getElem?_eq_getElem hj];rfl
 have mem:row.getD j Mq.z0∈row:=mem_of_getElem? ej;obtain⟨k,hk⟩:=uZ hp _ mem;have e2:(iw row).getD j 0=yI (dI row) (row.getD j Mq.z0):=by
  unfold iw;rw[getD_eq_getElem?_getD,getElem?_map,ej];rfl
 rw[e2,Mq.Tc (hp _ mem) hk];grind
theorem Ff {X:List (List Mq.Q2)}(h:i < X.length):(X.map iw).getD i []=iw (X.getD i []):=by
 rw[getD_eq_getElem?_getD,getElem?_map,getD_eq_getElem?_getD,getElem?_eq_getElem h];rfl
theorem zW (hX:eE X)(hw:∀row∈X,row.length=X.length):Mq.det X.length (Mq.at2 (X.map iw))=((lT X:Int):Rat)*wgt X:=by
 unfold wgt;have hb:=oI X X.length (Nat.le_refl _);rw[take_length] at hb;rw[hb,<- oO];refine cH λi j hi hj=>?_;have e:X[i]?=some (X.getD i []):=by rw[getD_eq_getElem?_getD,getElem?_eq_getElem hi];rfl
 have mem:=mem_of_getElem? e;show ((((X.map iw).getD i []).getD j 0:Int):Rat)=_;rw[Ff hi];exact Fy (hX _ mem) (by rw[hw _ mem];exact hj)
theorem sK (row:List Mq.Q2):(iw row).length=row.length:=by unfold iw;simp
theorem Oa (hX:eE X)(hw:∀row∈X,row.length=X.length)(h:SI X.length w (Mq.at2 (X.map iw)) R X.length X.length d sg):Mq.val (red (sg*d) (lT X))=wgt X:=by
 have b1:=oN hX X.length (Nat.le_refl _);rw[take_length] at b1;have bn:=cZ (show lT X≠0 by lia);have e:=h.whole;rw[zW hX hw] at e;rw[iP (),Rat.intCast_mul,<- e];grind
theorem Sr (hX:eE X)(hw:∀row∈X,row.length=X.length)(h:SI X.length w (Mq.at2 (X.map iw)) R r X.length d sg)(hr:r < X.length):wgt X=0:=by
 have b1:=oN hX X.length (Nat.le_refl _);rw[take_length] at b1;have bn:=cZ (show lT X≠0 by lia);have e:=h.lame hr;rw[zW hX hw] at e;grind
end Shp
namespace Mq
theorem mU (m a:Nat)(v:Rat)(h:a < m):(rs m λi=>if i=a then v else 0)=v:=by
 induction m with
 |zero=>lia
 |succ m ih=>
  simp only[rs]
  by_cases e:m=a
  ·subst e;rw[if_pos rfl];have:(rs m λi=>if i=m then v else 0)=rs m λ_=>0:=aU λi hi=>by rw[if_neg ()]
   rw[this,eO];grind
  ·rw[if_neg e,ih ()];grind
theorem qj1 (m p r:Nat)(hp:p < m)(hr:r < m)(F:Nat->Rat):(rs m λi=>F (sw p r i))=rs m F:=by
 by_cases e:p=r
 ·subst e;exact aU λi _=>by
   congr 1;unfold sw
   by_cases h:i=p
   ·rw[if_pos h,h]
   ·rw[if_neg h,if_neg h]
 have:(rs m λi=>F (sw p r i))=rs m λi=>F i+((if i=r then F p - F r else 0)+(if i=p then F r - F p else 0)):=aU λi _=>by
  unfold sw
  by_cases h1:i=r
  ·rw[if_pos h1,if_pos h1,if_neg (),h1];grind
  ·rw[if_neg h1,if_neg h1]
   by_cases h2:i=p
   ·rw[if_pos h2,if_pos h2,h2];grind
   ·rw[if_neg h2,if_neg h2];grind
 rw[this,fD,fD,mU m r _ hr,mU m p _ hp];grind
structure LI (m:Nat) (Aq:Mat) (R:List (List Int)):Prop where
 lin:∀i x,i < m->x < m->at2 R i x=rs m λk=>at2 R i (m+k)*Aq k x
 ind:∀lam:Nat->Rat,(∀j,j < m->(rs m λi=>lam i*at2 R i (m+j))=0)->∀i,i < m->lam i=0
theorem rK (hp:p < R.length)(hr:r < R.length)(i x:Nat):at2 (fU R p r) i x=at2 R (sw p r i) x:=by
 show ((((fU R p r).getD i []).getD x 0:Int):Rat)=_;rw[Ap hp hr];rfl
theorem LI.swap (h:LI m Aq R)(hl:R.length=m)(hp:p < m)(hr:r < m):LI m Aq (fU R p r) where
 lin:=λi x hi hx=>by
  rw[rK () (),h.lin _ x (Bs hp hr hi) hx];exact aU λk _=>by rw[rK () ()]
 ind:=λlam hz i hi=>by
  have:=h.ind (λi=>lam (sw p r i)) (λj hj=>by
   rw[<- hz j hj,<- qj1 m p r hp hr];exact aU λi _=>by
    show lam (sw p r (sw p r i))*_=_;rw[Qv,rK () ()]) (sw p r i) (Bs hp hr hi)
  have e:lam (sw p r (sw p r i))=0:=this
  rwa [Qv] at e
theorem uX (h:SI m w A0 R r col d sg)(hr:r < m)(hc:col < w)(he:ent R r col≠0)(hi:i < m)(x:Nat):
  at2 (cJ R r col d) i x=if i=r then at2 R i x else (at2 R r col*at2 R i x - at2 R i col*at2 R r x) / (d:Rat):=by
 obtain⟨A,c,B,e⟩:=h.bar;have hl:=h.len;show ((((cJ R r col d).getD i []).getD x 0:Int):Rat)=_;rw[qT ()]
 by_cases hir:i=r
 ·rw[if_pos hir,if_pos hir];rfl
 ·rw[if_neg hir,if_neg hir];obtain⟨z,h1,h2,_⟩:=Jm h B hr hc he hi hir x;rw[h1,h2,nI _ hir]
theorem SI.dne (h:SI m w A0 R r col d sg):(d:Rat)≠0:=by
 obtain⟨A,c,B,e⟩:=h.bar;exact B.dne
theorem LI.clear (h:LI m Aq R)(s:SI m w A0 R r col d sg)(hr:r < m)(hc:col < w)(he:ent R r col≠0):LI m Aq (cJ R r col d):=by
 have dn:=s.dne;have hn:at2 R r col≠0:=λz=>he (Rat.intCast_inj.mp (by unfold at2 at z;simpa using z));have cl:=λ(i:Nat) (hi:i < m) (x:Nat)=>uX s hr hc he hi x;refine⟨λi x hi hx=>?_,λlam hz i hi=>?_⟩
 ·rw[cl i hi x]
  by_cases e:i=r
  ·rw[if_pos e,h.lin i x hi hx];exact aU λk _=>by rw[cl i hi,if_pos e]
  ·rw[if_neg e,h.lin i x hi hx,h.lin r x hr hx];have:(rs m λk=>at2 (cJ R r col d) i (m+k)*Aq k x)=rs m λk=>(at2 R r col / (d:Rat))*(at2 R i (m+k)*Aq k x)+(-(at2 R i col / (d:Rat)))*(at2 R r (m+k)*Aq k x):=aU λk _=>by rw[cl i hi,if_neg e];grind
   rw[this,fD,fQ,fQ];grind
 ·-- the factors of the rows as they were
  have key:=h.ind (λi=>if i=r then lam r - (rs m λk=>if k=r then 0 else lam k*(at2 R k col / (d:Rat))) else lam i*(at2 R r col / (d:Rat))) (λj hj=>by
   have e0:=hz j hj;have e1:(rs m λi=>lam i*at2 (cJ R r col d) i (m+j))=rs m λi=>(if i=r then lam r*at2 R r (m+j) else 0)+((if i=r then 0 else lam i*(at2 R r col / (d:Rat))*at2 R i (m+j))+(-(at2 R r (m+j)))*(if i=r then 0 else lam i*(at2 R i col / (d:Rat)))):=aU λi hi=>by
    rw[cl i hi]
    by_cases e:i=r
    ·rw[if_pos e,if_pos e,if_pos e,if_pos e,e];grind
    ·rw[if_neg e,if_neg e,if_neg e,if_neg e];grind
   rw[e1,fD,fD,fQ,mU m r _ hr] at e0;have e2:(rs m λi=>(if i=r then lam r - (rs m λk=>if k=r then 0 else lam k*(at2 R k col / (d:Rat))) else lam i*(at2 R r col / (d:Rat)))*at2 R i (m+j))=rs m λi=>(if i=r then (lam r - (rs m λk=>if k=r then 0 else lam k*(at2 R k col / (d:Rat))))*at2 R r (m+j) else 0)+(if i=r then 0 else lam i*(at2 R r col / (d:Rat))*at2 R i (m+j)):=aU λi _=>by
    by_cases e:i=r
    ·rw[if_pos e,if_pos e,if_pos e,e];grind
    ·rw[if_neg e,if_neg e,if_neg e];grind
   rw[e2,fD,mU m r _ hr];grind)
  have other:∀k,k < m->k≠r->lam k=0:=λk hk e=>by
   have:=key k hk;rw[if_neg e] at this;have n2:at2 R r col / (d:Rat)≠0:=λz=>hn (by grind);grind
  by_cases e:i=r
  ·have:=key r hr;rw[if_pos rfl] at this;have z:(rs m λk=>if k=r then 0 else lam k*(at2 R k col / (d:Rat)))=rs m λ_=>0:=aU λk hk=>by
    by_cases e:k=r
    ·rw[if_pos e]
    ·rw[if_neg e,other k hk e];grind
   rw[z,eO] at this;rw[e];grind
  ·exact other i hi e
theorem LI.lame (h:LI m Aq R)(s:SI m w A0 R r m d sg)(hr:r < m):(∃k,k < m/\ent R (m - 1) (m+k)≠0)/\∀x,x < m->(rs m λk=>at2 R (m - 1) (m+k)*Aq k x)=0:=by
 obtain⟨A,c,B,e⟩:=s.bar;refine⟨Classical.byContradiction λn=>?_,λx hx=>?_⟩
 ·have all:∀k,k < m->ent R (m - 1) (m+k)=0:=λk hk=>Classical.byContradiction λz=>n ⟨k,hk,z⟩;have:=h.ind (λi=>if i=m - 1 then 1 else 0) (λj hj=>by
   have:(rs m λi=>(if i=m - 1 then (1:Rat) else 0)*at2 R i (m+j))=rs m λ_=>0:=aU λi _=>by
    by_cases e:i=m - 1
    ·rw[if_pos e,e];have:at2 R (m - 1) (m+j)=0:=by unfold at2;rw[all j hj];simp
     rw[this];grind
    ·rw[if_neg e];grind
   rw[this,eO]) (m - 1) ()
  rw[if_pos rfl] at this;grind
 ·rw[<- h.lin (m - 1) x () hx];exact B.i3 (m - 1) x () () hx
end Mq
namespace PySem
open Sem (wp)
section
variable {prog:Program} {w:World} {A:Around} {E:Value->Shared->Prop} {h:Heap} {g:Array GenState} {d:Drawn} {t:Nat} {os:OsState}
variable {nm q:Str} {C N f:Addr} {bs bm bmB:List Value} {hdct:Bool} {sn:List Str} {sub:List Value} {ab:Bool} {col:Option Bool} {dd:Option Addr} {k0 k1 k2 k3 k5:Option Value} {B Bn newId nid initId inN:String} {bmN:List Value}
abbrev fZ (h:Heap)(C:Addr)(rest:List Value):Heap:=(h.push { cls:=.type "tuple",data:=.seq rest.toArray }).push { cls:=.ref C,data:=.fields #[.ref h.objs.size,.none,.none,.none,.bool false,.none] }
theorem vX (Fn:ExcBaseFacts Bn newId inN bmN)(hBn:bmB.contains (.type Bn)=true)(F:ExcBaseFacts B nid initId bmB)(T:OwnTail h bmB bm)(hC:h.get? C=some (excClassObj nm q C N bs bm hdct sn sub ab col dd k0 k1 k2 k3 k5 newId))(hl:W.Looks (model prog w) h (typeLookup (.ref C) "__init__") (some (.ref f)))(hb:∀self,W.Looks (model prog w) h (bindSpecial (.ref f) self) (.ref f,[self]))(hq:wpAny (model prog w) A (call (.ref f) (.ref (h.objs.size+1) :: rest)) (λr s'=>r=.none/\Q (.done (.ret (.ref (h.objs.size+1)))) s') E ⟨fZ h C rest,g,d,t,os⟩)(hrest:rest.length<=sizeLine):
  wpAny (model prog w) A (Builtin.«type.__call__» ⟨.ref C :: rest,[]⟩) Q E ⟨h,g,d,t,os⟩:=by
 repeat (first | with_reducible refine wpAny_loadPart_at hC ?_ | with_reducible refine wpAny_madeBy_exc hC ?_ | wp_step)
 refine codeAny_call_builtin_code (Code.quiet_builtin _ Fn.quiet) (wpAny_check_new_subU Fn hBn T hC ?_);refine codeAny_exc_new_subU Fn hBn F T hC ?_ hrest;show wpAny _ _ _ _ _ _;have k:∀b o,h.get? b=some o->(fZ h C rest).get? b=some o:=λb o e=>Heap.get?_push_of_some _ (Heap.get?_push_of_some _ e);have hC₁:=k _ _ hC;have hget:(fZ h C rest).get? (h.objs.size+1)=some { cls:=.ref C,data:=.fields #[.ref h.objs.size,.none,.none,.none,.bool false,.none] }:=by
  have:=Heap.get?_push_size (h.push { cls:=.type "tuple",data:=.seq rest.toArray }) (o:={ cls:=.ref C,data:=.fields #[.ref h.objs.size,.none,.none,.none,.bool false,.none] }) rfl
  rwa [Heap.size_push] at this
 have hcC:(Value.ref C :: bm).contains (.ref C)=true:=by simp
 unfold isInstance
 repeat (first | with_reducible refine wpAny_loadPart_at hget ?_ | (with_reducible refine wpAny_isSubtype_exc hC₁ ?_;rw[hcC]) | wp_step)
 show wpAny _ _ (typeLookup (.ref C) _) _ _ _;refine(hl.keeps k).here ?_;refine wpAny_holding (wpAny_bind (((hb _).keeps k).here ?_));refine wpAny_bind (wpAny_mono hq (λr s' z=>?_) λ_ _ z=>z);obtain⟨rfl,z⟩:=z;refine wpAny_pure ?_;exact wpAny_pure z
theorem Lq (Fn:ExcBaseFacts Bn newId inN bmN)(hBn:bmB.contains (.type Bn)=true)(F:ExcBaseFacts B nid initId bmB)(T:OwnTail h bmB bm)(hC:h.get? C=some (excClassObj nm q C N bs bm hdct sn sub ab col dd k0 k1 k2 k3 k5 newId))(hl:W.Looks (model prog w) h (typeLookup (.ref C) "__init__") (some (.ref f)))(hb:∀self,W.Looks (model prog w) h (bindSpecial (.ref f) self) (.ref f,[self]))(hq:wpAny (model prog w) (A.under (.builtin "type.__call__" ⟨.ref C :: rest,[]⟩)) (call (.ref f) (.ref (h.objs.size+1) :: rest)) (λr s'=>r=.none/\Q (.ref (h.objs.size+1)) s') E ⟨fZ h C rest,g,d,t,os⟩)(hrest:rest.length<=sizeLine):
  wpAny (model prog w) A (call (.ref C) rest) Q E ⟨h,g,d,t,os⟩:=by
 have f1:=tc_lookup;have f2:=tc_bind (.ref C);have hT:(⟨h,g,d,t,os⟩:Shared).TypeIs (.ref C) "type":=⟨_,hC,rfl⟩
 refine wpAny_call (codeAny_of_tree ?_);show wpAny _ _ (callAny (.ref C) _) _ _ _
 repeat (any_goals (first | assumption | with_reducible refine wpAny_loadPart_at hC ?_ | wp_step))
 refine⟨rfl,?_⟩;refine codeAny_call_builtin_at (Code.quiet_builtin _ ∅) entry_typeCall (wpAny_check_type_call_sub hC (vX Fn hBn F T hC hl hb ?_ hrest));exact hq
end
section
variable {M:Model} {A:Around} {E:Value->Shared->Prop} {env:Env}
variable {nm q:Str} {C N:Addr} {bs bm:List Value} {hdct:Bool} {sn:List Str} {sub:List Value} {ab:Bool} {col:Option Bool} {dd:Option Addr} {k0 k1 k2 k3 k5:Option Value} {newId:String}
theorem gY (hbase:bm.contains (.type "BaseException")=true)(hh:A.handled=none)(h:wpAny M A x (λv s₁=>∃e t dx,v=.ref e/\s₁.heap.get? C=some (excClassObj nm q C N bs bm hdct sn sub ab col dd k0 k1 k2 k3 k5 newId)/\
   s₁.heap.get? e=some { cls:=.ref C,dict:=dx,data:=.fields #[.ref t,.none,.none,.none,.bool false,.none] }/\E (.ref e) s₁) E s):
  wpAny M A (raiseStmt env (some x) none) Q E s:=by
 have hcB:(Value.ref C :: bm).contains (.type "BaseException")=true:=by rw[contains_cons,hbase,Bool.or_true]
 unfold raiseStmt;refine wpAny_bind (wpAny_mono h (λv s₁ h₁=>?_) λ_ _ x=>x);obtain⟨e,t,dx,rfl,hC,he,hE⟩:=h₁;obtain⟨hp,g,d,tk,os⟩:=s₁
 repeat (first | with_reducible refine wpAny_loadPart_at he ?_ | with_reducible refine wpAny_loadPart_at hC ?_ | (with_reducible refine wpAny_isSubtype_exc hC ?_;rw[hcB]) | wp_step)
 exact wpAny_raiseNew_none hh hE
end
section
variable {prog:Program} {w:World} {A:Around} {E:Value->Shared->Prop} {s:Shared} {env:Env}
variable {nm q:Str} {C N f:Addr} {bs bm bmB:List Value} {hdct:Bool} {sn:List Str} {sub:List Value} {ab:Bool} {col:Option Bool} {dd:Option Addr} {k0 k1 k2 k3 k5:Option Value} {B Bn newId nid initId inN:String} {bmN:List Value}
theorem Gn (Fn:ExcBaseFacts Bn newId inN bmN)(hBn:bmB.contains (.type Bn)=true)(F:ExcBaseFacts B nid initId bmB)(hbase:bm.contains (.type "BaseException")=true)(hh:A.handled=none)(hplain:(backTo cpos (starEach args env)).any (·.1)=false)(h:wpAny (model prog w) A (eval (.Name x np) env) (λf' s₁=>f'=.ref C/\wpAny (model prog w) A (evalArgs (.ref C) true (backTo cpos (starEach args env)) [])
   (λa s₂=>a.kw=[]/\a.pos.length<=sizeLine/\s₂.heap.get? C=some (excClassObj nm q C N bs bm hdct sn sub ab col dd k0 k1 k2 k3 k5 newId)/\OwnTail s₂.heap bmB bm/\
    W.Looks (model prog w) s₂.heap (typeLookup (.ref C) "__init__") (some (.ref f))/\(∀self,W.Looks (model prog w) s₂.heap (bindSpecial (.ref f) self) (.ref f,[self]))/\
    wpAny (model prog w) (A.under (.builtin "type.__call__" ⟨.ref C :: a.pos,[]⟩)) (call (.ref f) (.ref (s₂.heap.objs.size+1) :: a.pos)) (λr s'=>r=.none/\∃t dx,s'.heap.get? C=some (excClassObj nm q C N bs bm hdct sn sub ab col dd k0 k1 k2 k3 k5 newId)/\
     s'.heap.get? (s₂.heap.objs.size+1)=some { cls:=.ref C,dict:=dx,data:=.fields #[.ref t,.none,.none,.none,.bool false,.none] }/\E (.ref (s₂.heap.objs.size+1)) s') E { s₂ with heap:=fZ s₂.heap C a.pos }) E s₁) E s):
  wpAny (model prog w) A (exec (.Raise (some (.Call (.Name x np) args [] cpos)) none pos) env) Q E s:=by
 rw[arm_exec_Raise]
 first
  |refine wpAny_bind (wpAny_standAt (gY (C:=C) (nm:=nm) (q:=q) (N:=N) (bs:=bs) (bm:=bm) (hdct:=hdct) (sn:=sn) (sub:=sub) (ab:=ab) (col:=col) (dd:=dd) (k0:=k0) (k1:=k1) (k2:=k2) (k3:=k3) (k5:=k5) (newId:=newId) hbase hh (wpAny_bind (wpAny_mono (wpAny_Call_ofName (wpAny_mono h (λf s₁ h₁=>?_) λ_ _ x=>x)) (λv s₃ h₃=>wpAny_bind (wpAny_standAt (wpAny_pure h₃))) λ_ _ x=>x))))
  | (simp only[evalOpt,Option.map];refine wpAny_bind (wpAny_standAt (gY (C:=C) (nm:=nm) (q:=q) (N:=N) (bs:=bs) (bm:=bm) (hdct:=hdct) (sn:=sn) (sub:=sub) (ab:=ab) (col:=col) (dd:=dd) (k0:=k0) (k1:=k1) (k2:=k2) (k3:=k3) (k5:=k5) (newId:=newId) hbase hh (wpAny_bind (wpAny_mono (wpAny_Call_ofName (wpAny_mono h (λf s₁ h₁=>?_) λ_ _ x=>x)) (λv s₃ h₃=>wpAny_bind (wpAny_standAt (wpAny_pure h₃))) λ_ _ x=>x)))))
  | (refine wpAny_bind (wpAny_standAt (gY (C:=C) (nm:=nm) (q:=q) (N:=N) (bs:=bs) (bm:=bm) (hdct:=hdct) (sn:=sn) (sub:=sub) (ab:=ab) (col:=col) (dd:=dd) (k0:=k0) (k1:=k1) (k2:=k2) (k3:=k3) (k5:=k5) (newId:=newId) hbase hh ?_));refine wpAny_bind (wpAny_mono (wpAny_Call_ofName (wpAny_mono h (λf s₁ h₁=>?_) λ_ _ x=>x)) (λv s₃ h₃=>wpAny_bind (wpAny_standAt (wpAny_pure h₃))) λ_ _ x=>x))
 obtain⟨rfl,h₁⟩:=h₁;unfold callWith;refine wpAny_bind (wpAny_holding (wpAny_mono h₁ (λa s₂ h₂=>wpAny_bind (wpAny_standAt ?_)) λ_ _ x=>x));obtain⟨apos,akw⟩:=a;obtain⟨hkw,hlen,hC,T,hl,hb,h₂⟩:=h₂;obtain rfl:akw=[]:=hkw;obtain⟨hp,g,d,tk,os⟩:=s₂;simp only[hplain];refine wpAny_bind (wpAny_keeperOf_exc hC ?_);refine wpAny_bind (Lq Fn hBn F T hC hl hb (wpAny_mono h₂ (λr s' z=>?_) λ_ _ z=>z) hlen);obtain⟨rfl,t,dx,z1,z2,z3⟩:=z;exact⟨rfl,wpAny_bind (wpAny_holding (wpAny_point (wpAny_pure ⟨_,t,dx,rfl,z1,z2,z3⟩)))⟩
end
end PySem
namespace L2
open PySem PySem.Spec PyProof.Rows
def gK (a:Addr)(C:Value)(d:Option Addr):HO:=.ext λh=>∃t,h.get? a=some { cls:=C,dict:=d,data:=.fields #[.ref t,.none,.none,.none,.bool false,.none] }
theorem pZ (e:h.get? a=some { cls:=C,dict:=d,data:=.fields #[.ref t,.none,.none,.none,.bool false,.none] }):cL P w H h a (gK a C d):=
 ⟨⟨t,e⟩,⟨_,e⟩,λh1 h2 ⟨t',e'⟩ k=>⟨t',k _ e'⟩⟩
def pA (H:Hp)(x:Addr):Hp:=λb=>if b=x then none else H b
theorem iC (h:b≠x):pA H x b=H b:=by unfold pA;rw[if_neg h]
theorem Ek (H:Hp)(x:Addr):pA H x x=none:=by unfold pA;rw[if_pos rfl]
section
variable {X:Cx} {pins:List (Addr × Obj)} {σ:List (Option V)} {H:Hp} {s:Shared}
theorem Inv.forget (I:Inv X pins σ H s)(hx:H x=some (.ext φ)):Inv X pins σ (pA H x) s:=by
 have non:∀b,H b=none->pA H x b=none:=λb e=>by unfold pA;split;rfl;exact e
 have keep:∀b u,H b=some u->u≠.ext φ->pA H x b=some u:=λb u e n=>by
  have:b≠x:=λz=>by rw[z,hx] at e;cases e;exact n rfl
  rw[iC this];exact e
 refine⟨I.ok,I.os,I.bare,⟨I.base.keep,I.base.slot,λb o e1 e2 e3=>non b (I.base.free b o e1 e2 e3),I.base.there,λb xs e=>keep b _ (I.base.tups b xs e) (λz=>by cases z),λb o u e=>keep b _ (I.base.frzs b o u e) (λz=>by cases z),λb ps e=>?_⟩,I.loc,I.cell,non _ I.free,λy c e=>non _ (I.freeC y c e),λp hp=>?_,λb u e=>?_,I.len⟩
 ·obtain⟨more,q⟩:=I.base.tbls b ps e;exact⟨more,keep b _ q (λz=>by cases z)⟩
 ·obtain⟨a1,a2,a3⟩:=I.pin p hp;exact⟨a1,non _ a2,a3⟩
 ·have ne:b≠x:=λz=>by rw[z,Ek] at e;cases e
  rw[iC ne] at e;exact(I.hok b u e).stay (λc v _ q=>q) (λc q=>keep c _ q (λz=>by cases z)) λc xs q=>keep c _ q (λz=>by cases z)
end
structure jD (K:Frag) (C C0 f:Addr):Prop where
 cls:∃(nm q:Str) (N:Addr) (bs:List Value) (sn:List Str) (sub:List Value) (ab:Bool) (col:Option Bool) (dd:Option Addr) (k0 k1 k2 k3 k5:Option Value),K.lookup C=some (excClassObj nm q C N bs (.ref C0 :: pF) true sn sub ab col dd k0 k1 k2 k3 k5 "ValueError.__new__")
 base:∃(nm q:Str) (N:Addr) (bs:List Value) (hdct:Bool) (sn:List Str) (sub:List Value) (ab:Bool) (col:Option Bool) (dd:Option Addr) (k0 k1 k2 k3 k5:Option Value),K.lookup C0=some (excClassObj nm q C0 N bs pF hdct sn sub ab col dd k0 k1 k2 k3 k5 "ValueError.__new__")
 exc:My K C0
 ini:W.findIn K (.ref C) "__init__"=some (some (.ref f))
 fn:W.typeIn K (.ref f)=some (.type "function")
theorem jD.tail {K:Frag}(e:jD K C C0 f)(X:K.In h):OwnTail h pF (.ref C0 :: pF):=by
 obtain⟨nm,q,N,bs,hdct,sn,sub,ab,col,dd,k0,k1,k2,k3,k5,l⟩:=e.base;have z:=e.exc;unfold My W.excIn at z;rw[l] at z;simp only[Bool.and_eq_true,beq_iff_eq,Bool.not_eq_true'] at z;obtain⟨⟨⟨⟨_,_⟩,ht⟩,hok⟩,hni⟩:=z;exact .own (X _ _ l) (.of_isNs (W.isNs_of_in X hok)) (W.nsMap_none_of_in X hok hni) .base
section
variable {X:Cx} {pins:List (Addr × Obj)} {σ:List (Option V)} {H:Hp} {s:Shared} {k:Nat} {f C C0:Addr} {fd:FuncData} {ps:List Str} {sp:Sp}
def Vn (C:Addr)(sp:Sp)(E:XK)(ta:TA):TS:=λ_ σ H=>ta σ H λvs H1=>vs.length<=sizeLine/\∀x,H1 x=none->sp (.ref x :: vs) (upd H1 x (gK x (.ref C) none)) (λv H2=>v=.non/\∃dx,H2 x=some (gK x (.ref C) dx)/\E (.ref C) dx (pA H2 x)) E0
theorem sS (fm:Frm X)(xo:Vb X E)(hc:X.calm=true)(hg:Gl X x)(hm:X.mg x=some (.ref C))(q:jD X.K C C0 f)(F:aK X.prog X.w X.K X.mg X.base CX0 k f fd ps sp)(hr:gM (k+1) X.A)(hb:aL X.K fd ps [])(ha:PA X (e₀ :: es) ta)(hdb:(x == ("__debug__":Str))=false:=by decide)(he:starEach (e₀ :: es) X.env=(false,eval e₀ X.env) :: starEach es X.env:=by rfl)(hpl:(backTo cpos (starEach es X.env)).any (·.1)=false:=by rfl):
  PS X (.Raise (some (.Call (.Name x np) (e₀ :: es) [] cpos)) none pos) (Vn C sp E ta):=by
 intro pins s σ H D I h;obtain⟨nm,qn,N,bs,sn,sub,ab,col,dd,k0,k1,k2,k3,k5,lC⟩:=q.cls;have FB:=PySem.F.excBase_ValueError;have T:=q.tail I.mod.kin;refine Gn (C:=C) (f:=f) (nm:=nm) (q:=qn) (N:=N) (bs:=bs) (bm:=.ref C0 :: pF) (hdct:=true) (sn:=sn) (sub:=sub) (ab:=ab) (col:=col) (dd:=dd) (k0:=k0) (k1:=k1) (k2:=k2) (k3:=k3) (k5:=k5)
  FB ∅ FB (T.hasType FB.hasBase) (I.ok.hd hc) (by rw[he];show (false || (backTo cpos (starEach es X.env)).any (·.1))=false;rw[hpl];rfl) (iO I hg hm ⟨rfl,?_⟩ hdb)
 have ha':=ha cpos pins s σ H _ I h;rw[he] at ha' ⊢;refine Calls.evalArgs_plain (wpAny_mono ha' (λus s2 h2=>?_) λ_ _ y=>y);obtain⟨vs,H1,I1,r,hz,q1⟩:=h2;have kIn:=I1.kIn;refine⟨rfl,by rw[<- r.length];exact hz,kIn _ _ lC,q.tail kIn,W.looks_findIn kIn q.ini,λself=>W.bind_fn kIn self q.fn,?_⟩;dsimp only;have kh:∀b o,s2.heap.get? b=some o->(fZ s2.heap C us).get? b=some o:=λb o e=>Heap.get?_push_of_some _ (Heap.get?_push_of_some _ e);have hget:(fZ s2.heap C us).get? (s2.heap.objs.size+1)=some { cls:=.ref C,data:=.fields #[.ref s2.heap.objs.size,.none,.none,.none,.bool false,.none] }:=by
  have:=Heap.get?_push_size (s2.heap.push { cls:=.type "tuple",data:=.seq us.toArray }) (o:={ cls:=.ref C,data:=.fields #[.ref s2.heap.objs.size,.none,.none,.none,.bool false,.none] }) rfl
  rwa [Heap.size_push] at this
 have fr:H1 (s2.heap.objs.size+1)=none:=I1.hok.fresh (Nat.le_succ _);have I2:Inv X pins σ (upd H1 (s2.heap.objs.size+1) (gK (s2.heap.objs.size+1) (.ref C) none)) { s2 with heap:=fZ s2.heap C us }:=
  I1.laid (t':=s2.toks) kh (Nat.le_succ _) (pZ hget)
 have hq:=q1 _ fr;have rv:cA (V.ref (s2.heap.objs.size+1) :: vs) (Value.ref (s2.heap.objs.size+1) :: us):=.cons rfl r;have hl:(Value.ref (s2.heap.objs.size+1) :: us++[]).length=ps.length:=by
  have e:=rv.length;rw[F.len _ _ _ _ hq] at e;rw[append_nil];exact e.symm
 refine wpAny_call (codeAny_mono (F.run _ X.stack _ _ ⟨Value.ref (s2.heap.objs.size+1) :: us,[]⟩ (Value.ref (s2.heap.objs.size+1) :: us) _ _ E0 (hr.make C us []) (I2.env0.make C us []) (by have:=hb _ (Value.ref (s2.heap.objs.size+1) :: us) I2.kIn hl;rwa [append_nil] at this) rv hq) λres s' hq'=>?_)
 cases res with
 |error e=>exact(show False from hq').elim
 |ok fl=>
  cases fl with
  |ret u=>
   obtain⟨v,H',os,bare,un,hok,rvu,ev,dx,ex,q3⟩:=hq';subst ev;have J:Inv X pins σ H' s':=I2.call' (ch:=[]) os un hok bare λb z=>absurd z ⋯;obtain⟨⟨t,ht⟩,_⟩:=(show cL X.prog X.w H' s'.heap _ (gK _ (.ref C) dx) from J.hok _ _ ex)
   refine⟨rvu,t,dx,J.kIn _ _ lC,ht,?_⟩;refine xo pins σ _ s' _ (.ref C) dx ⟨J.forget ex,s2.heap,λp hp z=>?_,λb o e=>I1.base.there b o e (by rw[fm.ex];simp),λb o e=>un.there b o (kh b o e) ⋯,⟨Ku (Nat.le_succ _),Ek _ _,_,_,.none,ht,rfl,rfl,rfl,rfl,.inl rfl⟩⟩ q3;rw[(I1.pin p hp).1] at z;cases z
  |next=>exact False.elim hq'
  |brk=>exact False.elim hq'
  |cont=>exact False.elim hq'
end
theorem Sd (h:H a=some o):upd H a o=H:=by
 funext b
 by_cases e:b=a
 ·rw[e,aB,h]
 ·rw[aR e]
section
variable {X:Cx} {C C0 f:Addr}
theorem Ax:kC X (.builtin "ValueError.__init__") (λxs H Q=>∃a C C0 f d v,xs=[.ref a,v]/\H a=some (gK a (.ref C) d)/\jD X.K C C0 f/\Q .non H):=by
 intro pins s σ H xs us Q I r h;obtain⟨a,C,C0,f,d,v,rfl,ea,q,hq⟩:=h;obtain⟨u1,us',rfl,r1,r2⟩:∃u1 us',us=u1 :: us'/\cB (.ref a) u1/\cA [v] us':=by cases r with | cons p q=>exact⟨_,_,rfl,p,q⟩
 obtain rfl:u1=Value.ref a:=r1;obtain⟨⟨t,he⟩,_⟩:=(show cL X.prog X.w H s.heap a (gK a (.ref C) d) from I.hok a _ ea)
 obtain⟨nm,qn,N,bs,sn,sub,ab,col,dd,k0,k1,k2,k3,k5,lC⟩:=q.cls;have FB:=PySem.F.excBase_ValueError;have T:=q.tail I.kIn;have hl:us'.length=1:=r2.length.symm;have hC:=I.kIn _ _ lC;have fin:∀s',s'={ s with heap:=(s.heap.push { cls:=.type "tuple",data:=.seq us'.toArray }).update a (Obj.mapFields (·.setIfInBounds 0 (.ref s.heap.objs.size))) }->EP X pins σ Q .none s':=by
  rintro s' rfl;have I1:Inv X pins σ H { s with heap:=s.heap.push { cls:=.type "tuple",data:=.seq us'.toArray } }:=I.kept (t':=s.toks) λb o e=>Heap.get?_push_of_some _ e;have he1:=Heap.get?_push_of_some (h:=s.heap) { cls:=.type "tuple",data:=.seq us'.toArray } he;have e2:=Heap.get?_update_self (Obj.mapFields (·.setIfInBounds 0 (.ref s.heap.objs.size))) he1 rfl;have I2:=I1.write (x:=a) (e:=a) (t':=s.toks) (o:=gK a (.ref C) d) (by rw[ea];exact True.intro) (.inl rfl) (λb u nb e=>(Heap.get?_update_other _ _ (Ne.symm nb)).trans e) ⟨_,e2⟩ (pZ (t:=s.heap.objs.size) e2);rw[Sd ea] at I2;exact⟨.non,H,I2,rfl,hq⟩
 obtain⟨hp,g,dr,tk,os⟩:=s;refine wpAny_call (codeAny_call_builtin FB.init.plain FB.initEntry (wpAny_check_init_subU FB T hC he rfl ?_));unfold Builtin.«BaseException.__init__»;dsimp only;rw[if_neg ⋯];unfold newTuple Builtin.BaseException.bexcPut;have he₁:=Heap.get?_push_of_some (h:=hp) { cls:=.type "tuple",data:=.seq us'.toArray } he;refine wpAny_bind (wpAny_newObj_type (wpAny_bind (wpAny_bind (wpAny_field he₁ rfl rfl (wpAny_bind (wpAny_setField he₁ rfl (show 0 < 6 by decide) ?_))))) (by show us'.toArray.size<=sizeLine;rw[size_toArray,hl];decide));exact wpAny_letGo (wpAny_pure (fin _ rfl))
structure Ld (K:Frag) (C0:Addr):Prop where
 sp:W.specialIn K (.ref C0) "__getattribute__"=some (some (.builtin "type.__getattribute__"))
 rd:W.readsIn K C0 (.type "type")=true
 fi:W.findCls K (.ref C0) (.type "type") "__init__"=some (.val (.builtin "ValueError.__init__"))
def Oi (K:Frag)(ta:TA):TE:=λσ H Q=>ta σ H λvs H1=>∃a C C0 f d v,vs=[.ref a,v]/\H1 a=some (gK a (.ref C) d)/\jD K C C0 f/\Q .non H1
theorem xS (hg:Gl X x)(hm:X.mg x=some (.ref C0))(c:Ld X.K C0)(ha:PA X (e :: es) t)(hdb:(x == ("__debug__":Str))=false:=by decide)(hst:starEach (e :: es) X.env=(false,eval e X.env) :: starEach es X.env:=by rfl)(hpl:(backTo pos (starEach es X.env)).any (·.1)=false:=by rfl)(ht:eval (.Call (.Attribute (.Name x np) "__init__" apos) (e :: es) [] pos) X.env=(do
   let ov <- eval (.Name x np) X.env
   standAt apos.atName
   let (f,first) <- holding [ov] (getMethod ov "__init__" pl)
   callWith pos f first (backTo pos (starEach (e :: es) X.env)) (backToKw pos (keywordEach [] X.env))):=by rfl):
  PE X (.Call (.Attribute (.Name x np) "__init__" apos) (e :: es) [] pos) (Oi X.K t):=by
 intro pins s σ H Q I h;refine W.methodCall_KW (pl:=pl) (iO I hg hm ?_ hdb) ht;refine W.method_cls I.kIn c.sp (W.cls_value I.kIn c.rd c.fi rfl ?_);have I':Inv X pins σ H { s with toks:=s.toks+1 }:=I.tok _;exact PyProof.Rows.callWith_builtin1 (thn (ha pos pins _ σ H _ I' h) λus s1 ⟨vs,H1,I1,r1,q1⟩=>Ax pins s1 σ H1 vs us Q I1 r1 q1) hst hpl
end
section
variable {prog:Program} {w:World} {A:Around} {E:Value->Shared->Prop} {s:Shared} {K:Frag} {x C C0 f:Addr} {name:Str} {v:Value} {vs:Array Value}
theorem jD.cin (q:jD K C C0 f):∃cd,W.clsIn K C=some cd/\cd.mro=.ref C :: .ref C0 :: pF/\cd.hasDict=true:=by
 obtain⟨nm,qn,N,bs,sn,sub,ab,col,dd,k0,k1,k2,k3,k5,lC⟩:=q.cls;unfold W.clsIn;rw[lC];exact⟨_,rfl,rfl,rfl⟩
theorem Ji (X:K.In s.heap)(q:jD K C C0 f)(hx:s.heap.get? x=some { cls:=.ref C,data:=.fields vs })(hs:W.findIn K (.ref C) "__setattr__"=some (some (.builtin "object.__setattr__")))(hn:W.findIn K (.ref C) name=some none)(h:∀h',h'.get? x=some { cls:=.ref C,dict:=some s.heap.objs.size,data:=.fields vs }->h'.Ns1 s.heap.objs.size (λy=>if y=name then some v else none)->(∀b o,b≠x->s.heap.get? b=some o->h'.get? b=some o)->∀tk,Q .unit { s with heap:=h',toks:=tk }):
  wpAny (model prog w) A (setAttr (.ref x) name v) Q E s:=by
 have J:W.InstAt s.heap x { cls:=.ref C,data:=.fields vs } C none:=⟨hx,rfl,rfl,trivial⟩
 have SF:=PySem.F.store_object;have SV:=PySem.F.store_ValueError;obtain⟨cd,hc,hm,hd⟩:=q.cin;refine W.set_plain X J hs ?_;have sub:W.Looks (model prog w) s.heap (isInstance (.ref x) (.type "object")) true:=J.type.andThen (W.looks_mroIn X (by unfold W.mroIn;rw[hc,Option.bind_some,hm];rfl));refine codeAny_call_builtin SF.slot.plain SF.entry (@W.check_slot (model prog w) _ _ { s with toks:=s.toks+1 } "object.__setattr__" "object" "__setattr__" (.ref x) [.str name s.toks,v] [] _ SF.kind SF.split sub (SF.args (.ref x) (.str name s.toks) v) ?_);have hmro:W.Looks (model prog w) s.heap (mroOf (.ref C)) cd.mro:=(W.looks_clsIn X hc).andThen .now;rw[W.osa_eq,refuse_eq];refine wpAny_bind (wpAny_bind (W.Looks.here (s:={ s with toks:=s.toks+1 }) J.type (wpAny_bind (W.Looks.here (s:={ s with toks:=s.toks+1 }) hmro ?_))));rw[hm,refuseLoop_ref,refuseLoop_ref,SV.passes];refine wpAny_pure (wpAny_bind (W.Looks.here (s:={ s with toks:=s.toks+1 }) J.type (wpAny_bind (W.Looks.here (s:={ s with toks:=s.toks+1 }) (W.looks_findIn X hn) (wpAny_bind (wpAny_pure ?_))))));dsimp only;refine wpAny_bind (wpAny_pure (wpAny_bind (wpAny_bind (wpAny_loadPart hx (wpAny_bind (W.Looks.here (s:={ s with toks:=s.toks+1 }) (W.looks_clsIn X hc) ?_))))));rw[hd,if_neg ∅];dsimp only;rw[if_neg (by simp[typeHasDict])];have hx₁:(s.heap.push { cls:=.type "dict",data:=.dict #[] }).get? x=some { cls:=.ref C,data:=.fields vs }:=Heap.get?_push_of_some _ hx;have hxs:x≠s.heap.objs.size:=Nat.ne_of_lt (Heap.lt_size hx);refine wpAny_bind (wpAny_alloc' ?_);refine wpAny_bind (wpAny_update' hx₁ ?_);refine wpAny_pure ?_;have hgd:((s.heap.push { cls:=.type "dict",data:=.dict #[] }).update x λo=>{ cls:=o.cls,dict:=some s.heap.objs.size,data:=o.data,slots:=o.slots }).get? s.heap.objs.size
   = some { cls:=.type "dict",data:=.dict #[] }:=
  (Heap.get?_update_ne _ _ _ _ hxs.symm).trans (Heap.get?_push_at rfl rfl)
 have hnd:((s.heap.push { cls:=.type "dict",data:=.dict #[] }).update x λo=>{ cls:=o.cls,dict:=some s.heap.objs.size,data:=o.data,slots:=o.slots }).Ns s.heap.objs.size (λ_=>none):=
  ⟨_,#[],_,hgd,rfl,λe he=>absurd he ⋯,λ_=>rfl⟩
 show wpAny _ _ (Builtin.ObjectAttr.storeInDict s.heap.objs.size (.str name s.toks) name v) _ _ _;unfold Builtin.ObjectAttr.storeInDict Builtin.ObjectAttr.newKeyGuard;refine wpAny_bind (wpAny_pure (wpAny_bind (wpAny_nsSet1 (Heap.Ns1.of_empty hnd) λh' hn' hs'=>?_)));obtain⟨oD,esD,epD,hoD,hdD,hcD⟩:=hn'.count (Within.cons name v Within.nil);refine wpAny_bind (wpAny_lookBehind hoD (by rw[hdD];exact pastItsLine_dict (Nat.le_trans hcD (by rw[length_cons,length_nil,sizeLine_eq];lia))) ?_);refine wpAny_pure ?_;refine h h' ?_ ?_ (λb o nb e=>(hs'.2 b (Nat.ne_of_lt (Heap.lt_size e))).trans ((Heap.get?_update_ne _ _ _ _ nb).trans (Heap.get?_push_of_some _ e))) _
 ·exact(hs'.2 x hxs).trans (Heap.get?_update_self _ hx₁ rfl)
 ·exact hn'
end
section
variable {X:Cx} {o value:Expr} {nm:Str} {pos pos':Pos} {ta tv:TE}
structure wZ (K:Frag) (C:Addr) (nm:Str):Prop where
 sa:W.findIn K (.ref C) "__setattr__"=some (some (.builtin "object.__setattr__"))
 no:W.findIn K (.ref C) nm=some none
def qk8 (K:Frag)(ta tv:TE)(nm:Str):TS:=λD σ H=>tv σ H λy H1=>ta σ H1 λx H2=>∃a C C0 f,x=.ref a/\H2 a=some (gK a (.ref C) none)/\jD K C C0 f/\wZ K C nm/\
 ∀dx,H2 dx=none->D.nx σ (upd (upd H2 dx (.xd [(nm,y)])) a (gK a (.ref C) (some dx)))
theorem Kw (ha:PE X o ta)(hv:PE X value tv)(hs:swapsWith value (some (.Attribute o nm pos')) pos.line X.env=pure false):PS X (.Assign [.Attribute o nm pos'] value pos) (qk8 X.K ta tv nm):=by
 intro pins s σ H D I h;refine plainObj_wpAny_Assign_Attribute (thn (hv pins s σ H _ I h) λu s1 ⟨y,H1,I1,ry,q⟩=>thn (ha pins s1 σ H1 _ I1 q) λov s2 ⟨x,H2,I2,rx,a,C,C0,f,ex,ea,qi,qf,q2⟩=>?_) hs;subst ex;obtain rfl:ov=Value.ref a:=rx;obtain⟨⟨t,he⟩,_⟩:=(show cL X.prog X.w H2 s2.heap a (gK a (.ref C) none) from I2.hok a _ ea)
 refine Ji I2.kIn qi he qf.sa qf.no λh' e1 e2 e3 tk=>?_;have fr:H2 s2.heap.objs.size=none:=I2.hok.fresh (Nat.le_refl _);refine⟨σ,_,?_,q2 _ fr⟩;have na:a≠s2.heap.objs.size:=Nat.ne_of_lt (Heap.lt_size he);have u1:=Heap.get?_update_self (λ_:Obj=>({ cls:=.ref C,data:=.fields #[.ref t,.none,.none,.none,.bool false,.none] }:Obj)) e1 rfl;have u2:∀b,b≠a->(h'.update a λ_:Obj=>({ cls:=.ref C,data:=.fields #[.ref t,.none,.none,.none,.bool false,.none] }:Obj)).get? b=h'.get? b:=λb nb=>Heap.get?_update_other _ _ (Ne.symm nb);generalize h'.update a (λ_:Obj=>({ cls:=.ref C,data:=.fields #[.ref t,.none,.none,.none,.bool false,.none] }:Obj))=h1 at u1 u2;have I3:Inv X pins σ (upd H2 s2.heap.objs.size (.xd [(nm,y)])) { s2 with heap:=h1,toks:=s2.toks }:=by
  refine I2.laid (a:=s2.heap.objs.size) (o:=.xd [(nm,y)]) (h':=h1) (t':=s2.toks) (λb u e=>?_) (Nat.le_refl _) ?_
  ·by_cases nb:b=a
   ·subst nb;rw[he] at e;cases e;exact u1
   ·rw[u2 b nb];exact e3 b u nb e
  ·obtain⟨od,es,ep,z1,z2⟩:=e2;refine⟨_,⟨od,es,ep,(u2 _ (Ne.symm na)).trans z1,z2⟩,λg=>?_⟩
   by_cases gg:g=nm
   ·subst gg;rw[if_pos rfl,lookup_cons,beq_self_eq_true];exact ry
   ·have:(g == nm)=false:=beq_eq_false_iff_ne.mpr gg;rw[if_neg gg,lookup_cons,this];exact True.intro
 have ea3:upd H2 s2.heap.objs.size (.xd [(nm,y)]) a=some (gK a (.ref C) none):=by rw[aR na];exact ea
 exact I3.write (x:=a) (e:=a) (h':=h') (t':=tk) (by rw[ea3];exact True.intro) (.inl rfl) (λb u nb z=>by rw[<- u2 b nb];exact z) ⟨_,e1⟩ (pZ e1)
end
section
variable {X:Cx} {o:Expr} {nm:Str} {pos:Pos} {ta:TE}
inductive Qg (K:Frag) (nm:Str) (Q:VK) (x:V) (H1:Hp):Prop where
 |mk (a C dx fs v):x=.ref a->H1 a=some (iK a (.ref C) (some dx))->H1 dx=some (.xd fs)->yJ K C->W.hasDictIn K C=true->W.findIn K (.ref C) nm=some none->fs.lookup nm=some v->Q v H1->Qg K nm Q x H1
def qk2 (K:Frag)(ta:TE)(nm:Str):TE:=λσ H Q=>ta σ H λx H1=>Qg K nm Q x H1
theorem uI (he:PE X o ta)(hb:attributeBase o nm X.env (eval o X.env)=eval o X.env):PE X (.Attribute o nm pos) (qk2 X.K ta nm):=by
 intro pins s σ H Q I h;refine Js hb (thn (he pins s σ H _ I h) λu s1 ⟨x,H1,I1,rx,a,C,dx,fs,v,ex,ea,ed,k,hh,hn,l,q⟩=>?_);subst ex;obtain rfl:u=Value.ref a:=rx;obtain⟨⟨ob,vs,h1,h2,h3,h4⟩,_⟩:=(show cL X.prog X.w H1 s1.heap a (iK a (.ref C) (some dx)) from I1.hok a _ ea)
 obtain⟨mA,N1,r⟩:=(show cL X.prog X.w H1 s1.heap dx (.xd fs) from I1.hok dx _ ed)
 obtain⟨w',hw,rw'⟩:=jT.some_of (v:=v) (o:=mA nm) (by rw[<- l];exact r nm);obtain⟨od,ho,hl⟩:=rH N1;have J:W.InstAt s1.heap a ob C (some od):=⟨h1,h2,by unfold W.notCls;rw[h4],by rw[h3];exact ho⟩
 unfold getAttr;refine wpAny_bind (wpAny_mkText (Ox (s:={ s1 with toks:=s1.toks+1 }) k I1.kIn J (yX rw') (.inl (W.findObj_own hh hn rfl (by rw[hl,hw]))) ?_));exact⟨v,H1,I1.tok _,rw',q⟩
end
end L2
namespace Shp
open PySem L2
inductive Fmd (K:Frag) (H0:Hp) (D:Addr) (H:Hp):List V->List (List Mq.Q2)->Prop where
 |nil:Fmd K H0 D H [] []
 |cons {u:Addr} {xs:List V} {ps:List Mq.Q2} {us:List V} {X:List (List Mq.Q2)} (n0:H0 u=none) (ne:u≠D) (h:H u=some (.lst xs)) (f:Fqs K H xs ps) (q:Fmd K H0 D H us X):Fmd K H0 D H (.ref u :: us) (ps :: X)
theorem Fmd.same (e:aS H H'):∀{xs:List V} {X:List (List Mq.Q2)},Fmd K H0 D H xs X->Fmd K H0 D H' xs X
 |_,_,.nil=>.nil
 |_,_,.cons n0 n h f q=>.cons n0 n (e _ _ h) (f.same e) (q.same e)
theorem Fmd.length:∀{xs:List V} {X:List (List Mq.Q2)},Fmd K H0 D H xs X->xs.length=X.length
 |_,_,.nil=>rfl
 |_,_,.cons _ _ _ _ q=>by rw[length_cons,length_cons,q.length]
def rL (X:List (List Mq.Q2)):Mat:=λi j=>Mq.val ((X.getD i []).getD j Mq.z0)
def oJ (m i:Nat)(row:List Mq.Q2):List Int:=iw row++(List.range m).map λc=>if c=i then dI row else 0
def kR (X:List (List Mq.Q2)):List (List Int):=X.mapIdx λi row=>oJ X.length i row
theorem Rj (X:List (List Mq.Q2)):(kR X).length=X.length:=by unfold kR;simp
theorem wF (h:i < X.length):(kR X).getD i []=oJ X.length i (X.getD i []):=by
 unfold kR;rw[getD_eq_getElem?_getD,getElem?_mapIdx,getD_eq_getElem?_getD,getElem?_eq_getElem h];rfl
theorem yQ {X:List (List Mq.Q2)}(h:i < X.length):X[i]?=some (X.getD i []):=by rw[getD_eq_getElem?_getD,getElem?_eq_getElem h];rfl
theorem Dn (m i:Nat)(row:List Mq.Q2):(oJ m i row).length=row.length+m:=by unfold oJ;simp[sK]
theorem Ac (hX:eE X)(hw:∀row∈X,row.length=X.length)(hi:i < X.length)(hx:x < X.length):Mq.at2 (kR X) i x=((dI (X.getD i []):Int):Rat)*rL X i x:=by
 have mem:=mem_of_getElem? (yQ hi);show ((((kR X).getD i []).getD x 0:Int):Rat)=_;rw[wF hi];unfold oJ;have l:=hw _ mem;rw[getD_eq_getElem?_getD,getElem?_append_left (by rw[sK];lia),<- getD_eq_getElem?_getD];exact Fy (hX _ mem) ()
theorem xH (hw:∀row∈X,row.length=X.length)(hi:i < X.length)(hk:k < X.length):Mq.ent (kR X) i (X.length+k)=if k=i then dI (X.getD i []) else 0:=by
 have mem:=mem_of_getElem? (yQ hi);unfold Mq.ent;rw[wF hi];unfold oJ;have l:=hw _ mem;rw[getD_eq_getElem?_getD,getElem?_append_right (by rw[sK];lia),sK,l,Nat.add_sub_cancel_left,getElem?_map,getElem?_range hk];rfl
theorem Wj (hX:eE X)(hw:∀row∈X,row.length=X.length):Mq.LI X.length (rL X) (kR X) where
 lin:=λi x hi hx=>by
  rw[Ac hX hw hi hx];have:(Mq.rs X.length λk=>Mq.at2 (kR X) i (X.length+k)*rL X k x)=Mq.rs X.length λk=>if k=i then ((dI (X.getD i []):Int):Rat)*rL X i x else 0:=aU λk hk=>by
   show ((Mq.ent (kR X) i (X.length+k):Int):Rat)*_=_;rw[xH hw hi hk]
   by_cases e:k=i
   ·rw[if_pos e,if_pos e,e]
   ·rw[if_neg e,if_neg e];simp
  rw[this,Mq.mU _ _ _ hi]
 ind:=λlam hz i hi=>by
  have e:=hz i hi;have:(Mq.rs X.length λj=>lam j*Mq.at2 (kR X) j (X.length+i))=Mq.rs X.length λj=>if j=i then lam i*((dI (X.getD i []):Int):Rat) else 0:=aU λk hk=>by
   show _*((Mq.ent (kR X) k (X.length+i):Int):Rat)=_;rw[xH hw hk hi]
   by_cases e:k=i
   ·rw[if_pos e,if_pos e.symm,e]
   ·rw[if_neg e,if_neg (Ne.symm e)];simp
  rw[this,Mq.mU _ _ _ hi] at e;have g:=pQ (hX _ (mem_of_getElem? (yQ hi)));have n:=cZ (show dI (X.getD i [])≠0 by lia);grind
theorem Uh (h:∀i j,i < X.length->j < X.length->Mq.at2 R i j=((dI (X.getD i []):Int):Rat)*rL X i j):Mq.det X.length (Mq.at2 R)=((lT X:Int):Rat)*wgt X:=by
 unfold wgt;have hb:=oI X X.length (Nat.le_refl _);rw[take_length] at hb;rw[hb,<- oO];exact cH λi j hi hj=>h i j hi hj
theorem Ts (hX:eE X)(hR:Mq.det X.length (Mq.at2 R)=((lT X:Int):Rat)*wgt X)(h:SI X.length w (Mq.at2 R) R' r X.length d sg):(r < X.length/\wgt X=0)\/(r=X.length/\wgt X≠0):=by
 have b1:=oN hX X.length (Nat.le_refl _);rw[take_length] at b1;have bn:=cZ (show lT X≠0 by lia);obtain⟨A,c,B,e⟩:=h.bar;have rm:=B.rm;have dn:=B.dne;clear B
 by_cases hr:r < X.length
 ·left
  have e:=h.lame hr;rw[hR] at e;exact⟨hr,by grind⟩
 ·right
  have er:r=X.length:=by lia
  subst er;refine⟨rfl,λz=>?_⟩;have e:=h.whole;rw[hR,z] at e;rcases h.one with q | q
  ·rw[q] at e;simp at e;grind
  ·rw[q,Rat.intCast_neg] at e;simp at e;grind
structure Stp (m w:Nat) (A0:Mat) (Pr:List (List Int)->Prop):Prop where
 sw:∀R r col d sg p,SI m w A0 R r col d sg->r < p->p < m->Pr R->Pr (fU R p r)
 cl:∀R r col d sg,SI m w A0 R r col d sg->r < m->col < w->Mq.ent R r col≠0->Pr R->Pr (cJ R r col d)
theorem qi4:Stp m w A0 (Mq.LI m Aq):=
 ⟨λR r col d sg p s h1 h2 h=>h.swap s.len h2 (),λR r col d sg s h1 h2 h3 h=>h.clear s h1 h2 h3⟩
end Shp
namespace Mq
theorem qp7 {row:List Q2}(h:j < row.length):row[j]?=some (row.getD j z0):=by rw[getD_eq_getElem?_getD,getElem?_eq_getElem h];rfl
end Mq
namespace Shp
open PySem L2
theorem Fmd.get:∀{xs:List V} {X:List (List Mq.Q2)} {i:Nat} {x:V},Fmd K H0 D H xs X->xs[i]?=some x->∃u ys ps,x=.ref u/\X[i]?=some ps/\H0 u=none/\u≠D/\H u=some (.lst ys)/\Fqs K H ys ps
 |_,_,0,_,.cons n0 n h f q,e=>by simp at e;exact⟨_,_,_,e.symm,rfl,n0,n,h,f⟩
 |_,_,i+1,_,.cons n0 n h f q,e=>by simp at e;exact q.get e
end Shp
namespace Mq
def KI (m:Nat)(A0:Mat)(R:List (List Int)):Prop:=∀Φ,Lin Φ->(∀k,k < m->Φ (at2 R k)=0)->∀i,i < m->Φ (A0 i)=0
theorem KI.swap (h:KI m A0 R)(hl:R.length=m)(hp:p < m)(hr:r < m):KI m A0 (fU R p r):=λΦ lin hz=>by
 refine h Φ lin λk hk=>?_;have e:at2 R k=at2 (fU R p r) (sw p r k):=by
  funext x
  rw[rK () (),Qv]
 rw[e];exact hz _ (Bs hp hr hk)
theorem KI.clear (h:KI m A1 R)(s:SI m w A0 R r col d sg)(hr:r < m)(hc:col < w)(he:ent R r col≠0):KI m A1 (cJ R r col d):=λΦ lin hz=>by
 have dn:=s.dne;have hn:at2 R r col≠0:=λz=>he (Rat.intCast_inj.mp (by unfold at2 at z;simpa using z));have cl:=λ(i:Nat) (hi:i < m) (x:Nat)=>uX s hr hc he hi x;have zr:Φ (at2 R r)=0:=by
  have e:at2 R r=at2 (cJ R r col d) r:=by funext x;rw[cl r hr x,if_pos rfl]
  rw[e];exact hz r hr
 refine h Φ lin λk hk=>?_
 by_cases e:k=r
 ·rw[e];exact zr
 ·have e2:at2 R k=λx=>(λx=>((d:Rat) / at2 R r col)*at2 (cJ R r col d) k x) x+(at2 R k col / at2 R r col)*at2 R r x:=by
   funext x
   show _=((d:Rat) / at2 R r col)*at2 (cJ R r col d) k x+_;rw[cl k hk x,if_neg e];grind
  rw[e2,lin,lin.mul,hz k hk,zr];grind
theorem KI.whole (h:KI m A1 R)(s:SI m w A0 R m m d sg)(hi:i < m):(rs m λk=>A1 i k*(at2 R k m / (d:Rat)))=A1 i m:=by
 obtain⟨A,c,B,e⟩:=s.bar;have dn:=B.dne;have:=h (λf=>(rs m λk=>f k*(at2 R k m / (d:Rat))) - f m) (λx y l=>by
  have:(rs m λk=>(x k+l*y k)*(at2 R k m / (d:Rat)))=(rs m λk=>x k*(at2 R k m / (d:Rat))+l*(y k*(at2 R k m / (d:Rat)))):=aU λk _=>by grind
  show (rs m λk=>(x k+l*y k)*(at2 R k m / (d:Rat))) - (x m+l*y m)=((rs m λk=>x k*(at2 R k m / (d:Rat))) - x m)+l*((rs m λk=>y k*(at2 R k m / (d:Rat))) - y m)
  rw[this,fD,fQ];grind) (λk hk=>by
  have:(rs m λj=>at2 R k j*(at2 R j m / (d:Rat)))=rs m λj=>if j=k then (d:Rat)*(at2 R k m / (d:Rat)) else 0:=aU λj hj=>by
   have i2:=B.i2 k j hk hj;rw[B.full rfl j hj] at i2;rw[i2]
   by_cases z:j=k
   ·rw[if_pos z,if_pos z,z]
   ·rw[if_neg z,if_neg z];grind
  show (rs m λj=>at2 R k j*(at2 R j m / (d:Rat))) - at2 R k m=0;rw[this,mU m k _ hk];grind) i hi
 have e2:(rs m λk=>A1 i k*(at2 R k m / (d:Rat))) - A1 i m=0:=this;grind
end Mq
namespace Shp
open PySem L2
def mI (X:List (List Mq.Q2))(qs:List Mq.Q2):List (List Mq.Q2):=zipWith (λrow q=>row++[q]) X qs
def iL (X:List (List Mq.Q2))(qs:List Mq.Q2):List (List Int):=(mI X qs).map iw
section
variable {X:List (List Mq.Q2)} {qs:List Mq.Q2}
theorem pN (hl:qs.length=X.length):(mI X qs).length=X.length:=by unfold mI;simp[hl]
theorem Eb (hl:qs.length=X.length):(iL X qs).length=X.length:=by unfold iL;rw[length_map,pN hl]
theorem qJ (hl:qs.length=X.length)(hi:i < X.length):(mI X qs).getD i []=X.getD i []++[qs.getD i Mq.z0]:=by
 unfold mI;rw[getD_eq_getElem?_getD,getElem?_zipWith,yQ hi,Mq.qp7 (show i < qs.length by lia)];rfl
theorem xM (hl:qs.length=X.length)(hi:i < X.length):(iL X qs).getD i []=iw (X.getD i []++[qs.getD i Mq.z0]):=by
 unfold iL;rw[getD_eq_getElem?_getD,getElem?_map,yQ (X:=mI X qs) (by rw[pN hl];exact hi),qJ hl hi];rfl
theorem uB (hX:eE X)(hq:Mq.Pos qs)(hl:qs.length=X.length)(hi:i < X.length):Mq.Pos (X.getD i []++[qs.getD i Mq.z0]):=λp hp=>by
 rcases mem_append.mp hp with z | z
 ·exact hX _ (mem_of_getElem? (yQ hi)) p z
 ·have e:p=qs.getD i Mq.z0:=by simpa using z
  rw[e];exact Mq.Pc hq i
theorem Gs (hX:eE X)(hq:Mq.Pos qs)(hl:qs.length=X.length):eE (mI X qs):=λrow hr=>by
 obtain⟨i,hi,rfl⟩:=getElem_of_mem hr;have hi':i < X.length:=by rw[pN hl] at hi;exact hi
 have e:=qJ hl hi';rw[getD_eq_getElem?_getD,getElem?_eq_getElem hi] at e;have e':(mI X qs)[i]=X.getD i []++[qs.getD i Mq.z0]:=e;rw[e'];exact uB hX hq hl hi'
theorem vS (hX:eE X)(hq:Mq.Pos qs)(hl:qs.length=X.length)(hw:∀row∈X,row.length=X.length)(hi:i < X.length)(hx:x < X.length+1):
  Mq.at2 (iL X qs) i x=((dI ((mI X qs).getD i []):Int):Rat)*if x < X.length then rL X i x else Mq.val (qs.getD i Mq.z0):=by
 have l:=hw _ (mem_of_getElem? (yQ hi));show ((((iL X qs).getD i []).getD x 0:Int):Rat)=_;rw[xM hl hi,qJ hl hi,Fy (uB hX hq hl hi) (by rw[List.length_append,l];simpa using hx)];congr 1
 by_cases h:x < X.length
 ·rw[if_pos h,getD_eq_getElem?_getD,getElem?_append_left (by rw[l];exact h),<- getD_eq_getElem?_getD];rfl
 ·have ex:x=X.length:=by lia
  rw[if_neg h,getD_eq_getElem?_getD,getElem?_append_right (by rw[l];lia),l,ex,Nat.sub_self];rfl
theorem Wk (hX:eE X)(hq:Mq.Pos qs)(hl:qs.length=X.length)(hw:∀row∈X,row.length=X.length):Mq.det X.length (Mq.at2 (iL X qs))=((lT (mI X qs):Int):Rat)*wgt X:=by
 unfold wgt;have hb:=oI (mI X qs) (mI X qs).length (Nat.le_refl _);rw[take_length,pN hl] at hb;rw[hb,<- oO];refine cH λi j hi hj=>?_;rw[vS hX hq hl hw hi (),if_pos hj];rfl
theorem Mh (fn:f≠0)(hR:Mq.det X.length (Mq.at2 R)=f*wgt X)(h:SI X.length w (Mq.at2 R) R' r X.length d sg):(r < X.length/\wgt X=0)\/(r=X.length/\wgt X≠0):=by
 obtain⟨A,c,B,e⟩:=h.bar;have rm:=B.rm;have dn:=B.dne;clear B
 by_cases hr:r < X.length
 ·left
  have e:=h.lame hr;rw[hR] at e;exact⟨hr,by grind⟩
 ·right
  have er:r=X.length:=by lia
  subst er;refine⟨rfl,λz=>?_⟩;have e:=h.whole;rw[hR,z] at e;rcases h.one with q | q
  ·rw[q] at e;simp at e;grind
  ·rw[q,Rat.intCast_neg] at e;simp at e;grind
theorem Sh (hX:eE X)(hq:Mq.Pos qs)(hl:qs.length=X.length)(hw:∀row∈X,row.length=X.length)(h:SI X.length w (Mq.at2 (iL X qs)) R' r X.length d sg):(r < X.length/\wgt X=0)\/(r=X.length/\wgt X≠0):=by
 have b1:=oN (Gs hX hq hl) (mI X qs).length (Nat.le_refl _);rw[take_length] at b1;exact Mh (cZ (show lT (mI X qs)≠0 by lia)) (Wk hX hq hl hw) h
end
structure Slv (X:List (List Mq.Q2)) (qs ps:List Mq.Q2):Prop where
 len:ps.length=X.length
 low:mL ps
 bd:∀p∈ps,Mq.Bd 9000 p
 sum:∀i,i < X.length->(Mq.rs X.length λj=>rL X i j*Mq.val (ps.getD j Mq.z0))=Mq.val (qs.getD i Mq.z0)
theorem qa7 (hX:eE X)(hq:Mq.Pos qs)(hl:qs.length=X.length)(hw:∀row∈X,row.length=X.length)(h:Mq.KI X.length (Mq.at2 (iL X qs)) R)(s:SI X.length w (Mq.at2 (iL X qs)) R X.length X.length d sg)(hi:i < X.length):(Mq.rs X.length λj=>rL X i j*(Mq.at2 R j X.length / (d:Rat)))=Mq.val (qs.getD i Mq.z0):=by
 have e:=h.whole s hi;rw[vS hX hq hl hw hi (),if_neg ()] at e;have e2:(Mq.rs X.length λk=>Mq.at2 (iL X qs) i k*(Mq.at2 R k X.length / (d:Rat)))=((dI ((mI X qs).getD i []):Int):Rat)*Mq.rs X.length λk=>rL X i k*(Mq.at2 R k X.length / (d:Rat)):=by
  rw[<- fQ];refine aU λk hk=>?_;rw[vS hX hq hl hw hi (),if_pos hk];grind
 rw[e2] at e;have g:=pQ (uB hX hq hl hi);have n:=cZ (show dI ((mI X qs).getD i [])≠0 by rw[qJ hl hi];lia);grind
end Shp
namespace Mq
def Wb (n:Nat)(x:Rat):Prop:=∃z:Int,x=(z:Rat)/\B n z
theorem Wb.mono (h:Wb n x)(l:n<=m):Wb m x:=by obtain⟨z,e,b⟩:=h;exact⟨z,e,b.mono l⟩
theorem Wb.mul (h:Wb n x)(k:Wb m y):Wb (n+m) (x*y):=by
 obtain⟨a,rfl,b⟩:=h;obtain⟨c,rfl,d⟩:=k;exact⟨a*c,by rw[Rat.intCast_mul],b.mul d⟩
theorem Wb.sub (h:Wb n x)(k:Wb n y):Wb (n+1) (x - y):=by
 obtain⟨a,rfl,b⟩:=h;obtain⟨c,rfl,d⟩:=k;exact⟨a - c,by rw[Rat.intCast_sub],b.sub d⟩
theorem Wb.neg (h:Wb n x):Wb n (-x):=by
 obtain⟨a,rfl,b⟩:=h;exact⟨-a,by rw[Rat.intCast_neg],b.neg⟩
theorem Wb.zero (n:Nat):Wb n 0:=⟨0,⋯,Nat.two_pow_pos _⟩
theorem Wb.one:Wb 1 1:=⟨1,⋯,show (1:Nat) < 2 ^ 1 by decide⟩
theorem Wb.sgn (h:Wb n x)(k:Nat):Wb n (Mq.sgn k*x):=by
 unfold Mq.sgn;split
 ·rw[show (1:Rat)*x=x by grind];exact h
 ·rw[show (-1:Rat)*x=-x by grind];exact h.neg
theorem Yb:∀K,(∀k,k < K->Wb n (f k))->∃z:Int,rs K f=(z:Rat)/\z.natAbs+K<=K*2 ^ n
 |0,_=>⟨0,by simp only[rs];simp,⋯⟩
 |K+1,h=>by
  obtain⟨z,e,b⟩:=Yb K λk hk=>h k ();obtain⟨y,e2,b2⟩:=h K ();refine⟨z+y,by simp only[rs];rw[e,e2,Rat.intCast_add],?_⟩;have:y.natAbs < 2 ^ n:=b2;rw[Nat.succ_mul];lia
def SB (n m:Nat)(R:List (List Int))(r col:Nat)(d:Int):Prop:=∃A c,Bar m A (at2 R) r col (d:Rat) c/\∀i x,i < m->Wb n (A i x)
theorem SB.start (hb:BdR n R):SB n m R 0 0 1:=
 ⟨at2 R,id,by
  have:=Bar.start (m:=m) (A:=at2 R) λi j=>⟨_,rfl⟩
  simpa using this,λi x _=>⟨ent R i x,rfl,hb i x⟩⟩
theorem SB.skip (h:SB n m R r col d)(hz:∀i,r<=i->i < m->ent R i col=0):SB n m R r (col+1) d:=by
 obtain⟨A,c,B,q⟩:=h;exact⟨A,c,B.skip λi h1 h2=>by unfold at2;rw[hz i h1 h2];simp,q⟩
theorem SB.swap (h:SB n m R r col d)(s:SI m w A0 R r col d sg)(hp:r < p)(hm:p < m):SB n m (fU R p r) r col d:=by
 obtain⟨A,c,B,q⟩:=h;have hl:=s.len;refine⟨_,c,(B.swap () hm).congr λi hi=>?_,λi x hi=>q _ x (Bs hm () hi)⟩
 funext x
 rw[rK () ()]
theorem SB.clear (h:SB n m R r col d)(s:SI m w A0 R r col d sg)(hr:r < m)(hc:col < w)(he:ent R r col≠0):SB n m (cJ R r col d) (r+1) (col+1) (ent R r col):=by
 obtain⟨A,c,B,q⟩:=h;have heq:at2 R r col≠0:=λz=>he (Rat.intCast_inj.mp (by unfold at2 at z;simpa using z));refine⟨A,_,(B.clear hr heq).congr λi hi=>?_,q⟩
 funext x
 rw[uX s hr hc he hi x];unfold clr
 by_cases e:i=r
 ·rw[if_pos e,if_pos e,e]
 ·rw[if_neg e,if_neg e]
end Mq
namespace Shp
open PySem L2
abbrev bq (n m:Nat):Nat:=(n+4)*(m+1)+7
end Shp
namespace L2
open PySem PyProof.Rows
theorem aK.calm {K:Frag}(F:aK P w K mg base (CX1 P w) k f fd ps sp):
  aK P w K mg base CX0 k f fd ps (λvs H Q _=>sp vs H Q (λ_ _ _=>False)):=
 ⟨λvs H Q E q=>F.len vs H Q _ q,λA outer s H args us vs Q E hr he hb hv hs=>codeAny_mono (F.run A outer s H args us vs Q _ hr he hb hv hs) λr s' h=>by
  cases r with
  |ok fl=>cases fl<;>exact h
  |error e=>
   obtain⟨a,C,d,H',_,_,_,_,_,_,z⟩:=h;exact z.elim⟩
open PySem.Spec
theorem aK.weak {K:Frag}(F:aK P w K mg base CX k f fd ps sp)(h:∀vs H Q E,sp' vs H Q E->sp vs H Q E):aK P w K mg base CX k f fd ps sp':=
 ⟨λvs H Q E q=>F.len vs H Q E (h _ _ _ _ q),λA outer s H args us vs Q E hr he hb hv hs=>F.run A outer s H args us vs Q E hr he hb hv (h _ _ _ _ hs)⟩
abbrev dF (m i j:Int):Prop:=0<=i/\i < m/\0<=j/\j < m
inductive Zv (K:Frag) (H:Hp):V->Option Mq.Q2->Prop where
 |fr {u:Addr} {p:Mq.Q2} (h:Fq K H u p) (l:Mq.Low p):Zv K H (.ref u) (some p)
 |ty {v:V} {t:Value} (h:TyQ K H v t) (n:W.kitOne K t (.type "tuple")=some false):Zv K H v none
 |len {u:Addr} {x y z:V} (h:SqT K H u [x,y,z]):Zv K H (.ref u) none
 |n0 {u:Addr} {x y:V} {t:Value} (h:SqT K H u [x,y]) (ty:kM K H x t) (n:iD t):Zv K H (.ref u) none
 |n1 {u:Addr} {i:Int} {y:V} {t:Value} (h:SqT K H u [.int i,y]) (ty:kM K H y t) (n:iD t):Zv K H (.ref u) none
 |fb {u:Addr} {p:Mq.Q2} (h:Fq K H u p) (c:p.2 < 1\/(1<=p.2/\gc p.1 p.2≠1)):Zv K H (.ref u) none
abbrev Bz (o:Option Mq.Q2):Prop:=∀p,o=some p->Mq.Bd 1000 p
inductive Fm (K:Frag) (vs:List V) (H:Hp) (Q:VK) (E:XK):Prop where
 |mk (v:V) (o:Option Mq.Q2):vs=[v]->Zv K H v o->Q (.bl o.isSome) H->Fm K vs H Q E
inductive gX (CK:Kd->Addr) (K:Frag) (H:Hp):List V->List RD->Prop where
 |nil:gX CK K H [] []
 |cons {x z:Addr} {k:Kd} {i j:Int} {p:Mq.Q2} {xs:List V} {ds:List RD} (h:Rw CK H x k (.int i) (.int j) (.ref z)) (f:Fq K H z p) (q:gX CK K H xs ds):gX CK K H (.ref x :: xs) ((k,i,j,p) :: ds)
section
variable {CK:Kd->Addr} {K:Frag} {H H':Hp}
theorem gX.same (e:aS H H'):∀{xs:List V} {ds:List RD},gX CK K H xs ds->gX CK K H' xs ds
 |_,_,.nil=>.nil
 |_,_,.cons h f q=>.cons (h.same e) (e.fq f) (gX.same e q)
theorem gX.length:∀{xs:List V} {ds:List RD},gX CK K H xs ds->xs.length=ds.length
 |_,_,.nil=>rfl
 |_,_,.cons _ _ q=>by simp[gX.length q]
theorem gX.app:∀{xs ys:List V} {ds es:List RD},gX CK K H xs ds->gX CK K H ys es->gX CK K H (xs++ys) (ds++es)
 |_,_,_,_,.nil,r=>r
 |_,_,_,_,.cons h f q,r=>.cons h f (gX.app q r)
theorem gX.at:∀{xs:List V} {ds:List RD} {q:Nat} {d:RD},gX CK K H xs ds->ds[q]?=some d->∃x z,xs[q]?=some (.ref x)/\Rw CK H x d.1 (.int d.2.1) (.int d.2.2.1) (.ref z)/\Fq K H z d.2.2.2
 |_,_,_,_,.nil,h=>by simp at h
 |_,_,0,_,.cons h f _,e=>by simp at e;subst e;exact⟨_,_,rfl,h,f⟩
 |_,_,i+1,_,.cons _ _ q,e=>by simpa using gX.at q (by simpa using e)
theorem gX.upd (hl:H l=some (.lst ys)):∀{xs:List V} {ds:List RD},gX CK K H xs ds->gX CK K (L2.upd H l o) xs ds
 |_,_,.nil=>.nil
 |_,_,.cons (h:=h) f q=>by
  obtain⟨dx,e⟩:=h;exact .cons ⟨dx,by rw[aR (jP e hl (λz=>by cases z))];exact e⟩ (f.upd hl) (gX.upd hl q)
end
inductive lQ (CN:Addr) (K:Frag) (CK:Kd->Addr) (vs:List V) (H:Hp) (Q:VK) (E:XK):Prop where
 |mk (n l:Addr) (m:Int) (ds:List RD):vs=[.ref n]->dW CN K H n l m ds->ds.length<=100->(∀a xs H',aS H H'->H a=none->H' a=some (.lst xs)->gX CK K H' xs ds->Q (.ref a) H')->lQ CN K CK vs H Q E
end L2
namespace Mq
inductive Wt:List Q2->Nat->Prop where
 |nil:Wt [] 0
 |cons {p:Q2} {ps:List Q2} {n w:Nat} (h:Bd n p) (q:Wt ps w):Wt (p :: ps) (n+1+w)
theorem Wt.at:∀{ps:List Q2} {w i:Nat} {p:Q2},Wt ps w->ps[i]?=some p->∃w' n,Wt (ps.take i) w'/\Bd n p/\w' + n+1<=w
 |_,_,_,_,.nil,h=>by simp at h
 |_,_,0,_,.cons (n:=n) h q,e=>by
  simp at e;subst e;exact⟨0,n,.nil,h,()⟩
 |_,_,i+1,_,.cons (n:=n) h q,e=>by
  obtain⟨w',n',a,b,c⟩:=Wt.at q (by simpa using e);exact⟨n+1+w',n',.cons h a,b,()⟩
theorem Wt.fold:∀{ps:List Q2} {w k:Nat} {p:Q2},Wt ps w->Pos ps->1<=p.2->Bd k p->Bd (k+w) (ps.foldl jJ p)
 |_,_,_,_,.nil,_,_,h=>h
 |_,_,k,p,.cons (p:=q) (n:=n) (w:=w) h r,hp,p1,b=>by
  have q1:=hp q ⋯;have:=Wt.fold r (λx hx=>hp x (mem_cons_of_mem _ hx)) (kI p1 q1).pos (Az b h p1 q1);exact this.mono ()
theorem Wt.tot (h:Wt ps w)(hp:Pos ps):Bd (1+w) (tot ps):=h.fold hp ∅ ⟨show (0:Nat) < 2 ^ 1 by decide,show (1:Nat) < 2 ^ 1 by decide⟩
end Mq
namespace L2
open PySem PySem.Spec PyProof.Rows
abbrev RE:=RD × Mq.Q2
def pE (k:Kd)(l:List RD):List RD:=l.filter λd=>decide (d.1=k)
theorem Mm (k:Kd)(l:List RD)(e:RD):pE k (l++[e])=if e.1=k then pE k l++[e] else pE k l:=by
 unfold pE;rw[filter_append]
 by_cases h:e.1=k
 ·rw[if_pos h];simp[h]
 ·rw[if_neg h];simp[h]
inductive Gx (K:Frag) (vs:List V) (H:Hp) (Q:VK) (E:XK):Prop where
 |mk (a:Addr) (xs:List V) (ps:List Mq.Q2) (w:Nat):vs=[.ref a]->SqL K H a xs->Fqs K H xs ps->Mq.Pos ps->Mq.Wt ps w->w+1<=9000->(∀r H',aS H H'->Fq K H' r (tot ps)->Q (.ref r) H')->Gx K vs H Q E
inductive Gj (K:Frag) (vs:List V) (H:Hp) (Q:VK) (E:XK):Prop where
 |mk (a b:Addr) (p q:Mq.Q2) (n m:Nat):vs=[.ref a,.ref b]->Fq K H a p->Fq K H b q->1<=p.2->1<=q.2->0 < q.1->Mq.Bd n p->Mq.Bd m q->n+m+1<=9000->Ha H Q (tV p q)->Gj K vs H Q E
section
variable {m n:Nat} {hp:List Mq.Q2} {d:RD} {e:RE}
theorem wY {ps:List Mq.Q2}(h:j < ps.length):ps[j]?=some (ps.getD j (0,1)):=by rw[getD_eq_getElem?_getD,getElem?_eq_getElem h];rfl
end
def rzl (ps:List Mq.Q2)(j:Nat)(a:Mq.Q2):List Mq.Q2:=ps.set j (Mq.jJ (ps.getD j (0,1)) a)
def iU (M:List (List Mq.Q2))(i j:Nat):Mq.Q2:=(M.getD i []).getD j (0,1)
def rz (M:List (List Mq.Q2))(i j:Nat)(a:Mq.Q2):List (List Mq.Q2):=M.set i (rzl (M.getD i []) j a)
structure MxB (M:List (List Mq.Q2)) (h w n:Nat):Prop where
 h:M.length=h
 w:∀ps∈M,ps.length=w
 l:∀ps∈M,∀p∈ps,Mq.Low p/\Mq.Bd n p
theorem MxB.mono {h w n n':Nat}(b:MxB M h w n)(le:n<=n'):MxB M h w n':=⟨b.h,b.w,λps hp p hp'=>⟨(b.l ps hp p hp').1,(b.l ps hp p hp').2.mono le⟩⟩
theorem MxB.row {h w n i:Nat}(b:MxB M h w n)(hi:i < h):M[i]?=some (M.getD i [])/\M.getD i []∈M/\(M.getD i []).length=w:=by
 have hi':i < M.length:=by rw[b.h];exact hi
 have e:M.getD i []=M[i]:=by rw[getD_eq_getElem?_getD,getElem?_eq_getElem hi'];rfl
 rw[e];exact⟨getElem?_eq_getElem hi',getElem_mem hi',b.w _ (getElem_mem hi')⟩
theorem MxB.at {h w n i j:Nat}(b:MxB M h w n)(hi:i < h)(hj:j < w):(M.getD i [])[j]?=some (iU M i j)/\Mq.Low (iU M i j)/\Mq.Bd n (iU M i j):=by
 obtain⟨e,m,l⟩:=b.row hi;have hj':j < (M.getD i []).length:=by rw[l];exact hj
 have:=wY hj';exact⟨this,b.l _ m _ (mem_of_getElem? this)⟩
theorem MxB.rz {h w n k i j:Nat}(b:MxB M h w n)(hi:i < h)(hj:j < w)(la:Mq.Low a)(ba:Mq.Bd k a):MxB (L2.rz M i j a) h w (n+k+1):=by
 obtain⟨e,m,l⟩:=b.row hi;obtain⟨e2,l2,b2⟩:=b.at hi hj;refine⟨by unfold L2.rz;rw[length_set];exact b.h,λps hp=>?_,λps hp p hp'=>?_⟩
 ·rcases mem_or_eq_of_mem_set hp with z | z
  ·exact b.w ps z
  ·rw[z];unfold rzl;rw[length_set];exact l
 ·rcases mem_or_eq_of_mem_set hp with z | z
  ·have:=b.l ps z p hp';exact⟨this.1,this.2.mono ()⟩
  ·rw[z] at hp';unfold rzl at hp';rcases mem_or_eq_of_mem_set hp' with y | y
   ·have:=b.l _ m p y;exact⟨this.1,this.2.mono ()⟩
   ·rw[y];exact⟨Mq.kI l2.pos la.pos,Az b2 ba l2.pos la.pos⟩
theorem As (b:MxB M h w n)(hi:i < h)(hj:j < w)(la:Mq.Low a)(x y:Nat):Mq.val (iU (L2.rz M i j a) x y)=Mq.val (iU M x y)+if i=x/\j=y then Mq.val a else 0:=by
 obtain⟨e,m,l⟩:=b.row hi;obtain⟨e2,l2,b2⟩:=b.at hi hj;have hl:i < M.length:=by rw[b.h];exact hi
 unfold iU L2.rz
 by_cases c:i=x
 ·subst c;have e3:(M.set i (rzl (M.getD i []) j a)).getD i []=rzl (M.getD i []) j a:=by rw[getD_eq_getElem?_getD,getElem?_set,if_pos rfl,if_pos hl];rfl
  rw[e3];unfold rzl
  by_cases d:j=y
  ·subst d;have e4:((M.getD i []).set j (Mq.jJ ((M.getD i []).getD j (0,1)) a)).getD j (0,1)=Mq.jJ ((M.getD i []).getD j (0,1)) a:=by rw[getD_eq_getElem?_getD,getElem?_set,if_pos rfl,if_pos (by rw[l];exact hj)];rfl
   rw[e4,if_pos ⟨rfl,rfl⟩];exact Mq.mM l2.pos la.pos
  ·have e4:((M.getD i []).set j (Mq.jJ ((M.getD i []).getD j (0,1)) a)).getD y (0,1)=(M.getD i []).getD y (0,1):=by rw[getD_eq_getElem?_getD,getElem?_set,if_neg d,<- getD_eq_getElem?_getD]
   rw[e4,if_neg (λz=>d z.2),Rat.add_zero]
 ·have e3:(M.set i (rzl (M.getD i []) j a)).getD x []=M.getD x []:=by rw[getD_eq_getElem?_getD,getElem?_set,if_neg c,<- getD_eq_getElem?_getD]
  rw[e3,if_neg (λz=>c z.1),Rat.add_zero]
structure LnB (R:List Mq.Q2) (w n:Nat):Prop where
 w:R.length=w
 l:∀p∈R,Mq.Low p/\Mq.Bd n p
theorem LnB.mono {w n n':Nat}(b:LnB R w n)(le:n<=n'):LnB R w n':=⟨b.w,λp hp=>⟨(b.l p hp).1,(b.l p hp).2.mono le⟩⟩
theorem LnB.at {w n j:Nat}(b:LnB R w n)(hj:j < w):R[j]?=some (R.getD j (0,1))/\Mq.Low (R.getD j (0,1))/\Mq.Bd n (R.getD j (0,1)):=by
 have hj':j < R.length:=by rw[b.w];exact hj
 have:=wY hj';exact⟨this,b.l _ (mem_of_getElem? this)⟩
theorem LnB.set {w n j:Nat}(b:LnB R w n)(lq:Mq.Low q)(bq:Mq.Bd n q):LnB (R.set j q) w n:=⟨by rw[length_set];exact b.w,λp hp=>by
 rcases mem_or_eq_of_mem_set hp with z | z
 ·exact b.l p z
 ·rw[z];exact⟨lq,bq⟩⟩
theorem LnB.rz {w n k j:Nat}(b:LnB R w n)(hj:j < w)(la:Mq.Low a)(ba:Mq.Bd k a):LnB (rzl R j a) w (n+k+1):=by
 obtain⟨_,l2,b2⟩:=b.at hj;exact(b.mono ()).set (Mq.kI l2.pos la.pos) (Az b2 ba l2.pos la.pos)
theorem zX {R:List Mq.Q2}(hj:j < R.length):(R.set j q).getD y (0,1)=if j=y then q else R.getD y (0,1):=by
 rw[getD_eq_getElem?_getD,getElem?_set]
 by_cases e:j=y
 ·rw[if_pos e,if_pos e,if_pos ()];rfl
 ·rw[if_neg e,if_neg e,<- getD_eq_getElem?_getD]
theorem Kv (b:LnB R w n)(hj:j < w)(la:Mq.Low a)(y:Nat):Mq.val ((rzl R j a).getD y (0,1))=Mq.val (R.getD y (0,1))+if j=y then Mq.val a else 0:=by
 obtain⟨_,l2,b2⟩:=b.at hj;unfold rzl;rw[zX (by rw[b.w];exact hj)]
 by_cases d:j=y
 ·subst d;rw[if_pos rfl,if_pos rfl];exact Mq.mM l2.pos la.pos
 ·rw[if_neg d,if_neg d,Rat.add_zero]
def SX (as:List Addr)(H H':Hp):Prop:=∀b o,H b=some o->b∉as->H' b=some o
theorem aS.sx (s:aS H H'):SX as H H':=λb o e _=>s b o e
theorem SX.trans (a:SX as H H1)(b:SX as H1 H2):SX as H H2:=λc o h n=>b c o (a c o h n) n
theorem SX.write (a:SX as H H1)(hl:l∈as):SX as H (upd H1 l o):=λc u h n=>by rw[aR (λz=>n (by rw[z];exact hl))];exact a c u h n
theorem SX.mono (a:SX as H H')(h:∀x∈as,x∈bs):SX bs H H':=λc o e n=>a c o e λz=>n (h c z)
theorem SX.same (s:aS H0 H)(a:SX as H H')(h:∀x∈as,H0 x=none):aS H0 H':=λc o e=>a c o (s c o e) λz=>by rw[h c z] at e;cases e
def Hm (as:List Addr)(H:Hp):Prop:=∀a∈as,∃xs,H a=some (.lst xs)
theorem SX.seqT {K:Frag}(hl:Hm as H)(e:SX as H H')(h:SqT K H a xs):SqT K H' a xs:=by
 have nx:∀{o:HO},H a=some o->(∀ys,o≠.lst ys)->a∉as:=λho n z=>by
  obtain⟨ys,hy⟩:=hl a z;rw[hy] at ho;exact n ys (Option.some.inj ho).symm
 rcases h with (h | ⟨u,h⟩) | h
 ·exact .inl (.inl (e _ _ h (nx h λys z=>by cases z)))
 ·exact .inl (.inr ⟨u,e _ _ h (nx h λys z=>by cases z)⟩)
 ·exact .inr h
theorem SX.rw (hl:Hm as H)(e:SX as H H')(h:Rw CK H x k s g z):Rw CK H' x k s g z:=by
 obtain⟨dx,q⟩:=h;refine⟨dx,e _ _ q λy=>?_⟩;obtain⟨ys,hy⟩:=hl x y;rw[hy] at q;cases q
theorem SX.fqs {K:Frag}(hl:Hm as H)(e:SX as H H'):∀{xs:List V} {ps:List Mq.Q2},Fqs K H xs ps->Fqs K H' xs ps
 |_,_,.nil=>.nil
 |_,_,.cons f q=>.cons (e.seqT hl f) (SX.fqs hl e q)
structure Mx (K:Frag) (H:Hp) (D:Addr) (as:List Addr) (M:List (List Mq.Q2)):Prop where
 d:H D=some (.lst (as.map V.ref))
 n:as.Nodup
 nd:D∉as
 la:as.length=M.length
 r:∀(i:Nat) (a:Addr) (ps:List Mq.Q2),as[i]?=some a->M[i]?=some ps->∃xs,H a=some (.lst xs)/\Fqs K H xs ps
theorem Mx.lsts {K:Frag}(m:Mx K H D as M):Hm as H:=λa ha=>by
 obtain⟨i,hi⟩:=getElem?_of_mem ha;have il:=(List.getElem?_eq_some_iff.mp hi).1;have il':i < M.length:=by rw[<- m.la];exact il
 obtain⟨xs,h,_⟩:=m.r i a M[i] hi (getElem?_eq_getElem il');exact⟨xs,h⟩
theorem Mx.same {K:Frag}(s:aS H H')(m:Mx K H D as M):Mx K H' D as M:=⟨s _ _ m.d,m.n,m.nd,m.la,λi a ps h1 h2=>by
 obtain⟨xs,h,f⟩:=m.r i a ps h1 h2;exact⟨xs,s _ _ h,f.same s⟩⟩
theorem Mx.other {K:Frag}(m:Mx K H D as M)(hl:H l=some (.lst ys))(n1:l≠D)(n2:l∉as):Mx K (upd H l o) D as M:=⟨by rw[aR (Ne.symm n1)];exact m.d,m.n,m.nd,m.la,λi a ps h1 h2=>by
 obtain⟨xs,h,f⟩:=m.r i a ps h1 h2;exact⟨xs,by rw[aR (λz=>n2 (by rw[<- z];exact mem_of_getElem? h1))];exact h,f.upd hl⟩⟩
theorem Mx.set {K:Frag}(m:Mx K H D as M)(ha:as[i]?=some a)(hp:M[i]?=some ps)(hx:H a=some (.lst xs))(hF:Fqs K H xs ps)(s:aS H H1)(fv:Fq K H1 v q):Mx K (upd H1 a (.lst (xs.set j (.ref v)))) D as (M.set i (ps.set j q))/\SX as H (upd H1 a (.lst (xs.set j (.ref v)))):=by
 have ma:=mem_of_getElem? ha;have hx1:=s _ _ hx;have il:=(List.getElem?_eq_some_iff.mp ha).1;refine⟨⟨?_,m.n,m.nd,by rw[length_set];exact m.la,λk b qs h1 h2=>?_⟩,s.sx.write ma⟩
 ·rw[aR (λz=>m.nd (by rw[z];exact ma))];exact s _ _ m.d
 ·rw[getElem?_set] at h2
  by_cases c:i=k
  ·subst c;rw[ha] at h1;have h1:a=b:=Option.some.inj h1;subst h1;rw[if_pos rfl] at h2;split at h2
   ·have h2:ps.set j q=qs:=Option.some.inj h2;rw[<- h2];exact⟨_,aB,(Fqs.set fv j (hF.same s)).upd hx1⟩
   ·cases h2
  ·rw[if_neg c] at h2;obtain⟨ys,hy,fy⟩:=m.r k b qs h1 h2;have nb:b≠a:=λz=>by
    subst z;have kl:=(List.getElem?_eq_some_iff.mp h1).1;have e1:as[i]'il=b:=(List.getElem?_eq_some_iff.mp ha).2;have e2:as[k]'kl=b:=(List.getElem?_eq_some_iff.mp h1).2;exact c ((getElem_inj m.n).mp (e1.trans e2.symm))
   exact⟨ys,by rw[aR nb];exact s _ _ hy,(fy.same s).upd hx1⟩
def dB (k:Kd):Nat:=if k=.ho then 1 else 0
def en (M:List (List Mq.Q2))(d:RD)(c:Nat)(a:Mq.Q2):List (List Mq.Q2):=rz (rz M d.2.1.toNat c a) d.2.2.1.toNat c (Mq.minus (0,1) a)
def dl (s g x:Nat):Rat:=(if s=x then 1 else 0) - (if g=x then 1 else 0)
def cM (d:RD)(h x y:Nat):Rat:=match d.1 with
 | .pc=>dl d.2.1.toNat d.2.2.1.toNat x*dl d.2.1.toNat d.2.2.1.toNat y*(1 / Mq.val d.2.2.2)
 | .pu=>0
 | .ho=>dl d.2.1.toNat d.2.2.1.toNat x*(if h=y then 1 else 0)+(if h=x then 1 else 0)*dl d.2.1.toNat d.2.2.1.toNat y
def cR (d:RD)(h x:Nat):Rat:=match d.1 with
 | .pc=>0
 | .pu=>- dl d.2.1.toNat d.2.2.1.toNat x*Mq.val d.2.2.2
 | .ho=>if h=x then Mq.val d.2.2.2 else 0
def eqM:Nat->List RD->Nat->Nat->Rat
 |_,[],_,_=>0
 |h,d :: ds,x,y=>cM d h x y+eqM (h+dB d.1) ds x y
def eqR:Nat->List RD->Nat->Rat
 |_,[],_=>0
 |h,d :: ds,x=>cR d h x+eqR (h+dB d.1) ds x
def cX (ds:List RD):Nat:=(pE .ho ds).length
theorem mC (ds:List RD)(d:RD):cX (ds++[d])=cX ds+dB d.1:=by
 unfold cX dB;rw[Mm];split
 ·rw[List.length_append];rfl
 ·rfl
theorem iB (d:RD)(ds:List RD):cX (d :: ds)=dB d.1+cX ds:=by
 unfold cX dB pE
 by_cases h:d.1=.ho
 ·rw[filter_cons_of_pos (by exact decide_eq_true h),if_pos h,length_cons];lia
 ·rw[filter_cons_of_neg (by simp[h]),if_neg h];lia
theorem Dt (d:RD)(x y:Nat):∀(ds:List RD) (h:Nat),eqM h (ds++[d]) x y=eqM h ds x y+cM d (h+cX ds) x y
 | [],h=>by show cM d h x y+0=0+cM d (h+0) x y;rw[Nat.add_zero];grind
 |e :: ds,h=>by
  show cM e h x y+eqM (h+dB e.1) (ds++[d]) x y=cM e h x y+eqM (h+dB e.1) ds x y+_;rw[Dt d x y ds,iB,Nat.add_assoc];grind
theorem Ec (d:RD)(x:Nat):∀(ds:List RD) (h:Nat),eqR h (ds++[d]) x=eqR h ds x+cR d (h+cX ds) x
 | [],h=>by show cR d h x+0=0+cR d (h+0) x;rw[Nat.add_zero];grind
 |e :: ds,h=>by
  show cR e h x+eqR (h+dB e.1) (ds++[d]) x=cR e h x+eqR (h+dB e.1) ds x+_;rw[Ec d x ds,iB,Nat.add_assoc];grind
theorem hV:Mq.Low (1,1):=⟨∅,∅⟩
theorem mX (la:Mq.Low a)(ba:Mq.Bd k a):Mq.Low (Mq.minus (0,1) a)/\Mq.Bd (k+2) (Mq.minus (0,1) a)/\Mq.val (Mq.minus (0,1) a)=- Mq.val a:=by
 have h01:1<=((0,1):Mq.Q2).2:=by decide
 have b01:Mq.Bd 1 (0,1):=⟨show (0:Nat) < 2 ^ 1 by decide,show (1:Nat) < 2 ^ 1 by decide⟩
 refine⟨Mq.fP h01 la.pos,(Mq.Ri b01 ba h01 la.pos).mono (),?_⟩;rw[Mq.fB h01 la.pos,Mq.tS];grind
theorem Do (b:MxB M h w n)(pt:dF (h:Int) d.2.1 d.2.2.1)(hc:c < w)(la:Mq.Low a)(ba:Mq.Bd k a):MxB (en M d c a) h w (n+2*k+4)/\∀x y,Mq.val (iU (en M d c a) x y)=Mq.val (iU M x y)+dl d.2.1.toNat d.2.2.1.toNat x*(if c=y then 1 else 0)*Mq.val a:=by
 obtain⟨i0,i1,j0,j1⟩:=pt;obtain⟨ln,bn,vn⟩:=mX la ba;have b1:=b.rz (i:=d.2.1.toNat) () hc la ba;have b2:=b1.rz (i:=d.2.2.1.toNat) () hc ln bn;refine⟨b2.mono (),λx y=>?_⟩;unfold en;rw[As b1 () hc ln,As b () hc la,vn];unfold dl
 by_cases c1:d.2.1.toNat=x<;>by_cases c2:d.2.2.1.toNat=x<;>by_cases c3:c=y<;>simp only[c1,c2,c3,true_and,and_true,false_and,and_false,and_self,if_true,if_false]<;>grind
def hM (M:List (List Mq.Q2))(d:RD)(c:Nat):List (List Mq.Q2):=rz (rz (en M d c (1,1)) c d.2.1.toNat (1,1)) c d.2.2.1.toNat (Mq.minus (0,1) (1,1))
def pM (M:List (List Mq.Q2))(d:RD):List (List Mq.Q2):=en (en M d d.2.1.toNat (tV (1,1) d.2.2.2)) d d.2.2.1.toNat (Mq.minus (0,1) (tV (1,1) d.2.2.2))
def pR (rs:List Mq.Q2)(d:RD):List Mq.Q2:=rzl (rzl rs d.2.1.toNat (Mq.minus (0,1) d.2.2.2)) d.2.2.1.toNat d.2.2.2
theorem gW:Mq.Bd 1 (1,1):=⟨show (1:Nat) < 2 ^ 1 by decide,show (1:Nat) < 2 ^ 1 by decide⟩
theorem h11:1<=((1,1):Mq.Q2).2:=by decide
theorem Ex (l:Mq.Low p)(h0:0 < p.1)(b:Mq.Bd k p):Mq.Low (tV (1,1) p)/\Mq.Bd (k+1) (tV (1,1) p)/\Mq.val (tV (1,1) p)=1 / Mq.val p:=by
 refine⟨Mq.Qi h11 (),(Mq.Wz gW b h11 ()).mono (),?_⟩;rw[Mq.Oj h11 l.pos (),Oh]
theorem qo5 {w n k m h:Nat}(b:MxB M w w n)(pt:dF (m:Int) d.2.1 d.2.2.1)(hm:m<=w)(hk:d.1=.pc)(l:Mq.Low d.2.2.2)(h0:0 < d.2.2.2.1)(bk:Mq.Bd k d.2.2.2):MxB (pM M d) w w (n+4*k+20)/\∀x y,Mq.val (iU (pM M d) x y)=Mq.val (iU M x y)+cM d h x y:=by
 obtain⟨i0,i1,j0,j1⟩:=pt;obtain⟨ls,bs,vs⟩:=Ex l h0 bk;obtain⟨ln,bn,vn⟩:=mX ls bs;have pt':dF (w:Int) d.2.1 d.2.2.1:=⟨i0,(),j0,()⟩
 obtain⟨b1,v1⟩:=Do b pt' (c:=d.2.1.toNat) () ls bs;obtain⟨b2,v2⟩:=Do b1 pt' (c:=d.2.2.1.toNat) () ln bn;refine⟨b2.mono (),λx y=>?_⟩;unfold pM;rw[v2,v1,vn,vs];unfold cM;rw[hk];show _=_+dl d.2.1.toNat d.2.2.1.toNat x*dl d.2.1.toNat d.2.2.1.toNat y*(1 / Mq.val d.2.2.2)
 generalize 1 / Mq.val d.2.2.2=v;generalize dl d.2.1.toNat d.2.2.1.toNat x=u;unfold dl
 by_cases c1:d.2.1.toNat=y<;>by_cases c2:d.2.2.1.toNat=y<;>simp only[c1,c2,if_true,if_false]<;>grind
theorem qn0 {w n m c:Nat}(b:MxB M w w n)(pt:dF (m:Int) d.2.1 d.2.2.1)(hm:m<=w)(hc:c < w)(hk:d.1=.ho):MxB (hM M d c) w w (n+20)/\∀x y,Mq.val (iU (hM M d c) x y)=Mq.val (iU M x y)+cM d c x y:=by
 obtain⟨i0,i1,j0,j1⟩:=pt;have pt':dF (w:Int) d.2.1 d.2.2.1:=⟨i0,(),j0,()⟩
 obtain⟨ln,bn,vn⟩:=mX hV gW;obtain⟨b1,v1⟩:=Do b pt' hc hV gW;have b2:=b1.rz (i:=c) (j:=d.2.1.toNat) hc () hV gW;have b3:=b2.rz (i:=c) (j:=d.2.2.1.toNat) hc () ln bn;refine⟨b3.mono (),λx y=>?_⟩;unfold hM;rw[As b2 hc () ln,As b1 hc () hV,v1,vn,Oh];unfold cM;rw[hk];show _=_+(dl d.2.1.toNat d.2.2.1.toNat x*(if c=y then 1 else 0)+(if c=x then 1 else 0)*dl d.2.1.toNat d.2.2.1.toNat y)
 generalize dl d.2.1.toNat d.2.2.1.toNat x=u;unfold dl
 by_cases c1:d.2.1.toNat=y<;>by_cases c2:d.2.2.1.toNat=y<;>by_cases c3:c=x<;>by_cases c4:c=y<;>simp only[c1,c2,c3,c4,true_and,and_true,false_and,and_false,and_self,if_true,if_false]<;>grind
theorem Yd {w n k m h:Nat}(b:LnB rs w n)(pt:dF (m:Int) d.2.1 d.2.2.1)(hm:m<=w)(hk:d.1=.pu)(l:Mq.Low d.2.2.2)(bk:Mq.Bd k d.2.2.2):LnB (pR rs d) w (n+4*k+20)/\∀x,Mq.val ((pR rs d).getD x (0,1))=Mq.val (rs.getD x (0,1))+cR d h x:=by
 obtain⟨i0,i1,j0,j1⟩:=pt;obtain⟨ln,bn,vn⟩:=mX l bk;have b1:=b.rz (j:=d.2.1.toNat) () ln bn;have b2:=b1.rz (j:=d.2.2.1.toNat) () l bk;refine⟨b2.mono (),λx=>?_⟩;unfold pR;rw[Kv b1 () l,Kv b () ln,vn];unfold cR;rw[hk];show _=_ + - dl d.2.1.toNat d.2.2.1.toNat x*Mq.val d.2.2.2;unfold dl
 by_cases c1:d.2.1.toNat=x<;>by_cases c2:d.2.2.1.toNat=x<;>simp only[c1,c2,if_true,if_false]<;>grind
theorem yU {m:Nat}:∀(ds:List RD) (h x:Nat),(∀d∈ds,dF (m:Int) d.2.1 d.2.2.1)->m<=h->h+cX ds<=x->eqR h ds x=0
 | [],_,_,_,_,_=>rfl
 |d :: ds,h,x,pt,hm,hx=>by
  rw[iB] at hx;have ih:=yU ds (h+dB d.1) x (λe he=>pt e (mem_cons_of_mem _ he)) () ();obtain⟨i0,i1,j0,j1⟩:=pt d ⋯;show cR d h x+eqR (h+dB d.1) ds x=0;rw[ih];have z:dl d.2.1.toNat d.2.2.1.toNat x=0:=by unfold dl;rw[if_neg (),if_neg ()];grind
  unfold cR
  cases hk:d.1 with
  |pc=>show (0:Rat)+0=0;grind
  |pu=>show - dl d.2.1.toNat d.2.2.1.toNat x*Mq.val d.2.2.2+0=0;rw[z];grind
  |ho=>
   have:dB d.1=1:=by unfold dB;rw[if_pos hk]
   show (if h=x then Mq.val d.2.2.2 else 0)+0=0;rw[if_neg ()];grind
theorem qn6 {rs:List Mq.Q2}{w n k m c:Nat}{d:RD}(b:LnB rs w n)(hc:c < w)(hk:d.1=.ho)(l:Mq.Low d.2.2.2)(bk:Mq.Bd k d.2.2.2)(h0:Mq.val (rs.getD c (0,1))=0):LnB (rs.set c d.2.2.2) w (n+k)/\∀x,Mq.val ((rs.set c d.2.2.2).getD x (0,1))=Mq.val (rs.getD x (0,1))+cR d c x:=by
 refine⟨(b.mono ()).set l (bk.mono ()),λx=>?_⟩;rw[zX (by rw[b.w];exact hc)];unfold cR;rw[hk];show _=_+if c=x then Mq.val d.2.2.2 else 0
 by_cases e:c=x
 ·subst e;rw[if_pos rfl,if_pos rfl,h0];grind
 ·rw[if_neg e,if_neg e];grind
inductive rA (K:Frag) (vs:List V) (H:Hp) (Q:VK) (E:XK):Prop where
 |mk (l z:Addr) (j:Nat) (xs:List V) (ps:List Mq.Q2) (a:Mq.Q2) (n m:Nat):vs=[.ref l,.int (j:Int),.ref z]->H l=some (.lst xs)->Fqs K H xs ps->j < ps.length->1<=(ps.getD j (0,1)).2->Mq.Bd n (ps.getD j (0,1))->Fq K H z a->1<=a.2->Mq.Bd m a->n+m+1<=9000->(∀v H1,aS H H1->Fq K H1 v (Mq.jJ (ps.getD j (0,1)) a)->Q .non (upd H1 l (.lst (xs.set j (.ref v)))))->rA K vs H Q E
inductive uA (K:Frag) (CK:Kd->Addr) (vs:List V) (H:Hp) (Q:VK) (E:XK):Prop where
 |mk (D x z:Addr) (zz:V) (as:List Addr) (M:List (List Mq.Q2)) (d:RD) (w n k c:Nat) (a:Mq.Q2):vs=[.ref D,.ref x,.int (c:Int),.ref z]->Mx K H D as M->MxB M w w n->Rw CK H x d.1 (.int d.2.1) (.int d.2.2.1) zz->dF (w:Int) d.2.1 d.2.2.1->c < w->Fq K H z a->Mq.Low a->Mq.Bd k a->n+2*k+4<=9000->(∀H',SX as H H'->Mx K H' D as (en M d c a)->Q .non H')->uA K CK vs H Q E
inductive wR (K:Frag) (CK:Kd->Addr) (vs:List V) (H:Hp) (Q:VK) (E:XK):Prop where
 |mk (D x zz:Addr) (as:List Addr) (M:List (List Mq.Q2)) (d:RD) (w n k:Nat):vs=[.ref D,.ref x]->Mx K H D as M->MxB M w w n->Rw CK H x d.1 (.int d.2.1) (.int d.2.2.1) (.ref zz)->Fq K H zz d.2.2.2->dF (w:Int) d.2.1 d.2.2.1->Mq.Low d.2.2.2->0 < d.2.2.2.1->Mq.Bd k d.2.2.2->n+4*k+20<=9000->(∀H',SX as H H'->Mx K H' D as (pM M d)->Q .non H')->wR K CK vs H Q E
inductive rC (K:Frag) (CK:Kd->Addr) (vs:List V) (H:Hp) (Q:VK) (E:XK):Prop where
 |mk (R x zz:Addr) (ys:List V) (rs:List Mq.Q2) (d:RD) (w n k:Nat):vs=[.ref R,.ref x]->H R=some (.lst ys)->Fqs K H ys rs->LnB rs w n->Rw CK H x d.1 (.int d.2.1) (.int d.2.2.1) (.ref zz)->Fq K H zz d.2.2.2->dF (w:Int) d.2.1 d.2.2.1->Mq.Low d.2.2.2->Mq.Bd k d.2.2.2->n+4*k+20<=9000->(∀ys' H',SX [R] H H'->H' R=some (.lst ys')->Fqs K H' ys' (pR rs d)->Q .non H')->rC K CK vs H Q E
inductive wC (K:Frag) (CK:Kd->Addr) (vs:List V) (H:Hp) (Q:VK) (E:XK):Prop where
 |mk (D R x zz:Addr) (as:List Addr) (M:List (List Mq.Q2)) (ys:List V) (rs:List Mq.Q2) (d:RD) (w n c:Nat):vs=[.ref D,.ref R,.ref x,.int (c:Int)]->Mx K H D as M->MxB M w w n->H R=some (.lst ys)->Fqs K H ys rs->rs.length=w->R≠D->R∉as->Rw CK H x d.1 (.int d.2.1) (.int d.2.2.1) (.ref zz)->Fq K H zz d.2.2.2->dF (w:Int) d.2.1 d.2.2.1->c < w->n+20<=9000->(∀ys' H',SX (R :: as) H H'->Mx K H' D as (hM M d c)->H' R=some (.lst ys')->Fqs K H' ys' (rs.set c d.2.2.2)->Q .non H')->wC K CK vs H Q E
structure Fms (K:Frag) (H0 H:Hp) (us:List V) (X:List (List Mq.Q2)):Prop where
 l:us.length=X.length
 r:∀(i:Nat) (x:V) (ps:List Mq.Q2),us[i]?=some x->X[i]?=some ps->∃(a:Addr) (xs:List V),x=.ref a/\H0 a=none/\H a=some (.lst xs)/\Fqs K H xs ps
structure Ct (m:Nat) (ds:List RD) (N:Nat) (X:List (List Mq.Q2)) (Y:List Mq.Q2):Prop where
 x:MxB X (m - 1+cX ds) (m - 1+cX ds) N
 y:LnB Y (m - 1+cX ds) N
 vx:∀i j,Mq.val (iU X i j)=eqM m ds (i+1) (j+1)
 vy:∀i,Mq.val (Y.getD i (0,1))=eqR m ds (i+1)
def jR (kb:Nat->Nat):Nat->Nat
 |0=>0
 |i+1=>jR kb i+(4*kb i+20)
theorem zH (kb:Nat->Nat):∀{j:Nat},i<=j->jR kb i<=jR kb j
 |0,h=>by rw[Nat.le_zero.mp h];exact Nat.le_refl _
 |j+1,h=>by
  rcases Nat.eq_or_lt_of_le h with z | z
  ·rw[z];exact Nat.le_refl _
  ·have:=zH kb (i:=i) (j:=j) ();show _<=jR kb j+(4*kb j+20)
   lia
inductive Bo (CN:Addr) (K:Frag) (vs:List V) (H:Hp) (Q:VK) (E:XK):Prop where
 |mk (n l:Addr) (m:Nat) (kb:Nat->Nat) (ds:List RD):vs=[.ref n]->dW CN K H n l (m:Int) ds->(∀i d,ds[i]?=some d->Mf (m:Int) d/\Mq.Bd (kb i) d.2.2.2)->1<=m->m<=20->ds.length<=40->jR kb ds.length+30<=8900->(∀t p r us ys X Y H',aS H H'->H' t=some (.tup [.ref p,.ref r])->H p=none->H r=none->H' p=some (.lst us)->H' r=some (.lst ys)->Fms K H H' us X->Fqs K H' ys Y->(∀x∈us,x≠.ref p/\x≠.ref r)->Ct m ds (jR kb ds.length+1) X Y->Q (.ref t) H')->Bo CN K vs H Q E
def Vq (ta:TA):TE:=λσ H Q=>ta σ H λvs H1=>∃n:Nat,vs=[.int (n:Int)]/\n<=1000/\∀l,H1 l=none->Q (.ref l) (upd H1 l (.lst ((List.range n).map λ(i:Nat)=>V.int (i:Int))))
theorem wP:∀{n:Nat} {acc:List Value},acc.length=n->(∀(j:Nat) (v:Value),acc[j]?=some v->∃t,v=Value.int (j:Int) t)->cA ((List.range n).map λ(i:Nat)=>V.int (i:Int)) acc
 |0,[],_,_=>.nil
 |n+1,acc,hl,h=>by
  have e:acc=acc.take n++[acc[n]'()]:=by
   have h1:acc.take (n+1)=acc:=take_of_length_le ();have h2:acc.take (n+1)=acc.take n++[acc[n]'()]:=by rw[take_add_one,getElem?_eq_getElem ()];rfl
   rw[h1] at h2;exact h2
  rw[range_succ,map_append,e];refine cA.append (wP (by rw[length_take];lia) λj v hj=>?_) (.cons ?_ .nil)
  ·have hjn:j < n:=by
    have:=(List.getElem?_eq_some_iff.mp hj).1;rw[length_take] at this;lia
   rw[getElem?_take,if_pos hjn] at hj;exact h j v hj
  ·obtain⟨t,ht⟩:=h n _ (getElem?_eq_getElem ());rw[ht];exact⟨t,rfl⟩
section
variable {X:Cx} {a:Expr} {p p2 pos pos2:Pos} {ta:TA}
theorem iT (hc:X.calm=true)(hgl:Gl X "list")(hml:X.mg "list"=none)(hg:Gl X "range")(hm:X.mg "range"=none)(ha:PA X [a] ta)(hs:starEach [a] X.env=[(false,eval a X.env)]:=by rfl)(he:starEach [.Call (.Name "range" p2) [a] [] pos2] X.env=(false,eval (.Call (.Name "range" p2) [a] [] pos2) X.env) :: starEach [] X.env:=by rfl)(hpl:(backTo pos (starEach [] X.env)).any (·.1)=false:=by rfl) :
  PE X (.Call (.Name "list" p) [.Call (.Name "range" p2) [a] [] pos2] [] pos) (Vq ta):=by
 intro pins s σ H Q I h;refine wpAny_Call_Name_kw (jV I hgl hml PyProof.Rows.boot_list ?_);refine PyProof.Rows.callWith_type1 ?_ he hpl;rw[he];show wpAny _ _ (spliced ((false,eval (.Call (.Name "range" p2) [a] [] pos2) X.env) :: backTo pos (starEach [] X.env))) _ _ s;refine Calls.spliced_cons ?_;refine wpAny_Call_Name_kw (jV I hg hm boot_range (PyProof.Rows.callWith_type1 (thn (ha pos2 pins s σ H _ I h) λus s1 ⟨vs,H1,I1,r1,q1⟩=>?_) hs rfl));obtain⟨n,e,hn,q⟩:=q1;subst e
 cases r1 with
 |cons r rr=>
  cases rr
  obtain⟨t,rfl⟩:=r;refine call_range_1 ?_;refine Calls.spliced_nil ?_;have I2:∀(ob:Obj) (tk:Nat),Inv X pins σ H1 { s1 with heap:=s1.heap.push ob,toks:=tk }:=λob tk=>I1.kept (t':=tk) (λb ob e=>Heap.get?_push_of_some _ e);have hn24:(n:Nat)<=2 ^ 24:=by lia
  refine call_list_range (n:=n) (I1.ok.hd hc) (IsRange.new ..) (small_one () () () ()) (by rw[rangeSize_one];split<;>lia) hn24 (λh' tk acc' c' kp e items=>?_);have rl:cA ((List.range n).map λ(i:Nat)=>V.int (i:Int)) acc'.toList:=wP (by rw[Array.length_toList];exact items.1) (λj v hj=>by
   obtain⟨t,ht⟩:=items.2 j v (by rw[<- Array.getElem?_toList];exact hj);exact⟨t,by rw[ht];congr 1;lia⟩)
  have hz:((List.range n).map λ(i:Nat)=>V.int (i:Int)).length<=sizeLine:=by rw[length_map,length_range,sizeLine_eq];lia
  exact⟨.ref _,_,(I2 _ _).laid (t':=tk) kp (Nat.le_refl _) (show cL X.prog X.w _ h' _ (.lst ((List.range n).map λ(i:Nat)=>V.int (i:Int))) from ⟨hz,acc'.toList,c',rl,e⟩),rfl,q _ ((I2 _ _).hok.fresh (Nat.le_refl _))⟩
end
def jn (ms:List Int)(s g:Nat):List Int:=ms.map λx=>if x=ms.getD g 0 then ms.getD s 0 else x
def pK (m:Nat):List Int:=(List.range m).map λ(i:Nat)=>(i:Int)
def gR (ms:List Int)(d:RD):List Int:=if d.1=.pu then ms else jn ms d.2.1.toNat d.2.2.1.toNat
def mks (m:Nat)(ds:List RD):List Int:=ds.foldl gR (pK m)
def mk (m:Nat)(ds:List RD)(p:Nat):Int:=(mks m ds).getD p 0
theorem kA (m:Nat)(ds:List RD)(d:RD):mks m (ds++[d])=gR (mks m ds) d:=by unfold mks;rw[foldl_append];rfl
theorem Lf (ms:List Int)(d:RD):(gR ms d).length=ms.length:=by
 unfold gR;split
 ·rfl
 ·unfold jn;rw[length_map]
theorem yV:∀(ds:List RD) (ms:List Int),(ds.foldl gR ms).length=ms.length
 | [],_=>rfl
 |d :: ds,ms=>by show (ds.foldl gR (gR ms d)).length=_;rw[yV ds,Lf]
theorem gG (m:Nat)(ds:List RD):(mks m ds).length=m:=by unfold mks pK;rw[yV,length_map,length_range]
theorem Qu {ms:List Int}{f:Int->Int}(h:p < ms.length):(ms.map f).getD p 0=f (ms.getD p 0):=by
 rw[getD_eq_getElem?_getD,getElem?_map,getD_eq_getElem?_getD,getElem?_eq_getElem h];rfl
theorem Nz (h:p < m):mk m [] p=(p:Int):=by
 show (pK m).getD p 0=_;unfold pK;rw[getD_eq_getElem?_getD,getElem?_map,getElem?_range h];rfl
theorem uK (hk:d.1=.pu)(p:Nat):mk m (ds++[d]) p=mk m ds p:=by
 unfold mk;rw[kA];unfold gR;rw[if_pos hk]
theorem uV (hk:d.1≠.pu)(hp:p < m):mk m (ds++[d]) p=if mk m ds p=mk m ds d.2.2.1.toNat then mk m ds d.2.1.toNat else mk m ds p:=by
 unfold mk;rw[kA];unfold gR;rw[if_neg hk];unfold jn;rw[Qu (by rw[gG];exact hp)]
inductive Cn (ds:List RD):Nat->Nat->Prop where
 |refl (p:Nat):Cn ds p p
 |row {d:RD} (h:d∈ds) (hk:d.1≠.pu):Cn ds d.2.1.toNat d.2.2.1.toNat
 |symm {p q:Nat} (h:Cn ds p q):Cn ds q p
 |trans {p q r:Nat} (h:Cn ds p q) (g:Cn ds q r):Cn ds p r
theorem Cn.mono (h:∀d∈ds,d∈es)(c:Cn ds p q):Cn es p q:=by
 induction c with
 |refl p=>exact .refl p
 |row hd hk=>exact .row (h _ hd) hk
 |symm _ ih=>exact .symm ih
 |trans _ _ a b=>exact .trans a b
theorem Dx {m:Nat}:∀(n:Nat) (ds:List RD),ds.length=n->(∀d∈ds,dF (m:Int) d.2.1 d.2.2.1)->∀p q,p < m->q < m->mk m ds p=mk m ds q->Cn ds p q
 |0,ds,hl,_,p,q,hp,hq,e=>by
  have:ds=[]:=length_eq_zero_iff.mp hl;subst this;rw[Nz hp,Nz hq] at e;have:p=q:=by lia
  subst this;exact .refl p
 |n+1,ds,hl,pt,p,q,hp,hq,e=>by
  obtain⟨es,d,rfl⟩:∃es d,ds=es++[d]:=⟨ds.dropLast,ds.getLast (by intro z;rw[z] at hl;cases hl),(dropLast_concat_getLast _).symm⟩
  have le:es.length=n:=by rw[List.length_append] at hl;simpa using hl
  have ih:=Dx n es le (λx hx=>pt x (mem_append_left _ hx));have up:∀{a b:Nat},Cn es a b->Cn (es++[d]) a b:=λc=>c.mono λx hx=>mem_append_left _ hx
  by_cases hk:d.1=.pu
  ·rw[uK hk,uK hk] at e;exact up (ih p q hp hq e)
  ·obtain⟨i0,i1,j0,j1⟩:=pt d ⋯;have hs:d.2.1.toNat < m:=by lia
   have hg:d.2.2.1.toNat < m:=by lia
   have rw':Cn (es++[d]) d.2.1.toNat d.2.2.1.toNat:=.row ⋯ hk;rw[uV hk hp,uV hk hq] at e
   by_cases a:mk m es p=mk m es d.2.2.1.toNat
   ·have cp:=up (ih _ _ hp hg a);rw[if_pos a] at e
    by_cases b:mk m es q=mk m es d.2.2.1.toNat
    ·exact cp.trans (up (ih _ _ hq hg b)).symm
    ·rw[if_neg b] at e;exact cp.trans (rw'.symm.trans (up (ih _ _ hs hq e)))
   ·rw[if_neg a] at e
    by_cases b:mk m es q=mk m es d.2.2.1.toNat
    ·rw[if_pos b] at e;exact(up (ih _ _ hp hs e)).trans (rw'.trans (up (ih _ _ hq hg b)).symm)
    ·rw[if_neg b] at e;exact up (ih _ _ hp hq e)
theorem qA {m:Nat}:∀(n:Nat) (ds:List RD),ds.length=n->(∀d∈ds,dF (m:Int) d.2.1 d.2.2.1)->∀d∈ds,d.1≠.pu->mk m ds d.2.1.toNat=mk m ds d.2.2.1.toNat
 |0,ds,hl,_,d,hd,_=>by
  have:ds=[]:=length_eq_zero_iff.mp hl;rw[this] at hd;cases hd
 |n+1,ds,hl,pt,x,hx,hkx=>by
  obtain⟨es,d,rfl⟩:∃es d,ds=es++[d]:=⟨ds.dropLast,ds.getLast (by intro z;rw[z] at hl;cases hl),(dropLast_concat_getLast _).symm⟩
  have le:es.length=n:=by rw[List.length_append] at hl;simpa using hl
  obtain⟨i0,i1,j0,j1⟩:=pt x hx;have hs:x.2.1.toNat < m:=by lia
  have hg:x.2.2.1.toNat < m:=by lia
  by_cases hk:d.1=.pu
  ·rw[uK hk,uK hk];rcases mem_append.mp hx with z | z
   ·exact qA n es le (λy hy=>pt y (mem_append_left _ hy)) x z hkx
   ·have:x=d:=by simpa using z
    rw[this] at hkx;exact absurd hk hkx
  ·rw[uV hk hs,uV hk hg];rcases mem_append.mp hx with z | z
   ·have ih:=qA n es le (λy hy=>pt y (mem_append_left _ hy)) x z hkx;rw[ih]
   ·have:x=d:=by simpa using z
    subst this;rw[if_pos rfl]
    by_cases c:mk m es x.2.1.toNat=mk m es x.2.2.1.toNat
    ·rw[if_pos c]
    ·rw[if_neg c]
theorem Cn.ind {R:Nat->Nat->Prop}(r:∀p,R p p)(s:∀p q,R p q->R q p)(t:∀p q x,R p q->R q x->R p x)(h:∀d∈ds,d.1≠.pu->R d.2.1.toNat d.2.2.1.toNat)(c:Cn ds p q):R p q:=by
 induction c with
 |refl p=>exact r p
 |row hd hk=>exact h _ hd hk
 |symm _ ih=>exact s _ _ ih
 |trans _ _ a b=>exact t _ _ _ a b
theorem Ym {m:Nat}(pt:∀d∈ds,dF (m:Int) d.2.1 d.2.2.1)(hp:p < m)(hq:q < m):mk m ds p=mk m ds q↔Cn ds p q:=
 ⟨Dx _ ds rfl pt p q hp hq,λc=>Cn.ind (R:=λa b=>mk m ds a=mk m ds b) (λ_=>rfl) (λ_ _ e=>e.symm) (λ_ _ _ a b=>a.trans b) (λd hd hk=>qA _ ds rfl pt d hd hk) c⟩
theorem Kt:∀{m:Nat} {S:List Nat},S.Nodup->(∀p∈S,p < m)->S.length<=m
 |0,[],_,_=>Nat.le_refl _
 |0,p :: S,_,h=>absurd (h p (mem_cons_self ..)) (Nat.not_lt_zero _)
 |m+1,S,nd,h=>by
  have e:=Kt (m:=m) (S:=S.erase m) (nd.erase m) (λp hp=>by
   have h1:=h p (mem_of_mem_erase hp);have h2:p≠m:=λz=>by rw[z] at hp;exact(Nodup.not_mem_erase nd) hp
   lia)
  have:=length_erase_le (a:=m) (l:=S);have h3:S.length<=(S.erase m).length+1:=by
   rw[length_erase];split<;>lia
  lia
theorem Mn {m:Nat}{S:List Nat}(pt:∀d∈ds,dF (m:Int) d.2.1 d.2.2.1)(hf:f < m)(h1:f∈S)(h2:∀p∈S,p < m/\mk m ds p=mk m ds f)(h3:∀d∈ds,d.1≠.pu->(d.2.1.toNat∈S↔d.2.2.1.toNat∈S))(hp:p < m):p∈S↔mk m ds p=mk m ds f:=by
 refine⟨λh=>(h2 p h).2,λh=>?_⟩;exact(Cn.ind (R:=λa b=>a∈S↔b∈S) (λ_=>Iff.rfl) (λ_ _ e=>e.symm) (λ_ _ _ a b=>a.trans b) h3 ((Ym pt hf hp).mp h.symm)).mp h1
abbrev Stp:=Nat × Int
abbrev Br:=Nat × Nat × Nat
def stF (es:List Br)(p:Nat):List (Stp × Nat):=es.filterMap λe=>if e.2.1=p then some ((e.1,1),e.2.2) else if e.2.2=p then some ((e.1,-1),e.2.1) else none
abbrev WS:=List (Nat × List Stp)
def cC (w:WS):List Nat:=w.map (·.1)
def rS:WS->Nat->Option (List Stp)
 | [],_=>none
 |e :: w,p=>if e.1=p then some e.2 else rS w p
theorem gL {st:List Stp}:∀{w:WS},rS w p=some st->(p,st)∈w
 | [],h=>by cases h
 |e :: w,h=>by
  unfold rS at h
  by_cases c:e.1=p
  ·rw[if_pos c] at h
   cases h
   obtain⟨a,b⟩:=e;have c:a=p:=c;subst c;exact mem_cons_self ..
  ·rw[if_neg c] at h;exact mem_cons_of_mem _ (gL h)
theorem pO:∀{w:WS},p∈cC w->∃st,rS w p=some st
 | [],h=>by cases h
 |e :: w,h=>by
  unfold rS
  by_cases c:e.1=p
  ·rw[if_pos c];exact⟨_,rfl⟩
  ·rw[if_neg c];rcases mem_cons.mp h with z | z
   ·exact absurd z.symm c
   ·exact pO z
theorem rO:∀{w:WS},p∉cC w->rS w p=none
 | [],_=>rfl
 |e :: w,h=>by
  unfold rS;rw[if_neg (λz=>h (by rw[<- z];exact mem_cons_self ..))];exact rO λz=>h (mem_cons_of_mem _ z)
theorem Ru:(rS w p).isSome=true↔p∈cC w:=by
 by_cases c:p∈cC w
 ·obtain⟨st,e⟩:=pO c;rw[e];exact⟨λ_=>c,λ_=>rfl⟩
 ·rw[rO c];exact⟨λz=>(by cases z),λz=>absurd z c⟩
def inF (p:Nat)(s:WS × List Nat)(t:Stp × Nat):WS × List Nat:=if t.2∈cC s.1 then s else (s.1++[(t.2,(rS s.1 p).getD []++[t.1])],s.2++[t.2])
def lY (es:List Br)(s:WS × List Nat):WS × List Nat:=if s.2=[] then s else (stF es (s.2.getLastD 0)).foldl (inF (s.2.getLastD 0)) (s.1,s.2.dropLast)
def cF (es:List Br)(b:Nat):Nat->WS × List Nat
 |0=>([(b,[])],[b])
 |n+1=>lY es (cF es b n)
def lM (es:List Br)(b e:Nat):Option (List Stp):=rS (cF es b 60).1 e
def qO (es:List Br)(s:Stp)(p q:Nat):Prop:=∃u v,(s.1,u,v)∈es/\((s.2=1/\p=u/\q=v)\/(s.2=-1/\p=v/\q=u))
inductive Pt (es:List Br) (b:Nat):List Stp->Nat->List Nat->Prop where
 |nil:Pt es b [] b [b]
 |snoc {st:List Stp} {p q:Nat} {pts:List Nat} {s:Stp} (h:Pt es b st p pts) (g:qO es s p q) (n:q∉pts):Pt es b (st++[s]) q (pts++[q])
theorem mE (h:t∈stF es p):qO es t.1 p t.2:=by
 unfold stF at h;obtain⟨e,he,ht⟩:=mem_filterMap.mp h
 by_cases c1:e.2.1=p
 ·rw[if_pos c1] at ht
  cases ht
  exact⟨e.2.1,e.2.2,he,.inl ⟨rfl,c1.symm,rfl⟩⟩
 ·rw[if_neg c1] at ht
  by_cases c2:e.2.2=p
  ·rw[if_pos c2] at ht
   cases ht
   exact⟨e.2.1,e.2.2,he,.inr ⟨rfl,c2.symm,rfl⟩⟩
  ·rw[if_neg c2] at ht;cases ht
theorem Nt (h:qO es s p q):q=p\/∃t∈stF es p,t.2=q:=by
 obtain⟨u,v,he,h⟩:=h
 by_cases c:q=p
 ·exact .inl c
 refine .inr ?_;rcases h with ⟨_,rfl,rfl⟩ | ⟨_,rfl,rfl⟩
 ·refine⟨((s.1,1),q),mem_filterMap.mpr ⟨_,he,?_⟩,rfl⟩;rw[if_pos rfl]
 ·refine⟨((s.1,-1),q),mem_filterMap.mpr ⟨_,he,?_⟩,rfl⟩;rw[if_neg c,if_pos rfl]
structure WI (es:List Br) (b:Nat) (s:WS × List Nat):Prop where
 nd:(cC s.1).Nodup
 kb:b∈cC s.1
 pt:∀x st,(x,st)∈s.1->∃pts,Pt es b st x pts/\∀y∈pts,y∈cC s.1
 q:∀x∈s.2,x∈cC s.1
 cl:∀x∈cC s.1,x∉s.2->∀t y,qO es t x y->y∈cC s.1
theorem Tf (es:List Br)(b:Nat):WI es b ([(b,[])],[b]):=by
 refine⟨by simp[cC],by simp[cC],λx st h=>?_,λx h=>?_,λx h n=>?_⟩
 ·have:(x,st)=(b,[]):=by simpa using h
  cases this
  exact⟨[b],.nil,λy hy=>by simpa[cC] using hy⟩
 ·simpa[cC] using h
 ·have:x=b:=by simpa[cC] using h
  exact absurd (by simp[this]) n
theorem An (w:WS)(x:Nat)(st:List Stp):cC (w++[(x,st)])=cC w++[x]:=by unfold cC;rw[map_append];rfl
structure WJ (es:List Br) (b p:Nat) (T:List (Stp × Nat)) (s:WS × List Nat):Prop where
 nd:(cC s.1).Nodup
 kb:b∈cC s.1
 kp:p∈cC s.1
 pt:∀x st,(x,st)∈s.1->∃pts,Pt es b st x pts/\∀y∈pts,y∈cC s.1
 q:∀x∈s.2,x∈cC s.1
 cl:∀x∈cC s.1,x∉s.2->x≠p->∀t y,qO es t x y->y∈cC s.1
 t:∀t∈T,t.2∈cC s.1
theorem Jg (h:WJ es b p T s)(g:qO es t.1 p t.2):WJ es b p (T++[t]) (inF p s t):=by
 unfold inF
 by_cases c:t.2∈cC s.1
 ·rw[if_pos c];refine { h with t:=λu hu=>?_ };rcases mem_append.mp hu with z | z
  ·exact h.t u z
  ·have:u=t:=by simpa using z
   rw[this];exact c
 ·rw[if_neg c];obtain⟨sp,ep⟩:=pO h.kp;rw[ep];have up:∀{x:Nat},x∈cC s.1->x∈cC (s.1++[(t.2,sp++[t.1])]):=λhx=>by rw[An];exact mem_append_left _ hx
  have me:t.2∈cC (s.1++[(t.2,sp++[t.1])]):=by rw[An];simp
  refine⟨?_,up h.kb,up h.kp,λx st hx=>?_,λx hx=>?_,λx hx nx np=>?_,λu hu=>?_⟩
  ·show (cC (s.1++[(t.2,sp++[t.1])])).Nodup;rw[An,nodup_append];refine⟨h.nd,⋯,λx hx y hy z=>?_⟩;have:y=t.2:=by simpa using hy
   exact c (by rw[<- this,<- z];exact hx)
  ·rcases mem_append.mp hx with z | z
   ·obtain⟨pts,h1,h2⟩:=h.pt x st z;exact⟨pts,h1,λy hy=>up (h2 y hy)⟩
   ·have:(x,st)=(t.2,sp++[t.1]):=by simpa using z
    cases this
    obtain⟨pts,h1,h2⟩:=h.pt p sp (gL ep);refine⟨pts++[t.2],.snoc h1 g (λz=>c (h2 _ z)),λy hy=>?_⟩;rcases mem_append.mp hy with z | z
    ·exact up (h2 y z)
    ·have:y=t.2:=by simpa using z
     rw[this];exact me
  ·rcases mem_append.mp hx with z | z
   ·exact up (h.q x z)
   ·have:x=t.2:=by simpa using z
    rw[this];exact me
  ·have hx':x∈cC s.1:=by
    have hx2:x∈cC (s.1++[(t.2,sp++[t.1])]):=hx;rw[An] at hx2;rcases mem_append.mp hx2 with z | z
    ·exact z
    ·exact absurd (mem_append_right _ z) nx
   intro t' y hg;exact up (h.cl x hx' (λz=>nx (mem_append_left _ z)) np t' y hg)
  ·rcases mem_append.mp hu with z | z
   ·exact up (h.t u z)
   ·have:u=t:=by simpa using z
    rw[this];exact me
theorem Ca:∀(U T:List (Stp × Nat)) {s:WS × List Nat},WJ es b p T s->(∀t∈U,qO es t.1 p t.2)->WJ es b p (T++U) (U.foldl (inF p) s)
 | [],T,s,h,_=>by rw[append_nil];exact h
 |u :: U,T,s,h,g=>by
  have:=Ca U (T++[u]) (Jg h (g u ⋯)) λt ht=>g t (mem_cons_of_mem _ ht);rw[List.append_assoc] at this;exact this
theorem Kl (h:q≠[]):q.getLastD 0∈q/\q=q.dropLast++[q.getLastD 0]:=by
 have e:q.getLastD 0=q.getLast h:=by rw[getLastD_eq_getLast?,getLast?_eq_some_getLast h];rfl
 rw[e];exact⟨getLast_mem h,(dropLast_concat_getLast h).symm⟩
theorem vL (h:WI es b s)(hq:s.2≠[]):WJ es b (s.2.getLastD 0) [] (s.1,s.2.dropLast):=by
 obtain⟨m,e⟩:=Kl hq;refine⟨h.nd,h.kb,h.q _ m,h.pt,λx hx=>h.q x (dropLast_subset _ hx),λx hx nx np=>h.cl x hx λz=>?_,λt ht=>by cases ht⟩;rw[e] at z;rcases mem_append.mp z with z | z
 ·exact nx z
 ·exact np (by simpa using z)
theorem qd9 (h:WJ es b p (stF es p) s):WI es b s:=by
 refine⟨h.nd,h.kb,h.pt,h.q,λx hx nx t y hg=>?_⟩
 by_cases c:x=p
 ·subst c;rcases Nt hg with z | ⟨u,hu,e⟩
  ·rw[z];exact hx
  ·rw[<- e];exact h.t u hu
 ·exact h.cl x hx nx c t y hg
theorem Uz (h:WI es b s):WI es b (lY es s):=by
 unfold lY
 by_cases c:s.2=[]
 ·rw[if_pos c];exact h
 ·rw[if_neg c];have:=Ca (stF es (s.2.getLastD 0)) [] (vL h c) λt ht=>mE ht;rw[nil_append] at this;exact qd9 this
theorem jM (es:List Br)(b:Nat):∀n,WI es b (cF es b n)
 |0=>Tf es b
 |n+1=>Uz (jM es b n)
def muF (s:WS × List Nat):Nat:=2*(20 - s.1.length)+s.2.length
structure Ptm (m:Nat) (es:List Br):Prop where
 p:∀e∈es,e.2.1 < m/\e.2.2 < m
theorem qn7 (h:Ptm m es)(hb:b < m){st:List Stp}(p:Pt es b st x pts):x < m:=by
 cases p with
 |nil=>exact hb
 |snoc _ g _=>
  obtain⟨u,v,he,g⟩:=g;have:=h.p _ he;rcases g with ⟨_,_,rfl⟩ | ⟨_,_,rfl⟩
  ·exact this.2
  ·exact this.1
theorem Cy (h:Ptm m es)(hb:b < m)(pt:∀x st,(x,st)∈w->∃pts,Pt es b st x pts/\∀y∈pts,y∈cC w):∀x∈cC w,x < m:=λx hx=>by
 obtain⟨st,e⟩:=pO hx;obtain⟨pts,p,_⟩:=pt x st (gL e);exact qn7 h hb p
theorem Rs (h:Ptm m es)(hb:b < m)(nd:(cC w).Nodup)(pt:∀x st,(x,st)∈w->∃pts,Pt es b st x pts/\∀y∈pts,y∈cC w):w.length<=m:=by
 have:=Kt nd (Cy h hb pt);unfold cC at this
 rwa [length_map] at this
theorem qi8 (hm:Ptm m es)(hb:b < m)(h20:m<=20)(h:WJ es b p T s)(g:qO es t.1 p t.2):muF (inF p s t)<=muF s:=by
 have h':=Jg h g;have le:=Rs hm hb h'.nd h'.pt;unfold inF at le ⊢
 by_cases c:t.2∈cC s.1
 ·rw[if_pos c];exact Nat.le_refl _
 ·rw[if_neg c] at le ⊢;unfold muF;simp only[List.length_append,length_cons,length_nil] at le ⊢;lia
theorem Aj (hm:Ptm m es)(hb:b < m)(h20:m<=20):∀(U T:List (Stp × Nat)) {s:WS × List Nat},WJ es b p T s->(∀t∈U,qO es t.1 p t.2)->muF (U.foldl (inF p) s)<=muF s
 | [],_,_,_,_=>Nat.le_refl _
 |u :: U,T,s,h,g=>Nat.le_trans (Aj hm hb h20 U (T++[u]) (Jg h (g u ⋯)) λt ht=>g t (mem_cons_of_mem _ ht)) (qi8 hm hb h20 h (g u ⋯))
theorem Ed (h:s.2≠[]):muF (s.1,s.2.dropLast)+1=muF s:=by
 have:0 < s.2.length:=length_pos_iff.mpr h;show 2*(20 - s.1.length)+s.2.dropLast.length+1=2*(20 - s.1.length)+s.2.length;rw[length_dropLast];lia
theorem Jw (hm:Ptm m es)(hb:b < m)(h20:m<=20)(h:WI es b s)(hq:s.2≠[]):muF (lY es s)+1<=muF s:=by
 unfold lY;rw[if_neg hq];have:=Aj hm hb h20 (stF es (s.2.getLastD 0)) [] (vL h hq) λt ht=>mE ht;have e:=Ed hq;lia
theorem zG (h:(cF es b i).2=[]):∀n,cF es b (i+n)=cF es b i
 |0=>rfl
 |n+1=>by
  show lY es (cF es b (i+n))=_;rw[zG h n];unfold lY;rw[if_pos h]
theorem Ui (h:(cF es b i).2=[])(hi:i<=60):(cF es b 60).1=(cF es b i).1:=by
 have:=zG h (60 - i);rw[show i+(60 - i)=60 by lia] at this;rw[this]
theorem sY (hm:Ptm m es)(hb:b < m)(h20:m<=20):∀n,(cF es b n).2=[]\/n+muF (cF es b n)<=39
 |0=>.inr (by show 0+(2*(20 - 1)+1)<=39;lia)
 |n+1=>by
  by_cases c:(cF es b n).2=[]
  ·refine .inl ?_;show (lY es (cF es b n)).2=[]
   unfold lY;rw[if_pos c];exact c
  ·rcases sY hm hb h20 n with z | z
   ·exact absurd z c
   ·have:=Jw hm hb h20 (jM es b n) c;refine .inr ?_;show n+1+muF (lY es (cF es b n))<=39;lia
theorem Tr (hm:Ptm m es)(hb:b < m)(h20:m<=20):(cF es b 60).2=[]:=by
 rcases sY hm hb h20 60 with z | z
 ·exact z
 ·lia
def dD (es:List Br):List RD:=es.map λe=>(.pc,(e.2.1:Int),(e.2.2:Int),(0,1))
theorem yB (h:Ptm m es):∀d∈dD es,dF (m:Int) d.2.1 d.2.2.1:=λd hd=>by
 obtain⟨e,he,rfl⟩:=mem_map.mp hd;have:=h.p e he;exact⟨by show (0:Int)<=(e.2.1:Int);lia,by show ((e.2.1:Nat):Int) < m;lia,by show (0:Int)<=(e.2.2:Int);lia,by show ((e.2.2:Nat):Int) < m;lia⟩
theorem Kq (h:Ptm m es)(g:qO es s p q):mk m (dD es) q=mk m (dD es) p:=by
 obtain⟨u,v,he,g⟩:=g;have e:=qA _ (dD es) rfl (yB h) (.pc,(u:Int),(v:Int),(0,1)) (mem_map.mpr ⟨_,he,rfl⟩) (by intro z;cases z);rw[Int.toNat_natCast,Int.toNat_natCast] at e;rcases g with ⟨_,rfl,rfl⟩ | ⟨_,rfl,rfl⟩
 ·exact e.symm
 ·exact e
theorem qj5 (h:Ptm m es){st:List Stp}(p:Pt es b st x pts):mk m (dD es) x=mk m (dD es) b:=by
 induction p with
 |nil=>rfl
 |snoc _ g _ ih=>rw[Kq h g,ih]
theorem Kj (h:Ptm m es)(h20:m<=20)(hb:b < m)(he:e < m):(lM es b e).isSome=true↔mk m (dD es) e=mk m (dD es) b:=by
 have wi:=jM es b 60;have q0:=Tr h hb h20;unfold lM;rw[Ru];refine Mn (yB h) hb wi.kb (λp hp=>⟨Cy h hb wi.pt p hp,?_⟩) (λd hd _=>?_) he
 ·obtain⟨st,e'⟩:=pO hp;obtain⟨pts,pp,_⟩:=wi.pt p st (gL e');exact qj5 h pp
 ·obtain⟨a,ha,rfl⟩:=mem_map.mp hd;show ((a.2.1:Int).toNat∈_↔(a.2.2:Int).toNat∈_);rw[Int.toNat_natCast,Int.toNat_natCast];exact⟨λz=>wi.cl _ z (by rw[q0];simp) (a.1,1) _ ⟨a.2.1,a.2.2,ha,.inl ⟨rfl,rfl,rfl⟩⟩,λz=>wi.cl _ z (by rw[q0];simp) (a.1,-1) _ ⟨a.2.1,a.2.2,ha,.inr ⟨rfl,rfl,rfl⟩⟩⟩
structure wI (es:List Br) (b e:Nat) (st:List Stp) (pts:List Nat):Prop where
 l:pts.length=st.length+1
 hb:pts[0]?=some b
 he:pts[st.length]?=some e
 g:∀i s,st[i]?=some s->∃p q,pts[i]?=some p/\pts[i+1]?=some q/\qO es s p q
 n:(st.map (·.1)).Nodup
theorem Wp {st:List Stp}(p:Pt es b st x pts):∀s∈st,∃y z,y∈pts/\z∈pts/\qO es s y z:=by
 induction p with
 |nil=>intro s h;cases h
 | @snoc st p q pts s h g n ih=>
  intro t ht;rcases mem_append.mp ht with z | z
  ·obtain⟨y,z',h1,h2,h3⟩:=ih t z;exact⟨y,z',mem_append_left _ h1,mem_append_left _ h2,h3⟩
  ·have:t=s:=by simpa using z
   subst this;refine⟨p,q,mem_append_left _ ?_,⋯,g⟩
   cases h with
   |nil=>simp
   |snoc _ _ _=>simp
theorem Nq {st:List Stp}(ne:(es.map (·.1)).Nodup)(p:Pt es b st x pts):wI es b x st pts:=by
 induction p with
 |nil=>exact⟨rfl,rfl,rfl,λi s h=>by simp at h,⋯⟩
 | @snoc st p q pts s h g n ih=>
  have l:=ih.l;refine⟨by rw[List.length_append,List.length_append,l];rfl,?_,?_,λi t ht=>?_,?_⟩
  ·rw[getElem?_append_left ()];exact ih.hb
  ·rw[List.length_append,getElem?_append_right (by simp;lia)];simp only[length_cons,length_nil];rw[show st.length+(0+1) - pts.length=0 by lia];rfl
  ·by_cases c:i < st.length
   ·rw[getElem?_append_left c] at ht;obtain⟨y,z,h1,h2,h3⟩:=ih.g i t ht;exact⟨y,z,by rw[getElem?_append_left ()];exact h1,by rw[getElem?_append_left ()];exact h2,h3⟩
   ·have hi:i=st.length:=by
     have:=(List.getElem?_eq_some_iff.mp ht).1;simp only[List.length_append,length_cons,length_nil] at this;lia
    subst hi;rw[getElem?_append_right (Nat.le_refl _),Nat.sub_self] at ht;have:s=t:=by simpa using ht
    subst this;refine⟨p,q,by rw[getElem?_append_left ()];exact ih.he,?_,g⟩;rw[getElem?_append_right (),show st.length+1 - pts.length=0 by lia];rfl
  ·rw[map_append,nodup_append];refine⟨ih.n,⋯,λa ha c hc z=>?_⟩;have hc:c=s.1:=by simpa using hc
   obtain⟨t,ht,et⟩:=mem_map.mp ha;obtain⟨y,w,h1,h2,u',v',he',g'⟩:=Wp h t ht;obtain⟨u,v,he,g⟩:=g;have same:(t.1,u',v')=(s.1,u,v):=by
    have key:∀{l:List Br},(l.map (·.1)).Nodup->∀{a c:Br},a∈l->c∈l->a.1=c.1->a=c:=λ{l}=>by
     induction l with
     |nil=>intro _ a c h;cases h
     |cons x l ih=>
      intro nd a c ha hc e;rw[map_cons,nodup_cons] at nd;rcases mem_cons.mp ha with rfl | z1<;>rcases mem_cons.mp hc with rfl | z2
      ·rfl
      ·exact absurd (mem_map.mpr ⟨c,z2,e.symm⟩) nd.1
      ·exact absurd (mem_map.mpr ⟨a,z1,e⟩) nd.1
      ·exact ih nd.2 z1 z2 e
    exact key ne he' he (by show t.1=s.1;rw[et,z,hc])
   have e1:u'=u:=by injection same with _ e;injection e
   have e2:v'=v:=by injection same with _ e;injection e
   subst e1;subst e2;rcases g with ⟨_,rfl,rfl⟩ | ⟨_,rfl,rfl⟩<;>rcases g' with ⟨_,rfl,rfl⟩ | ⟨_,rfl,rfl⟩
   ·exact n h2
   ·exact n h1
   ·exact n h1
   ·exact n h2
theorem Li {st:List Stp}(ne:(es.map (·.1)).Nodup)(h:lM es b e=some st):∃pts,wI es b e st pts:=by
 obtain⟨pts,p,_⟩:=(jM es b 60).pt e st (gL h);exact⟨pts,Nq ne p⟩
theorem yZ {st:List Stp}(hm:Ptm m es)(hb:b < m)(h:lM es b e=some st):st.length < m:=by
 obtain⟨pts,p,k⟩:=(jM es b 60).pt e st (gL h);have l:pts.length=st.length+1:=by
  clear h
  induction p with
  |nil=>rfl
  |snoc h g n ih=>rw[List.length_append,List.length_append,ih λy hy=>k y (mem_append_left _ hy)];rfl
 have nd:pts.Nodup:=by
  clear h k l
  induction p with
  |nil=>simp
  |snoc h g n ih=>
   rw[nodup_append];refine⟨ih,⋯,λx hx y hy z=>n ?_⟩;rw[mem_singleton] at hy;rw[<- hy,<- z];exact hx
 have:=Kt nd λy hy=>Cy hm hb (jM es b 60).pt y (k y hy);lia
abbrev Sk:=Kd × Nat × Nat
def skl (ds:List RD):List Sk:=ds.map λd=>(d.1,d.2.1.toNat,d.2.2.1.toNat)
abbrev RS:=List Br × List (Nat × List Stp)
def fV (W:Kd->Bool)(s:RS)(k:Nat)(d:Sk):RS:=if W d.1 then (match lM s.1 d.2.2 d.2.1 with
 |none=>(s.1++[(k,d.2.1,d.2.2)],s.2)
 |some st=>(s.1,s.2++[(k,(k,1) :: st)])) else s
def bY (W:Kd->Bool)(sk:List Sk):Nat->RS
 |0=>([],[])
 |n+1=>match sk[n]? with
  |none=>bY W sk n
  |some d=>fV W (bY W sk n) n d
theorem gJ (h:sk[n]?=some d):bY W sk (n+1)=fV W (bY W sk n) n d:=by
 show (match sk[n]? with | none=>bY W sk n | some d=>fV W (bY W sk n) n d)=_;rw[h]
structure RI (W:Kd->Bool) (sk:List Sk) (m n:Nat) (s:RS):Prop where
 pt:Ptm m s.1
 nd:(s.1.map (·.1)).Nodup
 lt:∀e∈s.1,e.1 < n
 at_:∀e∈s.1,∃k,sk[e.1]?=some (k,e.2.1,e.2.2)
 rl:s.2.length<=n
 r:∀c∈s.2,c.1 < n/\∃k u v st pts,sk[c.1]?=some (k,u,v)/\c.2=(c.1,1) :: st/\(∀t∈st,t.1 < c.1/\t.1∈s.1.map (·.1))/\wI s.1 v u st pts/\st.length < m
theorem wI.mono {st:List Stp}(h:wI es b e st pts)(hs:∀x∈es,x∈es'):wI es' b e st pts:=
 { h with g:=λi s hi=>let ⟨p,q,h1,h2,u,v,h3,h4⟩:=h.g i s hi;⟨p,q,h1,h2,u,v,hs _ h3,h4⟩ }
theorem Px {st:List Stp}(h:wI es b e st pts):∀t∈st,t.1∈es.map (·.1):=λt ht=>by
 obtain⟨i,hi⟩:=getElem?_of_mem ht;obtain⟨p,q,_,_,u,v,h3,_⟩:=h.g i t hi;exact mem_map.mpr ⟨_,h3,rfl⟩
theorem kN (hm:∀d∈sk,d.2.1 < m/\d.2.2 < m):∀n,n<=sk.length->RI W sk m n (bY W sk n)
 |0,_=>⟨⟨λe h=>(by cases h)⟩,(by show ([]:List Nat).Nodup;simp),λe h=>(by cases h),λe h=>(by cases h),Nat.le_refl _,λc h=>(by cases h)⟩
 |n+1,hn=>by
  have ih:=kN (W:=W) hm n ();have hd:sk[n]?=some sk[n]:=getElem?_eq_getElem ();rw[gJ hd];have pm:=hm _ (mem_of_getElem? hd);generalize sk[n]=d at hd pm;generalize bY W sk n=s at ih;unfold fV
  by_cases hw:W d.1=true
  ·rw[if_pos hw]
   cases hy:lM s.1 d.2.2 d.2.1 with
   |none=>
    show RI W sk m (n+1) (s.1++[(n,d.2.1,d.2.2)],s.2);refine⟨⟨λe he=>?_⟩,?_,λe he=>?_,λe he=>?_,by have:=ih.rl;show s.2.length<=n+1;lia,λc hc=>?_⟩
    ·rcases mem_append.mp he with z | z
     ·exact ih.pt.p e z
     ·have:e=(n,d.2.1,d.2.2):=by simpa using z
      rw[this];exact pm
    ·show ((s.1++[(n,d.2.1,d.2.2)]).map (·.1)).Nodup;rw[map_append,nodup_append];refine⟨ih.nd,⋯,λx hx y hy z=>?_⟩;have:y=n:=by simpa using hy
     obtain⟨e,he,ee⟩:=mem_map.mp hx;have:=ih.lt e he;lia
    ·rcases mem_append.mp he with z | z
     ·have:=ih.lt e z;lia
     ·have:e=(n,d.2.1,d.2.2):=by simpa using z
      rw[this];exact Nat.lt_succ_self n
    ·rcases mem_append.mp he with z | z
     ·exact ih.at_ e z
     ·have:e=(n,d.2.1,d.2.2):=by simpa using z
      rw[this];exact⟨d.1,hd⟩
    ·obtain⟨h1,k,u,v,st,pts,h2,h3,h4,h5,h6⟩:=ih.r c hc;refine⟨(),k,u,v,st,pts,h2,h3,λt ht=>⟨(h4 t ht).1,?_⟩,h5.mono λx hx=>mem_append_left _ hx,h6⟩;show t.1∈(s.1++[(n,d.2.1,d.2.2)]).map (·.1);rw[map_append];exact mem_append_left _ (h4 t ht).2
   |some st=>
    show RI W sk m (n+1) (s.1,s.2++[(n,(n,1) :: st)]);refine⟨ih.pt,ih.nd,λe he=>Nat.lt_succ_of_lt (ih.lt e he),ih.at_,by have:=ih.rl;show (s.2++[(n,(n,1) :: st)]).length<=n+1;rw[List.length_append];simp only[length_cons,length_nil];lia,λc hc=>?_⟩;rcases mem_append.mp hc with z | z
    ·obtain⟨h1,r⟩:=ih.r c z;exact⟨(),r⟩
    ·have:c=(n,(n,1) :: st):=by simpa using z
     subst this;obtain⟨pts,ch⟩:=Li ih.nd hy;refine⟨Nat.lt_succ_self n,d.1,d.2.1,d.2.2,st,pts,hd,rfl,λt ht=>?_,ch,yZ ih.pt pm.2 hy⟩;have ti:=Px ch t ht;obtain⟨e,he,ee⟩:=mem_map.mp ti;have:=ih.lt e he;exact⟨by show t.1 < n;lia,ti⟩
  ·rw[if_neg hw];exact⟨ih.pt,ih.nd,λe he=>Nat.lt_succ_of_lt (ih.lt e he),ih.at_,by have:=ih.rl;lia,λc hc=>let ⟨h1,r⟩:=ih.r c hc;⟨(),r⟩⟩
theorem SqT.updD {K:Frag}(h:SqT K H a xs)(hl:H l=some (.dK kvs)):SqT K (L2.upd H l o) a xs:=by
 rcases h with (h | ⟨u,h⟩) | h
 ·exact .inl (.inl (by rw[aR (jP h hl (λz=>by cases z))];exact h))
 ·exact .inl (.inr ⟨u,by rw[aR (jP h hl (λz=>by cases z))];exact h⟩)
 ·exact .inr h
inductive Sts (K:Frag) (H:Hp):List V->List Stp->Prop where
 |nil:Sts K H [] []
 |cons {t:Addr} {n:Nat} {w:Int} {xs:List V} {st:List Stp} (h:SqT K H t [.int (n:Int),.int w]) (q:Sts K H xs st):Sts K H (.ref t :: xs) ((n,w) :: st)
section
variable {K:Frag} {H H':Hp}
theorem Sts.same (e:aS H H'):∀{xs:List V} {st:List Stp},Sts K H xs st->Sts K H' xs st
 |_,_,.nil=>.nil
 |_,_,.cons h q=>.cons (e.seqT h) (Sts.same e q)
theorem Sts.length:∀{xs:List V} {st:List Stp},Sts K H xs st->xs.length=st.length
 |_,_,.nil=>rfl
 |_,_,.cons _ q=>by simp[Sts.length q]
theorem Sts.app:∀{xs ys:List V} {st su:List Stp},Sts K H xs st->Sts K H ys su->Sts K H (xs++ys) (st++su)
 |_,_,_,_,.nil,r=>r
 |_,_,_,_,.cons h q,r=>.cons h (Sts.app q r)
theorem Sts.get:∀{xs:List V} {st:List Stp} {i:Nat} {x:V},Sts K H xs st->xs[i]?=some x->∃t s,x=.ref t/\st[i]?=some s/\SqT K H t [.int (s.1:Int),.int s.2]
 |_,_,_,_,.nil,h=>by simp at h
 |_,_,0,_,.cons h _,e=>by simp at e;subst e;exact⟨_,_,rfl,rfl,h⟩
 |_,_,i+1,_,.cons _ q,e=>by simpa using Sts.get q (by simpa using e)
theorem Sts.upd (hl:H l=some (.lst ys)):∀{xs:List V} {st:List Stp},Sts K H xs st->Sts K (L2.upd H l o) xs st
 |_,_,.nil=>.nil
 |_,_,.cons h q=>.cons (SqT.upd h hl) (Sts.upd hl q)
theorem Sts.updD (hl:H l=some (.dK kvs)):∀{xs:List V} {st:List Stp},Sts K H xs st->Sts K (L2.upd H l o) xs st
 |_,_,.nil=>.nil
 |_,_,.cons h q=>.cons (SqT.updD h hl) (Sts.updD hl q)
end
inductive Sds (K:Frag) (H:Hp):List V->List (Stp × Nat)->Prop where
 |nil:Sds K H [] []
 |cons {t s:Addr} {n x:Nat} {w:Int} {xs:List V} {st:List (Stp × Nat)} (h:SqT K H t [.ref s,.int (x:Int)]) (g:SqT K H s [.int (n:Int),.int w]) (q:Sds K H xs st):Sds K H (.ref t :: xs) (((n,w),x) :: st)
section
variable {K:Frag} {H H':Hp}
theorem Sds.same (e:aS H H'):∀{xs:List V} {st:List (Stp × Nat)},Sds K H xs st->Sds K H' xs st
 |_,_,.nil=>.nil
 |_,_,.cons h g q=>.cons (e.seqT h) (e.seqT g) (Sds.same e q)
theorem Sds.length:∀{xs:List V} {st:List (Stp × Nat)},Sds K H xs st->xs.length=st.length
 |_,_,.nil=>rfl
 |_,_,.cons _ _ q=>by simp[Sds.length q]
theorem Sds.app:∀{xs ys:List V} {st su:List (Stp × Nat)},Sds K H xs st->Sds K H ys su->Sds K H (xs++ys) (st++su)
 |_,_,_,_,.nil,r=>r
 |_,_,_,_,.cons h g q,r=>.cons h g (Sds.app q r)
theorem Sds.get:∀{xs:List V} {st:List (Stp × Nat)} {i:Nat} {x:V},Sds K H xs st->xs[i]?=some x->∃t u s,x=.ref t/\st[i]?=some s/\SqT K H t [.ref u,.int (s.2:Int)]/\SqT K H u [.int (s.1.1:Int),.int s.1.2]
 |_,_,_,_,.nil,h=>by simp at h
 |_,_,0,_,.cons h g _,e=>by simp at e;subst e;exact⟨_,_,_,rfl,rfl,h,g⟩
 |_,_,i+1,_,.cons _ _ q,e=>by simpa using Sds.get q (by simpa using e)
theorem Sds.upd (hl:H l=some (.lst ys)):∀{xs:List V} {st:List (Stp × Nat)},Sds K H xs st->Sds K (L2.upd H l o) xs st
 |_,_,.nil=>.nil
 |_,_,.cons h g q=>.cons (SqT.upd h hl) (SqT.upd g hl) (Sds.upd hl q)
theorem Sds.updD (hl:H l=some (.dK kvs)):∀{xs:List V} {st:List (Stp × Nat)},Sds K H xs st->Sds K (L2.upd H l o) xs st
 |_,_,.nil=>.nil
 |_,_,.cons h g q=>.cons (SqT.updD h hl) (SqT.updD g hl) (Sds.updD hl q)
end
inductive Wys (K:Frag) (H0:Hp) (W:Addr) (H:Hp):List (Key × V)->WS->Prop where
 |nil:Wys K H0 W H [] []
 |cons {a:Addr} {x:Nat} {xs:List V} {st:List Stp} {kvs:List (Key × V)} {w:WS} (n:H0 a=none) (nw:a≠W) (h:H a=some (.lst xs)) (f:Sts K H xs st) (q:Wys K H0 W H kvs w):Wys K H0 W H ((Sum.inl (x:Int),.ref a) :: kvs) ((x,st) :: w)
section
variable {K:Frag} {H0 H H':Hp} {W:Addr}
theorem Wys.same (e:aS H H'):∀{kvs:List (Key × V)} {w:WS},Wys K H0 W H kvs w->Wys K H0 W H' kvs w
 |_,_,.nil=>.nil
 |_,_,.cons n nw h f q=>.cons n nw (e _ _ h) (f.same e) (Wys.same e q)
theorem Wys.updW (hl:H W=some (.lst ys)):∀{kvs:List (Key × V)} {w:WS},Wys K H0 W H kvs w->Wys K H0 W (L2.upd H W o) kvs w
 |_,_,.nil=>.nil
 |_,_,.cons n nw h f q=>.cons n nw (by rw[aR nw];exact h) (f.upd hl) (Wys.updW hl q)
theorem Wys.updD (hl:H D=some (.dK kv)):∀{kvs:List (Key × V)} {w:WS},Wys K H0 W H kvs w->Wys K H0 W (L2.upd H D o) kvs w
 |_,_,.nil=>.nil
 |_,_,.cons n nw h f q=>.cons n nw (by rw[aR (jP h hl (λz=>by cases z))];exact h) (f.updD hl) (Wys.updD hl q)
theorem Wys.length:∀{kvs:List (Key × V)} {w:WS},Wys K H0 W H kvs w->kvs.length=w.length
 |_,_,.nil=>rfl
 |_,_,.cons _ _ _ _ q=>by simp[Wys.length q]
theorem Wys.snoc {x:Nat}{st:List Stp}(n:H0 a=none)(nw:a≠W)(h:H a=some (.lst xs))(f:Sts K H xs st):∀{kvs:List (Key × V)} {w:WS},Wys K H0 W H kvs w->Wys K H0 W H (kvs++[(Sum.inl (x:Int),.ref a)]) (w++[(x,st)])
 |_,_,.nil=>.cons n nw h f .nil
 |_,_,.cons n' nw' h' f' q=>.cons n' nw' h' f' (Wys.snoc n nw h f q)
theorem Wys.none_:∀{kvs:List (Key × V)} {w:WS},Wys K H0 W H kvs w->p∉cC w->rF kvs (Sum.inl (p:Int))=none/\(kvs.any λkv=>decide (kv.1=Sum.inl (p:Int)))=false
 |_,_,.nil,_=>⟨rfl,rfl⟩
 |_,_,.cons (x:=x) (kvs:=kvs) (w:=w) n nw h f q,hp=>by
  have hx:x≠p:=λz=>hp (by rw[<- z];exact mem_cons_self ..);obtain⟨h1,h2⟩:=Wys.none_ q λz=>hp (mem_cons_of_mem _ z);refine⟨by rw[nQ (λz=>hx (Int.ofNat.inj (Sum.inl.inj z)))];exact h1,?_⟩;rw[any_cons,h2];have e:decide ((Sum.inl (x:Int):Key)=Sum.inl (p:Int))=false:=decide_eq_false λz=>hx (Int.ofNat.inj (Sum.inl.inj z));show (decide ((Sum.inl (x:Int):Key)=Sum.inl (p:Int)) || false)=false;rw[e];rfl
theorem Wys.some_:∀{kvs:List (Key × V)} {w:WS},Wys K H0 W H kvs w->p∈cC w->∃a xs st,rF kvs (Sum.inl (p:Int))=some (.ref a)/\rS w p=some st/\H0 a=none/\a≠W/\H a=some (.lst xs)/\Sts K H xs st
 |_,_,.nil,h=>by cases h
 |_,_,.cons (a:=a) (x:=x) (xs:=xs) (st:=st) (kvs:=kvs) (w:=w) n nw h f q,hp=>by
  by_cases c:x=p
  ·subst c;exact⟨a,xs,st,by rw[qK rfl],by unfold rS;rw[if_pos rfl],n,nw,h,f⟩
  ·have hp':p∈cC w:=by
    rcases mem_cons.mp hp with z | z
    ·exact absurd z.symm c
    ·exact z
   obtain⟨a',xs',st',h1,h2,r⟩:=Wys.some_ q hp';exact⟨a',xs',st',by rw[nQ (λz=>c (Int.ofNat.inj (Sum.inl.inj z)))];exact h1,by unfold rS;rw[if_neg c];exact h2,r⟩
theorem Wys.isSome {p:Nat}(h:Wys K H0 W H kvs w):(rF kvs (Sum.inl (p:Int))).isSome=decide (p∈cC w):=by
 by_cases c:p∈cC w
 ·obtain⟨a,xs,st,e,_⟩:=h.some_ c;rw[e,decide_eq_true c];rfl
 ·rw[(h.none_ c).1,decide_eq_false c];rfl
end
structure Rgs (K:Frag) (H0 H:Hp) (us:List V) (X:List (List Stp)):Prop where
 l:us.length=X.length
 r:∀(i:Nat) (x:V) (st:List Stp),us[i]?=some x->X[i]?=some st->∃(a:Addr) (xs:List V),x=.ref a/\H0 a=none/\H a=some (.lst xs)/\Sts K H xs st
theorem Rgs.nil {K:Frag}:Rgs K H0 H [] []:=⟨rfl,λi x st h=>by simp at h⟩
theorem Rgs.same {K:Frag}(e:aS H H')(f:Rgs K H0 H us X):Rgs K H0 H' us X:=⟨f.l,λi x st h1 h2=>let ⟨a,xs,e1,n,h,s⟩:=f.r i x st h1 h2;⟨a,xs,e1,n,e _ _ h,s.same e⟩⟩
theorem Rgs.snoc {K:Frag}{st:List Stp}(f:Rgs K H0 H us X)(n:H0 a=none)(h:H a=some (.lst xs))(s:Sts K H xs st):Rgs K H0 H (us++[.ref a]) (X++[st]):=by
 refine⟨by rw[List.length_append,List.length_append,f.l];rfl,λi x qs h1 h2=>?_⟩;have l:=f.l
 by_cases c:i < us.length
 ·rw[getElem?_append_left c] at h1;rw[getElem?_append_left ()] at h2;exact f.r i x qs h1 h2
 ·have hi:i=us.length:=by
   have:=(List.getElem?_eq_some_iff.mp h1).1;rw[List.length_append] at this;simp only[length_cons,length_nil] at this;lia
  subst hi;rw[getElem?_append_right (Nat.le_refl _),Nat.sub_self] at h1;rw[getElem?_append_right (),show us.length - X.length=0 by lia] at h2
  cases h1
  cases h2
  exact⟨a,xs,rfl,n,h,s⟩
theorem Rgs.updO {K:Frag}{l:Addr}(f:Rgs K H0 H us X)(hl:H l=some (.lst ys))(n:∀x∈us,x≠.ref l):Rgs K H0 (upd H l o) us X:=⟨f.l,λi x st h1 h2=>let ⟨a,xs,e1,n1,h,s⟩:=f.r i x st h1 h2;⟨a,xs,e1,n1,by rw[aR (λz=>n x (mem_of_getElem? h1) (by rw[e1,z]))];exact h,s.upd hl⟩⟩
def qa6 (ds:List RD)(es:List Br):Prop:=∀e∈es,∃d,ds[e.1]?=some d/\d.2.1=(e.2.1:Int)/\d.2.2.1=(e.2.2:Int)
inductive Bk (K:Frag) (CK:Kd->Addr) (vs:List V) (H:Hp) (Q:VK) (E:XK):Prop where
 |mk (a b:Addr) (xs:List V) (ds:List RD) (es:List Br) (p:Nat):vs=[.ref a,.ref b,.int (p:Int)]->SqL K H a xs->gX CK K H xs ds->(SqL K H b (es.map λe=>V.int (e.1:Int)))->qa6 ds es->es.length<=100->(∀l ys H',aS H H'->H l=none->H' l=some (.lst ys)->Sds K H' ys (stF es p)->Q (.ref l) H')->Bk K CK vs H Q E
inductive Sb (K:Frag) (CK:Kd->Addr) (vs:List V) (H:Hp) (Q:VK) (E:XK):Prop where
 |mk (a b:Addr) (xs:List V) (ds:List RD) (es:List Br) (m f t:Nat):vs=[.ref a,.ref b,.int (f:Int),.int (t:Int)]->SqL K H a xs->gX CK K H xs ds->(SqL K H b (es.map λe=>V.int (e.1:Int)))->qa6 ds es->es.length<=100->Ptm m es->m<=20->f < m->(lM es f t=none->∀H',aS H H'->Q .non H')->(∀st,lM es f t=some st->∀l ys H',aS H H'->H l=none->H' l=some (.lst ys)->Sts K H' ys st->Q (.ref l) H')->Sb K CK vs H Q E
inductive Wds (K:Frag) (H:Hp):V->(Kd->Bool)->Prop where
 |non:Wds K H .non (λk=>decide (k≠.pu))
 |seq {a:Addr} {ws:List V} (h:SqL K H a ws) (f:ws.all oV=true):Wds K H (.ref a) (λk=>inV (.str k.wd) ws)
inductive Ch (CN:Addr) (K:Frag) (vs:List V) (H:Hp) (Q:VK) (E:XK):Prop where
 |mk (n l:Addr) (v:V) (m:Nat) (ds:List RD) (W:Kd->Bool):vs=[.ref n,v]->dW CN K H n l (m:Int) ds->(∀d∈ds,dF (m:Int) d.2.1 d.2.2.1)->m<=20->ds.length<=40->Wds K H v W->(∀r us H',aS H H'->H r=none->H' r=some (.lst us)->Rgs K H H' us ((bY W (skl ds) ds.length).2.map (·.2))->(∀x∈us,x≠.ref r)->Q (.ref r) H')->Ch CN K vs H Q E
end L2
namespace Mq
def KJ (m:Nat)(A1:Mat)(R:List (List Int)):Prop:=∀Φ,Lin Φ->(∀i,i < m->Φ (A1 i)=0)->∀k,k < m->Φ (at2 R k)=0
theorem KJ.swap (h:KJ m A1 R)(hl:R.length=m)(hp:p < m)(hr:r < m):KJ m A1 (fU R p r):=λΦ lin hz k hk=>by
 have e:at2 (fU R p r) k=at2 R (sw p r k):=by
  funext x
  rw[rK () ()]
 rw[e];exact h Φ lin hz _ (Bs hp hr hk)
theorem KJ.clear (h:KJ m A1 R)(s:SI m w A0 R r col d sg)(hr:r < m)(hc:col < w)(he:ent R r col≠0):KJ m A1 (cJ R r col d):=λΦ lin hz k hk=>by
 have cl:=λ(x:Nat)=>uX s hr hc he hk x;have z:=h Φ lin hz
 by_cases e:k=r
 ·have e2:at2 (cJ R r col d) k=at2 R k:=by funext x;rw[cl x,if_pos e]
  rw[e2];exact z k hk
 ·have e2:at2 (cJ R r col d) k=λx=>(λx=>(at2 R r col / (d:Rat))*at2 R k x) x+(-(at2 R k col / (d:Rat)))*at2 R r x:=by
   funext x
   show _=(at2 R r col / (d:Rat))*at2 R k x+_;rw[cl x,if_neg e];grind
  rw[e2,lin,lin.mul,z k hk,z r hr];grind
theorem KJ.whole (h:KJ m A1 R)(s:SI m w A0 R m m d sg){v:Nat->Rat}(hv:∀i,i < m->(rs m λk=>A1 i k*v k)=A1 i m)(hk:k < m):at2 R k m / (d:Rat)=v k:=by
 obtain⟨A,c,B,e⟩:=s.bar;have dn:=B.dne;have:=h (λf=>(rs m λk=>f k*v k) - f m) (λx y l=>by
  have:(rs m λk=>(x k+l*y k)*v k)=(rs m λk=>x k*v k+l*(y k*v k)):=aU λk _=>by grind
  show (rs m λk=>(x k+l*y k)*v k) - (x m+l*y m)=((rs m λk=>x k*v k) - x m)+l*((rs m λk=>y k*v k) - y m)
  rw[this,fD,fQ];grind) (λi hi=>by
  show (rs m λk=>A1 i k*v k) - A1 i m=0;rw[hv i hi];grind) k hk
 have e1:(rs m λj=>at2 R k j*v j)=rs m λj=>if j=k then (d:Rat)*v k else 0:=aU λj hj=>by
  have i2:=B.i2 k j hk hj;rw[B.full rfl j hj] at i2;rw[i2]
  by_cases z:j=k
  ·rw[if_pos z,if_pos z,z]
  ·rw[if_neg z,if_neg z];grind
 have e2:(rs m λj=>at2 R k j*v j) - at2 R k m=0:=this;rw[e1,mU m k _ hk] at e2;grind
end Mq
namespace Shp
open PySem L2
theorem Ps:Stp m w A0 (λR=>Mq.KI m A1 R/\Mq.KJ m A1 R):=
 ⟨λR r col d sg p s h1 h2 h=>⟨h.1.swap s.len h2 (),h.2.swap s.len h2 ()⟩,λR r col d sg s h1 h2 h3 h=>⟨h.1.clear s h1 h2 h3,h.2.clear s h1 h2 h3⟩⟩
theorem Zq (hX:eE X)(hq:Mq.Pos qs)(hl:qs.length=X.length)(hw:∀row∈X,row.length=X.length)(h:Mq.KJ X.length (Mq.at2 (iL X qs)) R)(s:SI X.length w (Mq.at2 (iL X qs)) R X.length X.length d sg){v:Nat->Rat}(hv:∀i,i < X.length->(Mq.rs X.length λj=>rL X i j*v j)=Mq.val (qs.getD i Mq.z0))(hk:k < X.length):Mq.at2 R k X.length / (d:Rat)=v k:=by
 refine h.whole s (λi hi=>?_) hk;rw[vS hX hq hl hw hi (),if_neg (),<- hv i hi,<- fQ];refine aU λk hk=>?_;rw[vS hX hq hl hw hi (),if_pos hk];grind
structure Zn (X:List (List Mq.Q2)) (qs ps:List Mq.Q2):Prop extends Slv X qs ps where
 uni:∀v:Nat->Rat,(∀i,i < X.length->(Mq.rs X.length λj=>rL X i j*v j)=Mq.val (qs.getD i Mq.z0))->∀j,j < X.length->Mq.val (ps.getD j Mq.z0)=v j
end Shp
namespace Mq
theorem Wb.rs5 (hK:K<=32)(h:∀k,k < K->Wb n (f k)):Wb (n+5) (Mq.rs K f):=by
 obtain⟨z,e,b⟩:=Yb K h;refine⟨z,e,?_⟩;have p:2 ^ (n+5)=32*2 ^ n:=by rw[Nat.pow_add];lia
 have q:K*2 ^ n<=32*2 ^ n:=Nat.mul_le_mul_right _ hK;have r:0 < 2 ^ n:=Nat.two_pow_pos n;show z.natAbs < 2 ^ (n+5)
 by_cases k0:K=0
 ·subst k0;lia
 ·lia
theorem Bc:∀(r:Nat) (M:Mat),r<=32->(∀i j,i < r->Wb n (M i j))->Wb ((n+5)*r+1) (det r M)
 |0,_,_,_=>Wb.one
 |r+1,M,hr,h=>by
  rw[fY];have:=Wb.rs5 (n:=n+((n+5)*r+1)) (K:=r+1) (f:=λj=>sgn (r+j)*M r j*det r λi k=>M i (skip j k)) hr λj _=>((h r j ()).sgn _).mul (Bc r _ () λi k hi=>h i _ ());exact this.mono (by rw[Nat.mul_succ];lia)
section
variable {m:Nat} {A E:Mat} {r col:Nat} {d:Rat} {c:Nat->Nat} {n:Nat}
theorem Bar.wd5 (h:Bar m A E r col d c)(hA:∀i x,i < m->Wb n (A i x))(hm:m<=31):Wb ((n+5)*r+1) d:=by
 have rm:=h.rm;rw[<- h.i5];exact Bc r _ () λi j hi=>hA i _ ()
theorem Bar.wtop5 (h:Bar m A E r col d c)(hA:∀i x,i < m->Wb n (A i x))(hm:m<=31)(hk:k < r)(x:Nat):Wb ((n+5)*r+7) (E k x):=by
 have rm:=h.rm;have hd:=h.dne
 by_cases hx:∃j,j < r/\x=c j
 ·obtain⟨j,hj,rfl⟩:=hx;rw[h.i2 k j hk hj];split
  ·exact(h.wd5 hA hm).mono ()
  ·exact Wb.zero _
 ·let c2:Nat->Nat:=λj=>if j=r then x else c j
  let u:Nat->Rat:=λj=>if j=c k then 1 else 0
  have hΦ:=Jv r A c2;have z:=h.i6 _ hΦ (λs hs=>La r A c2 hs) k hk;have eu:u=λy=>(λy=>u y+(-(1 / d))*E k y) y+(1 / d)*E k y:=by
   funext y
   show u y=u y+(-(1 / d))*E k y+(1 / d)*E k y;grind
  have fb:=Cf r A c2 (λy=>u y+(-(1 / d))*E k y) λj hj=>by
   have ec:c2 j=c j:=by show (if j=r then x else c j)=_;rw[if_neg ()]
   rw[ec];show u (c j)+(-(1 / d))*E k (c j)=0;rw[h.i2 k j hk hj];show (if c j=c k then (1:Rat) else 0)+_=0
   by_cases e:j=k
   ·rw[if_pos e,if_pos (by rw[e])];grind
   ·rw[if_neg e,if_neg (λq=>e (h.cinj j k hj hk q))];grind
  have dd:(det r λi j=>A i (c2 j))=d:=by
   rw[<- h.i5];exact cH λi j _ hj=>by show A i (if j=r then x else c j)=_;rw[if_neg ()]
  have ux:u x=0:=by show (if x=c k then (1:Rat) else 0)=0;rw[if_neg (λq=>hx ⟨k,hk,q⟩)]
  have cx:c2 r=x:=by show (if r=r then x else _)=x;rw[if_pos rfl]
  rw[dd,cx] at fb;have val:F r A c2 u=- E k x:=by
   rw[eu,hΦ,z,fb];show (u x+(-(1 / d))*E k x)*d+_=_;rw[ux];grind
  have wh:Wb ((n+5)*r+7) (F r A c2 u):=by
   rw[Mw];have:=Wb.rs5 (n:=1+((n+5)*r+1)) (K:=r+1) (f:=λj=>Mq.sgn (r+j)*u (c2 j)*det r λi k=>A i (c2 (Mq.skip j k))) () λj _=>by
    refine Wb.mul (Wb.sgn ?_ _) (Bc r _ () λi k hi=>hA i _ ());show Wb 1 (if c2 j=c k then (1:Rat) else 0);split
    ·exact Wb.one
    ·exact Wb.zero _
   exact this.mono ()
  rw[val] at wh;have:=wh.neg
  rwa [show - - E k x=E k x by grind] at this
theorem Bar.wall5 (h:Bar m A E r col d c)(hA:∀i x,i < m->Wb n (A i x))(hm:m<=31)(hi:i < m)(x:Nat):Wb ((n+5)*(m+1)+8) (E i x):=by
 have rm:=h.rm;have mono:=Nat.mul_le_mul_left (n+5) rm;have e1:(n+5)*(m+1)=(n+5)*m+(n+5):=Nat.mul_succ ..
 by_cases h1:i < r
 ·exact(h.wtop5 hA hm h1 x).mono ()
 ·have q:=h.i4 i x hi;rw[if_neg h1] at q;have e:E i x=d*A i x - rs r λk=>A i (c k)*E k x:=by grind
  rw[e];have b1:Wb (n+((n+5)*r+7)+5) (d*A i x):=((h.wd5 hA hm).mul (hA i x hi)).mono ();have b2:Wb (n+((n+5)*r+7)+5) (rs r λk=>A i (c k)*E k x):=Wb.rs5 () λk hk=>(hA i _ hi).mul (h.wtop5 hA hm hk x);exact(b1.sub b2).mono ()
end
theorem SB.bd5 (h:SB n m R r col d)(s:SI m w A0 R r col d sg)(hm:m<=31):BdR ((n+5)*(m+1)+8) R/\B ((n+5)*(m+1)+8) d:=by
 obtain⟨A,c,B,q⟩:=h;refine⟨λi x=>?_,?_⟩
 ·by_cases hi:i < m
  ·obtain⟨z,e,b⟩:=B.wall5 q hm hi x;have:ent R i x=z:=Rat.intCast_inj.mp e;rw[this];exact b
  ·unfold ent;rw[getD_eq_getElem?_getD (l:=R),getElem?_eq_none (by rw[s.len];lia)];exact Nat.two_pow_pos _
 ·obtain⟨z,e,b⟩:=B.wd5 q hm;have:d=z:=Rat.intCast_inj.mp e;have mono:=Nat.mul_le_mul_left (n+5) B.rm;rw[this];exact b.mono (by rw[Nat.mul_succ];lia)
theorem Eg (ha:1<=a)(hb:1<=b)(h1:a ∣ L)(h2:b ∣ L):oP a b ∣ L:=by
 have g1:gc a b ∣ a:=Int.gcd_dvd_left ..;have g0:gc a b≠0:=by have:=vW (a:=a) (b:=b) ();lia
 obtain⟨x,hx⟩:=g1;have e:oP a b=x*b:=by
  unfold oP;rw[fK g0 hx]
 have k:(Int.lcm a b:Int) ∣ L:=Int.coe_lcm_dvd h1 h2;have m:(Int.gcd a b:Int)*(Int.lcm a b:Int)=a*b:=by
  have:=Int.gcd_mul_lcm a b;have h:((Int.gcd a b*Int.lcm a b:Nat):Int)=((a*b).natAbs:Nat):=by rw[this,Int.natAbs_mul]
  rw[Int.natCast_mul] at h;rw[h,Int.natAbs_of_nonneg (Int.mul_nonneg () ())]
 have e2:(Int.lcm a b:Int)=x*b:=by
  have hg:(Int.gcd a b:Int)=gc a b:=rfl;rw[hg] at m;have:gc a b*(Int.lcm a b:Int)=gc a b*(x*b):=by
   rw[m,<- Int.mul_assoc,<- hx]
  exact Int.eq_of_mul_eq_mul_left g0 this
 rw[e,<- e2];exact k
theorem Ae:∀{ps:List Q2},Pos ps->(∀p∈ps,p.2 ∣ L)->∀i,i<=ps.length->dI (ps.take i) ∣ L/\1<=dI (ps.take i)
 |ps,hp,h,0,_=>⟨Int.one_dvd _,by rw[take_zero];decide⟩
 |ps,hp,h,i+1,hi=>by
  obtain⟨a,b⟩:=Ae hp h i ();have hm:ps[i]?=some ps[i]:=getElem?_eq_getElem ();have mem:=mem_of_getElem? hm;rw[oH hm];refine⟨Eg b (hp _ mem) a (h _ mem),?_⟩;have:=pQ (ps:=ps.take (i+1)) (λp hp'=>hp p (mem_of_mem_take hp'))
  rwa [oH hm] at this
end Mq
namespace Shp
open PySem L2
abbrev bw (n m:Nat):Nat:=(n+5)*(m+1)+8
theorem Wn (n:Nat)(h:i<=j):bw n i<=bw n j:=Nat.add_le_add_right (Nat.mul_le_mul_left (n+5) (show i+1<=j+1 by lia)) 8
inductive uC (K:Frag) (vs:List V) (H:Hp) (Q:VK) (E:XK):Prop where
 |mk (l D:Addr) (zs:List V) (R:List (List Int)) (m w n:Nat) (Pr:List (List Int)->Prop):vs=[.ref l,.int (m:Int)]->SqL K H l zs->Imx D H zs R->R.length=m->(∀i,i < m->(R.getD i []).length=w)->m<=w->w<=100->BdR n R->1<=n->bw n m<=9000->m<=31->Pr R->Stp m w (Mq.at2 R) Pr->(∀d l' zs' R' rank pivot sign H',aS H H'->H d=none->H l'=none->H' d=some (Rq l' rank pivot sign)->H' l'=some (.lst zs')->Imx l' H' zs' R'->SI m w (Mq.at2 R) R' rank m pivot sign->BdR (bw n m) R'->Mq.B (bw n m) pivot->Pr R'->Q (.ref d) H')->uC K vs H Q E
end Shp
namespace L2
open PySem PySem.Spec PyProof.Rows
section
variable (u:Nat->Rat)
def fw (d:RD)(h:Nat):Rat:=match d.1 with
 | .pc=>(u d.2.1.toNat - u d.2.2.1.toNat)*(1 / Mq.val d.2.2.2)
 | .pu=>0
 | .ho=>u h
def nt:Nat->List RD->Nat->Rat
 |_,[],_=>0
 |h,d :: ds,p=>fw u d h*dl d.2.1.toNat d.2.2.1.toNat p+nt (h+dB d.1) ds p
def hw:Nat->List RD->Nat->Rat
 |_,[],_=>0
 |h,d :: ds,y=>(if d.1=.ho/\h=y then u d.2.1.toNat - u d.2.2.1.toNat else 0)+hw (h+dB d.1) ds y
def eg:Nat->List RD->Rat
 |_,[]=>0
 |h,d :: ds=>fw u d h*(u d.2.1.toNat - u d.2.2.1.toNat)+eg (h+dB d.1) ds
end
section
variable {u:Nat->Rat} {m N:Nat}
theorem Kh (F:Nat->Rat)(hs:s < n)(hg:g < n):Mq.rs n (λp=>F p*dl s g p)=F s - F g:=by
 have e:∀p,F p*dl s g p=(if s=p then F p else 0) + - (if g=p then F p else 0):=λp=>by
  unfold dl
  by_cases a:s=p<;>by_cases b:g=p<;>simp only[a,b,if_true,if_false]<;>grind
 rw[aU λp _=>e p,fD,Mq.rW,Hb,Hb,if_pos hs,if_pos hg];grind
theorem qb5 (u0:u 0=0)(hs:s<=n)(hg:g<=n):Mq.rs n (λi=>u (i+1)*dl s g (i+1))=u s - u g:=by
 have:=Kh u (n:=n+1) (s:=s) (g:=g) () ();rw[xQ,u0] at this;grind
theorem qm3 (u0:u 0=0)(pt:dF (m:Int) d.2.1 d.2.2.1)(hm:m<=N+1)(h1:1<=h)(hh:d.1=.ho->h<=N):Mq.rs N (λi=>u (i+1)*cM d h (i+1) y)=fw u d h*dl d.2.1.toNat d.2.2.1.toNat y+(if d.1=.ho/\h=y then u d.2.1.toNat - u d.2.2.1.toNat else 0):=by
 obtain⟨a,b,c,e⟩:=pt;have base:=qb5 (u:=u) (n:=N) (s:=d.2.1.toNat) (g:=d.2.2.1.toNat) u0 () ();unfold cM fw
 cases hk:d.1 with
 |pc=>
  dsimp only;rw[if_neg (λz=>by cases z.1)];have:∀i,u (i+1)*(dl d.2.1.toNat d.2.2.1.toNat (i+1)*dl d.2.1.toNat d.2.2.1.toNat y*(1 / Mq.val d.2.2.2))=(dl d.2.1.toNat d.2.2.1.toNat y*(1 / Mq.val d.2.2.2))*(u (i+1)*dl d.2.1.toNat d.2.2.1.toNat (i+1)):=λi=>by grind
  rw[aU λi _=>this i,fQ,base];grind
 |pu=>
  dsimp only;rw[if_neg (λz=>by cases z.1)];have:∀i,u (i+1)*(0:Rat)=0:=λi=>by grind
  rw[aU λi _=>this i,eO];grind
 |ho=>
  dsimp only;have hN:=hh hk;have one:Mq.rs N (λi=>u (i+1)*(if h=i+1 then 1 else 0))=u h:=by
   have:∀i,u (i+1)*(if h=i+1 then (1:Rat) else 0)=if h - 1=i then u (i+1) else 0:=λi=>by
    by_cases z:h=i+1
    ·rw[if_pos z,if_pos ()];grind
    ·rw[if_neg z,if_neg ()];grind
   rw[aU λi _=>this i,Hb,if_pos (),show h - 1+1=h by lia]
  have:∀i,u (i+1)*(dl d.2.1.toNat d.2.2.1.toNat (i+1)*(if h=y then 1 else 0)+(if h=i+1 then 1 else 0)*dl d.2.1.toNat d.2.2.1.toNat y)=(if h=y then 1 else 0)*(u (i+1)*dl d.2.1.toNat d.2.2.1.toNat (i+1))+dl d.2.1.toNat d.2.2.1.toNat y*(u (i+1)*(if h=i+1 then 1 else 0)):=λi=>by grind
  rw[aU λi _=>this i,fD,fQ,fQ,base,one]
  by_cases z:h=y
  ·rw[if_pos z,if_pos ⟨rfl,z⟩];grind
  ·rw[if_neg z,if_neg (λq=>z q.2)];grind
theorem Rm (u0:u 0=0)(hm:m<=N+1)(y:Nat):∀(ds:List RD) (h:Nat),(∀d∈ds,dF (m:Int) d.2.1 d.2.2.1)->1<=h->h+cX ds<=N+1->Mq.rs N (λi=>u (i+1)*eqM h ds (i+1) y)=nt u h ds y+hw u h ds y
 | [],h,_,_,_=>by
  have:∀i,u (i+1)*eqM h [] (i+1) y=0:=λi=>by show u (i+1)*(0:Rat)=0;grind
  rw[aU λi _=>this i,eO];show (0:Rat)=0+0;grind
 |d :: ds,h,pt,h1,hN=>by
  rw[iB] at hN;have ih:=Rm u0 hm y ds (h+dB d.1) (λe he=>pt e (mem_cons_of_mem _ he)) () ();have c:=qm3 (u:=u) (N:=N) (h:=h) (y:=y) u0 (pt d ⋯) hm h1 (λz=>by rw[z] at hN;have:dB .ho=1:=rfl;lia);have:∀i,u (i+1)*eqM h (d :: ds) (i+1) y=u (i+1)*cM d h (i+1) y+u (i+1)*eqM (h+dB d.1) ds (i+1) y:=λi=>by
   show u (i+1)*(cM d h (i+1) y+eqM (h+dB d.1) ds (i+1) y)=_;grind
  rw[aU λi _=>this i,fD,ih,c];show _=(fw u d h*dl d.2.1.toNat d.2.2.1.toNat y+nt u (h+dB d.1) ds y)+((if d.1=.ho/\h=y then u d.2.1.toNat - u d.2.2.1.toNat else 0)+hw u (h+dB d.1) ds y)
  grind
theorem Ql:∀(ds:List RD) (h:Nat),y < h->hw u h ds y=0
 | [],_,_=>rfl
 |d :: ds,h,hy=>by
  show (if d.1=.ho/\h=y then u d.2.1.toNat - u d.2.2.1.toNat else 0)+hw u (h+dB d.1) ds y=0;rw[if_neg (λz=>by lia),Ql ds (h+dB d.1) ()];grind
theorem Pw:∀(ds:List RD) (h:Nat),(∀d∈ds,dF (m:Int) d.2.1 d.2.2.1)->m<=y->nt u h ds y=0
 | [],_,_,_=>rfl
 |d :: ds,h,pt,hy=>by
  obtain⟨a,b,c,e⟩:=pt d ⋯;show fw u d h*dl d.2.1.toNat d.2.2.1.toNat y+nt u (h+dB d.1) ds y=0;rw[Pw ds (h+dB d.1) (λe he=>pt e (mem_cons_of_mem _ he)) hy];unfold dl;rw[if_neg (),if_neg ()];grind
theorem Gp:∀(ds:List RD) (h:Nat),(∀y,h<=y->y < h+cX ds->hw u h ds y=0)->∀d∈ds,d.1=.ho->u d.2.1.toNat=u d.2.2.1.toNat
 | [],_,_,_,hd,_=>by cases hd
 |e :: ds,h,all,d,hd,hk=>by
  by_cases he:e.1=.ho
  ·have c1:dB e.1=1:=by rw[he];rfl
   have first:=all h (Nat.le_refl _) (by rw[iB];lia)
   have f1:(if e.1=.ho/\h=h then u e.2.1.toNat - u e.2.2.1.toNat else 0)+hw u (h+dB e.1) ds h=0:=first
   rw[if_pos ⟨he,rfl⟩,Ql ds (h+dB e.1) ()] at f1;rcases mem_cons.mp hd with rfl | hd
   ·grind
   ·refine Gp ds (h+dB e.1) (λy hy hl=>?_) d hd hk;have:=all y () (by rw[iB];lia);have f2:(if e.1=.ho/\h=y then u e.2.1.toNat - u e.2.2.1.toNat else 0)+hw u (h+dB e.1) ds y=0:=this;rw[if_neg (λz=>by lia)] at f2;grind
  ·have c0:dB e.1=0:=if_neg he;rcases mem_cons.mp hd with rfl | hd
   ·exact absurd hk he
   ·refine Gp ds (h+dB e.1) (λy hy hl=>?_) d hd hk;have:=all y () (by rw[iB];lia);have f2:(if e.1=.ho/\h=y then u e.2.1.toNat - u e.2.2.1.toNat else 0)+hw u (h+dB e.1) ds y=0:=this;rw[if_neg (λz=>he z.1)] at f2;grind
theorem Xx:∀(ds:List RD) (h:Nat),(∀d∈ds,dF (m:Int) d.2.1 d.2.2.1)->Mq.rs m (λp=>u p*nt u h ds p)=eg u h ds
 | [],h,_=>by
  have:∀p,u p*nt u h [] p=0:=λp=>by show u p*(0:Rat)=0;grind
  rw[aU λp _=>this p,eO];rfl
 |d :: ds,h,pt=>by
  have ih:=Xx ds (h+dB d.1) (λe he=>pt e (mem_cons_of_mem _ he));obtain⟨a,b,c,e⟩:=pt d ⋯;have base:=Kh u (n:=m) (s:=d.2.1.toNat) (g:=d.2.2.1.toNat) () ();have:∀p,u p*nt u h (d :: ds) p=fw u d h*(u p*dl d.2.1.toNat d.2.2.1.toNat p)+u p*nt u (h+dB d.1) ds p:=λp=>by
   show u p*(fw u d h*dl d.2.1.toNat d.2.2.1.toNat p+nt u (h+dB d.1) ds p)=_;grind
  rw[aU λp _=>this p,fD,fQ,base,ih];rfl
theorem qo2 (x:Rat):0<=x*x:=by
 rcases Rat.le_total (a:=0) (b:=x) with h | h
 ·exact Rat.mul_nonneg h h
 ·have:0<=(-x)*(-x):=Rat.mul_nonneg (by grind) (by grind);grind
theorem Ov {a:Rat}(h:0 < a):0 < 1 / a:=by
 rw[Rat.div_def,Rat.one_mul];exact Rat.inv_pos.mpr h
theorem Yl:∀(ds:List RD) (h:Nat),(∀d∈ds,d.1=.pc->0 < Mq.val d.2.2.2)->(∀d∈ds,d.1=.ho->u d.2.1.toNat=u d.2.2.1.toNat)->0<=eg u h ds/\(eg u h ds=0->∀d∈ds,d.1=.pc->u d.2.1.toNat=u d.2.2.1.toNat)
 | [],_,_,_=>⟨Rat.le_refl,λ_ d hd=>by cases hd⟩
 |e :: ds,h,pos,ho=>by
  obtain⟨i1,i2⟩:=Yl ds (h+dB e.1) (λd hd=>pos d (mem_cons_of_mem _ hd)) (λd hd=>ho d (mem_cons_of_mem _ hd));have eq:eg u h (e :: ds)=fw u e h*(u e.2.1.toNat - u e.2.2.1.toNat)+eg u (h+dB e.1) ds:=rfl;rw[eq];generalize eg u (h+dB e.1) ds=r at i1 i2;have t:0<=fw u e h*(u e.2.1.toNat - u e.2.2.1.toNat)/\(e.1=.pc->fw u e h*(u e.2.1.toNat - u e.2.2.1.toNat)=0->u e.2.1.toNat=u e.2.2.1.toNat):=by
   unfold fw
   cases hk:e.1 with
   |pu=>exact⟨by grind,λz=>by cases z⟩
   |ho=>exact⟨by rw[ho e ⋯ hk];grind,λz=>by cases z⟩
   |pc=>
    dsimp only;have p:=Ov (pos e ⋯ hk);generalize 1 / Mq.val e.2.2.2=q at p;generalize u e.2.1.toNat=a;generalize u e.2.2.1.toNat=b;have e2:(a - b)*q*(a - b)=q*((a - b)*(a - b)):=by grind
    rw[e2];refine⟨Rat.mul_nonneg (Rat.le_of_lt p) (qo2 _),λ_ z=>?_⟩;have q0:q≠0:=λz=>by rw[z] at p;exact absurd p ∅
    have:(a - b)*(a - b)=0:=by grind
    have:a - b=0:=by grind
    grind
  obtain⟨t1,t2⟩:=t;generalize fw u e h*(u e.2.1.toNat - u e.2.2.1.toNat)=x at t1 t2;refine⟨by grind,λz d hd hk=>?_⟩;have x0:x=0:=by grind
  have r0:r=0:=by grind
  rcases mem_cons.mp hd with rfl | hd
  ·exact t2 hk x0
  ·exact i2 r0 d hd hk
theorem Cw (d:RD)(p:Nat):∀(ds:List RD) (h:Nat),nt u h (ds++[d]) p=nt u h ds p+fw u d (h+cX ds)*dl d.2.1.toNat d.2.2.1.toNat p
 | [],h=>by show fw u d h*_+0=0+fw u d (h+0)*_;rw[Nat.add_zero];grind
 |e :: ds,h=>by
  show fw u e h*_+nt u (h+dB e.1) (ds++[d]) p=fw u e h*_+nt u (h+dB e.1) ds p+_;rw[Cw d p ds,iB,Nat.add_assoc];grind
theorem He (F:Nat->Rat):∀(ds:List RD) (h:Nat),(∀d∈ds,dF (m:Int) d.2.1 d.2.2.1)->(∀d∈ds,d.1=.pc->u d.2.1.toNat=u d.2.2.1.toNat)->(∀d∈ds,d.1=.ho->F d.2.1.toNat=F d.2.2.1.toNat)->Mq.rs m (λp=>F p*nt u h ds p)=0
 | [],h,_,_,_=>by
  have:∀p,F p*nt u h [] p=0:=λp=>by show F p*(0:Rat)=0;grind
  rw[aU λp _=>this p,eO]
 |d :: ds,h,pt,hu,hF=>by
  have ih:=He F ds (h+dB d.1) (λe he=>pt e (mem_cons_of_mem _ he)) (λe he=>hu e (mem_cons_of_mem _ he)) (λe he=>hF e (mem_cons_of_mem _ he));obtain⟨a,b,c,e⟩:=pt d ⋯;have base:=Kh F (n:=m) (s:=d.2.1.toNat) (g:=d.2.2.1.toNat) () ();have:∀p,F p*nt u h (d :: ds) p=fw u d h*(F p*dl d.2.1.toNat d.2.2.1.toNat p)+F p*nt u (h+dB d.1) ds p:=λp=>by
   show F p*(fw u d h*dl d.2.1.toNat d.2.2.1.toNat p+nt u (h+dB d.1) ds p)=_;grind
  rw[aU λp _=>this p,fD,fQ,base,ih]
  cases hk:d.1 with
  |pu=>
   have:fw u d h=0:=by unfold fw;rw[hk]
   rw[this];grind
  |pc=>
   have:fw u d h=0:=by unfold fw;rw[hk];dsimp only;rw[hu d ⋯ hk];grind
   rw[this];grind
  |ho=>rw[hF d ⋯ hk];grind
def Frs (ds:List RD):Prop:=∀(A B:List RD) (d:RD),ds=A++d :: B->d.1=.ho->¬Cn (pE .ho A) d.2.1.toNat d.2.2.1.toNat
theorem Ky:∀(n:Nat) (ds:List RD) (h:Nat),ds.length=n->(∀d∈ds,dF (m:Int) d.2.1 d.2.2.1)->Frs ds->(∀d∈ds,d.1=.pc->u d.2.1.toNat=u d.2.2.1.toNat)->(∀p,p < m->nt u h ds p=0)->∀y,h<=y->y < h+cX ds->u y=0
 |0,ds,h,hl,_,_,_,_,y,h1,h2=>by
  have:ds=[]:=length_eq_zero_iff.mp hl;subst this;have:cX ([]:List RD)=0:=rfl;lia
 |n+1,ds,h,hl,pt,fr,hu,ze,y,h1,h2=>by
  obtain⟨es,d,rfl⟩:∃es d,ds=es++[d]:=⟨ds.dropLast,ds.getLast (by intro z;rw[z] at hl;cases hl),(dropLast_concat_getLast _).symm⟩
  have le:es.length=n:=by rw[List.length_append] at hl;simpa using hl
  have pe:∀x∈es,dF (m:Int) x.2.1 x.2.2.1:=λx hx=>pt x (mem_append_left _ hx);have ue:∀x∈es,x.1=.pc->u x.2.1.toNat=u x.2.2.1.toNat:=λx hx=>hu x (mem_append_left _ hx);have fe:Frs es:=λA B x e hx=>fr A (B++[d]) x (by rw[e];simp) hx;obtain⟨i0,i1,j0,j1⟩:=pt d ⋯;have f0:fw u d (h+cX es)=0:=by
   cases hk:d.1 with
   |pu=>unfold fw;rw[hk]
   |pc=>unfold fw;rw[hk];dsimp only;rw[hu d ⋯ hk];grind
   |ho=>
    open Classical in
    have nc:=fr es [] d rfl hk
    let F:Nat->Rat:=λp=>if Cn (pE .ho es) d.2.1.toNat p then 1 else 0
    have s1:=He (u:=u) (m:=m) F es h pe ue (λx hx hk'=>by
     show (if Cn (pE .ho es) d.2.1.toNat x.2.1.toNat then (1:Rat) else 0)=if Cn (pE .ho es) d.2.1.toNat x.2.2.1.toNat then 1 else 0
     have r:Cn (pE .ho es) x.2.1.toNat x.2.2.1.toNat:=.row (mem_filter.mpr ⟨hx,decide_eq_true hk'⟩) (by rw[hk'];exact λz=>by cases z)
     by_cases c:Cn (pE .ho es) d.2.1.toNat x.2.1.toNat
     ·rw[if_pos c,if_pos (c.trans r)]
     ·rw[if_neg c,if_neg (λz=>c (z.trans r.symm))])
    have s2:Mq.rs m (λp=>F p*nt u h (es++[d]) p)=0:=by
     have:∀p,p < m->F p*nt u h (es++[d]) p=0:=λp hp=>by rw[ze p hp];grind
     rw[aU this,eO]
    have e3:∀p,F p*nt u h (es++[d]) p=F p*nt u h es p+fw u d (h+cX es)*(F p*dl d.2.1.toNat d.2.2.1.toNat p):=λp=>by rw[Cw];grind
    rw[aU λp _=>e3 p,fD,s1,fQ,Kh F () ()] at s2;have Fs:F d.2.1.toNat=1:=if_pos (.refl _);have Fg:F d.2.2.1.toNat=0:=if_neg nc;rw[Fs,Fg] at s2;grind
  have ze':∀p,p < m->nt u h es p=0:=λp hp=>by
   have:=ze p hp;rw[Cw,f0] at this;grind
  rw[mC] at h2
  by_cases c:y < h+cX es
  ·exact Ky n es h le pe fe ue ze' y h1 c
  ·have hk:d.1=.ho:=Classical.byContradiction λz=>by
    have:dB d.1=0:=if_neg z;lia
   have c1:dB d.1=1:=by rw[hk];rfl
   have:y=h+cX es:=by lia
   rw[this];unfold fw at f0;rw[hk] at f0;exact f0
theorem Vz (hm1:1<=m)(pt:∀d∈ds,dF (m:Int) d.2.1 d.2.2.1)(pos:∀d∈ds,d.1=.pc->0 < Mq.val d.2.2.2)(cn:∀p,p < m->Cn ds 0 p)(fr:Frs ds)(u0:u 0=0)(ze:∀y,1<=y->y<=m - 1+cX ds->Mq.rs (m - 1+cX ds) (λi=>u (i+1)*eqM m ds (i+1) y)=0):∀y,y<=m - 1+cX ds->u y=0:=by
 have ze2:∀y,1<=y->y<=m - 1+cX ds->nt u m ds y+hw u m ds y=0:=λy a b=>by
  have:=ze y a b;rw[Rm (m:=m) u0 () y ds m pt hm1 ()] at this;exact this
 have hf:=Gp (u:=u) ds m (λy a b=>by
  have:=ze2 y () ();rw[Pw ds m pt a] at this;grind)
 have np:∀p,1<=p->p < m->nt u m ds p=0:=λp a b=>by
  have:=ze2 p a ();rw[Ql ds m b] at this;grind
 have e0:eg u m ds=0:=by
  rw[<- Xx (u:=u) (m:=m) ds m pt];have:∀p,p < m->u p*nt u m ds p=0:=λp hp=>by
   by_cases c:p=0
   ·rw[c,u0];grind
   ·rw[np p () hp];grind
  rw[aU this,eO]
 have pf:=(Yl (u:=u) ds m pos hf).2 e0;have cz:∀p,p < m->u p=0:=λp hp=>by
  have:=Cn.ind (R:=λa b=>u a=u b) (λ_=>rfl) (λ_ _ e=>e.symm) (λ_ _ _ a b=>a.trans b) (λd hd hk=>by
   cases h:d.1 with
   |pc=>exact pf d hd h
   |pu=>exact absurd h hk
   |ho=>exact hf d hd h) (cn p hp)
  rw[<- this,u0]
 have all:∀p,p < m->nt u m ds p=0:=λp hp=>by
  by_cases c:p=0
  ·have s:=He (u:=u) (m:=m) (λ_=>1) ds m pt pf (λ_ _ _=>rfl);obtain⟨k,rfl⟩:∃k,m=k+1:=⟨m - 1,()⟩
   rw[xQ] at s;have:∀i,i < k->(1:Rat)*nt u (k+1) ds (i+1)=0:=λi hi=>by rw[np (i+1) () ()];grind
   rw[aU this,eO] at s;rw[c];grind
  ·exact np p () hp
 have hz:=Ky (u:=u) (m:=m) _ ds m rfl pt fr pf all;intro y hy
 by_cases c:y < m
 ·exact cz y c
 ·exact hz y () ()
end
open Shp
section
variable {m N:Nat} {ds:List RD}
structure Nof (m:Nat) (ds:List RD):Prop where
 m1:1<=m
 pt:∀d∈ds,dF (m:Int) d.2.1 d.2.2.1
 pos:∀d∈ds,d.1=.pc->0 < Mq.val d.2.2.2
 cn:∀p,p < m->Cn ds 0 p
 fr:Frs ds
theorem qd5 (e:Ct m ds N X Y):X.length=m - 1+cX ds:=e.x.h
theorem Oo (e:Ct m ds N X Y)(i j:Nat):rL X i j=eqM m ds (i+1) (j+1):=e.vx i j
end
theorem oG:∀(k n:Nat),(bY W sk (n+k)).2=[]->(bY W sk n).2=[]
 |0,n,h=>h
 |k+1,n,h=>by
  refine oG k n ?_;have h:(bY W sk (n+k+1)).2=[]:=h
  cases e:sk[n+k]? with
  |none=>
   have:bY W sk (n+k+1)=bY W sk (n+k):=by
    show (match sk[n+k]? with | none=>bY W sk (n+k) | some d=>fV W (bY W sk (n+k)) (n+k) d)=_;rw[e]
   rw[this] at h;exact h
  |some d=>
   rw[gJ e] at h;unfold fV at h;split at h
   ·split at h
    ·exact h
    ·exact absurd h ⋯
   ·exact h
theorem Km:∀n,n<=sk.length->(bY W sk n).2=[]->∀i d,i < n->sk[i]?=some d->W d.1=true->(i,d.2.1,d.2.2)∈(bY W sk n).1
 |0,_,_,i,_,hi,_,_=>absurd hi (Nat.not_lt_zero _)
 |n+1,hn,h,i,d,hi,hd,hW=>by
  have h0:=oG 1 n h;have en:sk[n]?=some sk[n]:=getElem?_eq_getElem ();have ih:=Km n () h0;rw[gJ en] at h ⊢;generalize sk[n]=x at en h ⊢;unfold fV at h ⊢
  by_cases c:i < n
  ·have:=ih i d c hd hW;split at h
   ·rename_i w
    rw[if_pos w];split at h
    ·exact mem_append_left _ this
    ·exact absurd h ⋯
   ·rename_i w
    rw[if_neg w];exact this
  ·have:i=n:=by lia
   subst this;rw[en] at hd
   cases hd
   rw[if_pos hW] at h ⊢;split at h
   ·exact mem_append_right _ ⋯
   ·exact absurd h ⋯
theorem Yw {m:Nat}(hW:∀k,W k=true↔k=.ho)(pt:∀d∈ds,dF (m:Int) d.2.1 d.2.2.1)(h20:m<=20)(h:(bY W (skl ds) ds.length).2=[]):Frs ds:=by
 intro A B d e hd cn;have sl:(skl ds).length=ds.length:=by unfold skl;rw[length_map]
 have lA:A.length < ds.length:=by rw[e,List.length_append,length_cons];lia
 have at_:∀(i:Nat) (x:RD),ds[i]?=some x->(skl ds)[i]?=some (x.1,x.2.1.toNat,x.2.2.1.toNat):=λi x hx=>by unfold skl;rw[getElem?_map,hx];rfl
 have hdA:ds[A.length]?=some d:=by rw[e,getElem?_append_right (Nat.le_refl _),Nat.sub_self];rfl
 have h1:(bY W (skl ds) (A.length+1)).2=[]:=oG (ds.length - (A.length+1)) (A.length+1) (by rw[show A.length+1+(ds.length - (A.length+1))=ds.length by lia];exact h);have h0:=oG 1 A.length h1;have br:=Km (W:=W) (sk:=skl ds) A.length () h0;have ri:=kN (W:=W) (sk:=skl ds) (m:=m) (λx hx=>by
  obtain⟨y,hy,rfl⟩:=mem_map.mp hx;obtain⟨a,b,c,f⟩:=pt y hy;exact⟨by show y.2.1.toNat < m;lia,by show y.2.2.1.toNat < m;lia⟩) A.length ()
 rw[gJ (at_ _ _ hdA)] at h1;unfold fV at h1;rw[if_pos ((hW _).mpr hd)] at h1;obtain⟨a,b,c,f⟩:=pt d (mem_of_getElem? hdA);have wi:=Kj (b:=d.2.2.1.toNat) (e:=d.2.1.toNat) ri.pt h20 () ();have none_:lM (bY W (skl ds) A.length).1 d.2.2.1.toNat d.2.1.toNat=none:=by
  split at h1
  ·rename_i ew;exact ew
  ·exact absurd h1 ⋯
 rw[none_] at wi;refine absurd (wi.mpr ?_) ⋯;refine Cn.ind (ds:=pE .ho A) (R:=λp q=>mk m (dD (bY W (skl ds) A.length).1) p=mk m (dD (bY W (skl ds) A.length).1) q) (λ_=>rfl) (λ_ _ e=>e.symm) (λ_ _ _ x y=>x.trans y) (λx hx hk=>?_) cn;obtain⟨xA,xk⟩:=mem_filter.mp hx;obtain⟨i,hi⟩:=getElem?_of_mem xA;have il:=(List.getElem?_eq_some_iff.mp hi).1;have hx':ds[i]?=some x:=by rw[e,getElem?_append_left il];exact hi
 have:=br i _ il (at_ i x hx') ((hW _).mpr (of_decide_eq_true xk));exact qA _ _ rfl (yB ri.pt) (.pc,(x.2.1.toNat:Int),(x.2.2.1.toNat:Int),(0,1)) (mem_map.mpr ⟨_,this,rfl⟩) (by intro z;cases z)
end L2
namespace Shp
open PySem L2
theorem Kp (hl:R0.length=m)(hw:∀i,i < m->(R0.getD i []).length=w)(hmw:m<=w)(h0:Pr R0)(st:Stp m w (Mq.at2 R0) Pr):∀col,col<=m->∃R r d sg,SI m w (Mq.at2 R0) R r col d sg/\Pr R
 |0,_=>⟨R0,0,1,1,.start hl hw,h0⟩
 |col+1,hc=>by
  obtain⟨R,r,d,sg,S,p⟩:=Kp hl hw hmw h0 st col ()
  by_cases hz:∀i,r<=i->i < m->Mq.ent R i col=0
  ·exact⟨R,r,d,sg,S.skip hz,p⟩
  ·obtain⟨i,hi⟩:=Classical.not_forall.mp hz;obtain⟨h1,hi⟩:=Classical.not_imp.mp hi;obtain⟨h2,ne⟩:=Classical.not_imp.mp hi
   by_cases e:i=r
   ·subst e;exact⟨_,_,_,_,S.clear h2 () ne,st.cl R i col d sg S h2 () ne p⟩
   ·have hlt:r < i:=by lia
    have S2:=S.swap hlt h2;have p2:=st.sw R r col d sg i S hlt h2 p;have ne2:Mq.ent (fU R i r) r col≠0:=by
     have:=Ap (R:=R) (p:=i) (r:=r) (by rw[S.len];lia) (by rw[S.len];lia) r;unfold Mq.ent at ne ⊢;rw[this,show Mq.sw i r r=i by unfold Mq.sw;simp];exact ne
    exact⟨_,_,_,_,S2.clear () () ne2,st.cl _ r col d (-sg) S2 () () ne2 p2⟩
theorem Vr (xP:eE X)(hw:∀row∈X,row.length=X.length)(m1:1<=X.length)(hz:wgt X=0):∃v:Nat->Rat,(∃j,j < X.length/\v j≠0)/\∀x,x < X.length->(Mq.rs X.length λj=>v j*rL X j x)=0:=by
 obtain⟨R,r,d,sg,S,L⟩:=Kp (m:=X.length) (w:=X.length+X.length) (R0:=kR X) (Rj X) (λi hi=>by rw[wF hi,Dn,hw _ (mem_of_getElem? (yQ hi))]) () (Wj xP hw) qi4 X.length (Nat.le_refl _);have wr:=Ts xP (Uh λi j hi hj=>Ac xP hw hi hj) S;have hr:r < X.length:=by
  rcases wr with z | z
  ·exact z.1
  ·exact absurd hz z.2
 obtain⟨⟨k0,hk0,nk0⟩,hsum⟩:=L.lame S hr;refine⟨λk=>Mq.at2 R (X.length - 1) (X.length+k),⟨k0,hk0,λz=>?_⟩,hsum⟩;exact nk0 (Rat.intCast_inj.mp (by unfold Mq.at2 at z;simpa using z))
end Shp
namespace L2
open Shp
theorem Nof.wgt_ne (o:Nof m ds)(e:Ct m ds N X Y)(xP:eE X)(hw:∀row∈X,row.length=X.length)(m1:1<=X.length):wgt X≠0:=λhz=>by
 obtain⟨v,⟨j,hj,vj⟩,hs⟩:=Vr xP hw m1 hz;have n:=qd5 e;have z:=Vz (u:=λx=>if x=0 then 0 else v (x - 1)) o.m1 o.pt o.pos o.cn o.fr (if_pos rfl) (λy y1 yn=>by
  have s:=hs (y - 1) ();rw[n] at s;rw[<- s];refine aU λi _=>?_;rw[if_neg (),Nat.add_sub_cancel,Oo e,show y - 1+1=y by lia])
 have:=z (j+1) ();rw[if_neg (),Nat.add_sub_cancel] at this;exact vj this
end L2
namespace Mq
theorem Du (l:Low p){a L:Int}(hL:1<=L)(h:val p=(a:Rat) / (L:Rat)):p.2 ∣ L/\p.1.natAbs<=a.natAbs:=by
 have h2:((p.2:Int):Rat)≠0:=by have:=l.pos;exact_mod_cast (show p.2≠0 by lia)
 have hl:((L:Int):Rat)≠0:=by exact_mod_cast (show L≠0 by lia)
 have e:p.1*L=a*p.2:=by
  unfold val at h;have:((p.1:Int):Rat)*(L:Rat)=(a:Rat)*((p.2:Int):Rat):=by grind
  exact_mod_cast this
 have d:p.2 ∣ L:=by
  have c:Int.gcd p.2 p.1=1:=by
   have:=l.one;unfold gc at this;rw[Int.gcd_comm];exact_mod_cast this
  have c':Nat.Coprime p.2.natAbs p.1.natAbs:=c;have dv:p.2.natAbs ∣ p.1.natAbs*L.natAbs:=by
   rw[<- Int.natAbs_mul,e,Int.natAbs_mul];exact Nat.dvd_mul_left ..
  exact Int.natAbs_dvd_natAbs.mp (c'.dvd_of_dvd_mul_left dv)
 obtain⟨t,ht⟩:=d;have t1:t≠0:=λz=>by rw[z,Int.mul_zero] at ht;lia
 have e2:p.1*t=a:=by
  have:p.2*(p.1*t)=p.2*a:=by
   rw[Int.mul_comm p.2 a,<- e,ht,<- Int.mul_assoc,<- Int.mul_assoc,Int.mul_comm p.2 p.1]
  exact Int.eq_of_mul_eq_mul_left (by have:=l.pos;lia) this
 refine⟨⟨t,ht⟩,?_⟩;rw[<- e2,Int.natAbs_mul];exact Nat.le_mul_of_pos_right _ ()
def Fr (L:Int)(M:Nat)(x:Rat):Prop:=∃a:Int,x=(a:Rat) / (L:Rat)/\a.natAbs<=M*L.natAbs
section
variable {L K:Int} {M N:Nat} {x y:Rat}
theorem yH (h:1<=L):((L:Int):Rat)≠0:=by exact_mod_cast (show L≠0 by lia)
theorem Fr.mono (h:Fr L M x)(l:M<=N):Fr L N x:=by
 obtain⟨a,e,b⟩:=h;exact⟨a,e,Nat.le_trans b (Nat.mul_le_mul_right _ l)⟩
theorem Fr.zero:Fr L 0 0:=⟨0,by rw[show ((0:Int):Rat)=0 by rfl,Rat.div_def];grind,⋯⟩
theorem Fr.one (h:1<=L):Fr L 1 1:=⟨L,by have:=yH h;grind,()⟩
theorem Fr.add (h:Fr L M x)(g:Fr L N y):Fr L (M+N) (x+y):=by
 obtain⟨a,ea,ba⟩:=h;obtain⟨b,eb,bb⟩:=g;refine⟨a+b,?_,?_⟩
 ·rw[ea,eb,Rat.intCast_add,Rat.div_def,Rat.div_def,Rat.div_def];grind
 ·rw[Nat.add_mul];have:=Int.natAbs_add_le a b;lia
theorem Fr.neg (h:Fr L M x):Fr L M (-x):=by
 obtain⟨a,ea,ba⟩:=h;refine⟨-a,?_,by rw[Int.natAbs_neg];exact ba⟩;rw[ea,Rat.intCast_neg,Rat.div_def,Rat.div_def];grind
theorem Fr.of (hL:1<=L){t b:Int}(hb:1<=b)(d:b ∣ L)(ht:t.natAbs<=M):Fr L M ((t:Rat) / (b:Rat)):=by
 obtain⟨k,rfl⟩:=d;have k1:1<=k:=by
  rcases Int.lt_or_le k 1 with z | z
  ·have:=Int.mul_nonpos_of_nonneg_of_nonpos (show 0<=b by lia) (show k<=0 by lia);lia
  ·exact z
 refine⟨t*k,?_,?_⟩
 ·have:=yH hb;have:=yH k1;rw[Rat.intCast_mul,Rat.intCast_mul];grind
 ·rw[Int.natAbs_mul,Int.natAbs_mul];refine Nat.mul_le_mul ht (Nat.le_mul_of_pos_left _ ())
theorem Fr.get (h:Fr L M x)(hM:M < 2 ^ m)(hL:B n L)(hb:m+n<=b):∃a:Int,B b a/\x=(a:Rat) / (L:Rat):=by
 obtain⟨a,ea,ba⟩:=h;refine⟨a,?_,ea⟩;refine B.mono (n:=m+n) ?_ hb;show a.natAbs < 2 ^ (m+n);rw[Nat.pow_add];have hL:L.natAbs < 2 ^ n:=hL;exact Nat.lt_of_le_of_lt ba (Nat.mul_lt_mul'' hM hL)
end
end Mq
namespace L2
theorem Pe (s g x:Nat):dl s g x=1\/dl s g x=0\/dl s g x=-1:=by
 unfold dl
 by_cases a:s=x<;>by_cases b:g=x<;>simp only[a,b,if_true,if_false]
 ·exact .inr (.inl (by grind))
 ·exact .inl (by grind)
 ·exact .inr (.inr (by grind))
 ·exact .inr (.inl (by grind))
theorem Il (h:Mq.Fr L M y)(s g x:Nat):Mq.Fr L M (dl s g x*y):=by
 rcases Pe s g x with e | e | e
 ·rw[e,Rat.one_mul];exact h
 ·rw[e,Rat.zero_mul];exact Mq.Fr.zero.mono (Nat.zero_le _)
 ·rw[e,show (-1:Rat)*y=-y by grind];exact h.neg
open PySem PySem.Spec PyProof.Rows Shp
abbrev Ent:=Option Nat × RD × Mq.Q2
end L2
namespace Mq
theorem Wm {a L l k:Int}(h:1<=p.2)(e:l=k*p.2)(l1:1<=l)(d:l ∣ L)(hL:1<=L)(v:val p=(a:Rat) / (L:Rat)):(yI l p).natAbs<=a.natAbs:=by
 obtain⟨s,rfl⟩:=d;have s1:s≠0:=λz=>by rw[z,Int.mul_zero] at hL;lia
 have hv:=Tc (L:=l) (k:=k) h e;have h2:=yH l1;have h3:((s:Int):Rat)≠0:=by exact_mod_cast s1
 have e2:yI l p*s=a:=by
  have:((yI l p:Int):Rat)*(s:Rat)=(a:Rat):=by
   rw[hv,v,Rat.intCast_mul];grind
  exact_mod_cast this
 rw[<- e2,Int.natAbs_mul];exact Nat.le_mul_of_pos_right _ ()
end Mq
namespace Shp
open PySem L2
theorem Vi (hX:eE X)(hq:Mq.Pos qs)(hl:qs.length=X.length)(hb:∀row∈X,∀p∈row,p.2 ∣ L/\∃a:Int,Mq.B b a/\Mq.val p=(a:Rat) / (L:Rat))(hqb:∀p∈qs,p.2 ∣ L/\∃a:Int,Mq.B b a/\Mq.val p=(a:Rat) / (L:Rat))(hL:1<=L):BdR b (iL X qs):=λi x=>by
 unfold Mq.ent
 by_cases hi:i < X.length
 ·rw[xM hl hi];have pos:=uB hX hq hl hi;have al:∀p∈X.getD i []++[qs.getD i Mq.z0],p.2 ∣ L/\∃a:Int,Mq.B b a/\Mq.val p=(a:Rat) / (L:Rat):=λp hp=>by
   rcases mem_append.mp hp with z | z
   ·exact hb _ (mem_of_getElem? (yQ hi)) p z
   ·have e:p=qs.getD i Mq.z0:=by simpa using z
    rw[e];exact hqb _ (mem_of_getElem? (Mq.qp7 (show i < qs.length by lia)))
  generalize X.getD i []++[qs.getD i Mq.z0]=row at pos al;obtain⟨dv,l1⟩:=Mq.Ae pos (λp hp=>(al p hp).1) row.length (Nat.le_refl _);rw[take_length] at dv l1;unfold iw;rw[getD_eq_getElem?_getD,getElem?_map]
  cases e:row[x]? with
  |none=>exact Nat.two_pow_pos _
  |some p=>
   have mem:=mem_of_getElem? e;obtain⟨_,a,ab,ea⟩:=al p mem;obtain⟨k,ek⟩:=uZ pos p mem;exact ab.le (Mq.Wm (pos p mem) ek l1 dv hL ea)
 ·rw[getD_eq_getElem?_getD (l:=iL X qs),getElem?_eq_none (by rw[Eb hl];lia)];exact Nat.two_pow_pos _
structure Ovr (n:Nat) (ps:List Mq.Q2):Prop where
 e:∃D:Int,1<=D/\Mq.B n D/\∀p∈ps,∃t:Int,Mq.B n t/\Mq.val p=(t:Rat) / (D:Rat)
theorem Ww (d0:d≠0)(bd:Mq.B n d)(h:∀p∈ps,∃t:Int,Mq.B n t/\p=red t d):Ovr n ps:=by
 refine⟨(d.natAbs:Int),(),by show ((d.natAbs:Int)).natAbs < _;rw[Int.natAbs_natCast];exact bd,λp hp=>?_⟩;obtain⟨t,bt,rfl⟩:=h p hp;rw[iP d0];rcases Int.lt_or_le d 0 with z | z
 ·refine⟨-t,bt.neg,?_⟩;rw[show ((d.natAbs:Nat):Int)=-d by lia,Rat.intCast_neg,Rat.intCast_neg];have:((d:Int):Rat)≠0:=by exact_mod_cast d0
  grind
 ·exact⟨t,bt,by rw[show ((d.natAbs:Nat):Int)=d by lia]⟩
inductive sX (K:Frag) (vs:List V) (H:Hp) (Q:VK) (E:XK):Prop where
 |mk (g b D:Addr) (H0:Hp) (us bs:List V) (X:List (List Mq.Q2)) (qs:List Mq.Q2) (k n:Nat):vs=[.ref g,.ref b]->SqL K H g us->Fmd K H0 D H us X->SqL K H b bs->Fqs K H bs qs->qs.length=X.length->mL qs->(∀p∈qs,Mq.Bd k p)->eE X->(∀row∈X,(∀p∈row,Mq.Bd k p)/\row.length=X.length)->X.length<=26->10+k+k*(X.length+1)<=8000->BdR n (iL X qs)->1<=n->bw n X.length<=8900->wgt X≠0->(∀l zs ps H',aS H H'->H l=none->H' l=some (.lst zs)->Fqs K H' zs ps->Zn X qs ps->Ovr (bw n X.length) ps->Q (.ref l) H')->sX K vs H Q E
end Shp
namespace L2
open PySem
section
variable {X:Cx}
theorem Lv (I:Inv X pins σ H s)(e:H a=some (iK a (.ref C) (some dx)))(ed:H dx=some (.xd fs)):∃ox od,W.InstAt s.heap a ox C (some od):=by
 obtain⟨⟨ob,vs,h1,h2,h3,h4⟩,_⟩:=(show cL X.prog X.w H s.heap a (iK a (.ref C) (some dx)) from I.hok a _ e)
 obtain⟨mA,N1,r⟩:=(show cL X.prog X.w H s.heap dx (.xd fs) from I.hok dx _ ed)
 obtain⟨od,ho,hl⟩:=rH N1;exact⟨ob,od,h1,h2,by unfold W.notCls;rw[h4],by rw[h3];exact ho⟩
theorem Fz:kC X (.builtin "isinstance") (λxs H Q=>∃a C dx fs c cv b,xs=[.ref a,c]/\H a=some (iK a (.ref C) (some dx))/\H dx=some (.xd fs)/\yJ X.K C/\cB c cv/\(∀u,cB c u->u=cv)/\W.kitOne X.K (.ref C) cv=some b/\Q (.bl b) H):=by
 intro pins s σ H xs us Q I r h;obtain⟨a,C,dx,fs,c,cv,b,rfl,ha,hdx,k,rc,ru,e,q⟩:=h;obtain⟨u,w',rfl,rx,rn⟩:=Kz r
 cases (show u=Value.ref a from rx)
 cases ru w' rn
 obtain⟨ox,od,hi⟩:=Lv I ha hdx;exact W.kia_one (Ei (ox:=ox) (odo:=some od) k) I.kIn hi e (λz=>nomatch z) λtk=>⟨.bl b,H,I.tok tk,rfl,q⟩
end
open PySem.Spec PyProof.Rows
section
variable {X:Cx} {C C0 f:Addr}
theorem yS:kC X (.builtin "ValueError.__init__") (λxs H Q=>∃a C C0 f d v v2,xs=[.ref a,v,v2]/\H a=some (gK a (.ref C) d)/\jD X.K C C0 f/\Q .non H):=by
 intro pins s σ H xs us Q I r h;obtain⟨a,C,C0,f,d,v,v2,rfl,ea,q,hq⟩:=h;obtain⟨u1,us',rfl,r1,r2⟩:∃u1 us',us=u1 :: us'/\cB (.ref a) u1/\cA [v,v2] us':=by cases r with | cons p q=>exact⟨_,_,rfl,p,q⟩
 obtain rfl:u1=Value.ref a:=r1;obtain⟨⟨t,he⟩,_⟩:=(show cL X.prog X.w H s.heap a (gK a (.ref C) d) from I.hok a _ ea)
 obtain⟨nm,qn,N,bs,sn,sub,ab,col,dd,k0,k1,k2,k3,k5,lC⟩:=q.cls;have FB:=PySem.F.excBase_ValueError;have T:=q.tail I.kIn;have hl:us'.length=2:=r2.length.symm;have hC:=I.kIn _ _ lC;have fin:∀s',s'={ s with heap:=(s.heap.push { cls:=.type "tuple",data:=.seq us'.toArray }).update a (Obj.mapFields (·.setIfInBounds 0 (.ref s.heap.objs.size))) }->EP X pins σ Q .none s':=by
  rintro s' rfl;have I1:Inv X pins σ H { s with heap:=s.heap.push { cls:=.type "tuple",data:=.seq us'.toArray } }:=I.kept (t':=s.toks) λb o e=>Heap.get?_push_of_some _ e;have he1:=Heap.get?_push_of_some (h:=s.heap) { cls:=.type "tuple",data:=.seq us'.toArray } he;have e2:=Heap.get?_update_self (Obj.mapFields (·.setIfInBounds 0 (.ref s.heap.objs.size))) he1 rfl;have I2:=I1.write (x:=a) (e:=a) (t':=s.toks) (o:=gK a (.ref C) d) (by rw[ea];exact True.intro) (.inl rfl) (λb u nb e=>(Heap.get?_update_other _ _ (Ne.symm nb)).trans e) ⟨_,e2⟩ (pZ (t:=s.heap.objs.size) e2);rw[Sd ea] at I2;exact⟨.non,H,I2,rfl,hq⟩
 obtain⟨hp,g,dr,tk,os⟩:=s;refine wpAny_call (codeAny_call_builtin FB.init.plain FB.initEntry (wpAny_check_init_subU FB T hC he rfl ?_));unfold Builtin.«BaseException.__init__»;dsimp only;rw[if_neg ⋯];unfold newTuple Builtin.BaseException.bexcPut;have he₁:=Heap.get?_push_of_some (h:=hp) { cls:=.type "tuple",data:=.seq us'.toArray } he;refine wpAny_bind (wpAny_newObj_type (wpAny_bind (wpAny_bind (wpAny_field he₁ rfl rfl (wpAny_bind (wpAny_setField he₁ rfl (show 0 < 6 by decide) ?_))))) (by show us'.toArray.size<=sizeLine;rw[size_toArray,hl];decide));exact wpAny_letGo (wpAny_pure (fin _ rfl))
def Mu (K:Frag)(ta:TA):TE:=λσ H Q=>ta σ H λvs H1=>∃a C C0 f d v v2,vs=[.ref a,v,v2]/\H1 a=some (gK a (.ref C) d)/\jD K C C0 f/\Q .non H1
theorem Dy (hg:Gl X x)(hm:X.mg x=some (.ref C0))(c:Ld X.K C0)(ha:PA X (e :: es) t)(hdb:(x == ("__debug__":Str))=false:=by decide)(hst:starEach (e :: es) X.env=(false,eval e X.env) :: starEach es X.env:=by rfl)(hpl:(backTo pos (starEach es X.env)).any (·.1)=false:=by rfl)(ht:eval (.Call (.Attribute (.Name x np) "__init__" apos) (e :: es) [] pos) X.env=(do
   let ov <- eval (.Name x np) X.env
   standAt apos.atName
   let (f,first) <- holding [ov] (getMethod ov "__init__" pl)
   callWith pos f first (backTo pos (starEach (e :: es) X.env)) (backToKw pos (keywordEach [] X.env))):=by rfl):
  PE X (.Call (.Attribute (.Name x np) "__init__" apos) (e :: es) [] pos) (Mu X.K t):=by
 intro pins s σ H Q I h;refine W.methodCall_KW (pl:=pl) (iO I hg hm ?_ hdb) ht;refine W.method_cls I.kIn c.sp (W.cls_value I.kIn c.rd c.fi rfl ?_);have I':Inv X pins σ H { s with toks:=s.toks+1 }:=I.tok _;exact PyProof.Rows.callWith_builtin1 (thn (ha pos pins _ σ H _ I' h) λus s1 ⟨vs,H1,I1,r1,q1⟩=>yS pins s1 σ H1 vs us Q I1 r1 q1) hst hpl
end
section
variable {prog:Program} {w:World} {A:Around} {E:Value->Shared->Prop} {s:Shared} {K:Frag} {x C C0 f:Addr} {name:Str} {v:Value} {vs:Array Value}
theorem Os (X:K.In s.heap)(q:jD K C C0 f)(hx:s.heap.get? x=some { cls:=.ref C,dict:=some d,data:=.fields vs })(hnd:s.heap.Ns1 d m)(hw:Within m ns)(hl:ns.length<=20)(hs:W.findIn K (.ref C) "__setattr__"=some (some (.builtin "object.__setattr__")))(hn:W.findIn K (.ref C) name=some none)(h:∀h',(h'.Ns1 d λy=>if y=name then some v else m y)->Heap.SameBut d s.heap h'->∀tk,Q .unit { s with heap:=h',toks:=tk }):
  wpAny (model prog w) A (setAttr (.ref x) name v) Q E s:=by
 obtain⟨oD0,esD0,epD0,hoD0,hdD0,hsk⟩:=id hnd;have J:W.InstAt s.heap x { cls:=.ref C,dict:=some d,data:=.fields vs } C (some oD0):=⟨hx,rfl,rfl,hoD0⟩
 have SF:=PySem.F.store_object;have SV:=PySem.F.store_ValueError;obtain⟨cd,hc,hm,hd⟩:=q.cin;refine W.set_plain X J hs ?_;have sub:W.Looks (model prog w) s.heap (isInstance (.ref x) (.type "object")) true:=J.type.andThen (W.looks_mroIn X (by unfold W.mroIn;rw[hc,Option.bind_some,hm];rfl));refine codeAny_call_builtin SF.slot.plain SF.entry (@W.check_slot (model prog w) _ _ { s with toks:=s.toks+1 } "object.__setattr__" "object" "__setattr__" (.ref x) [.str name s.toks,v] [] _ SF.kind SF.split sub (SF.args (.ref x) (.str name s.toks) v) ?_);have hmro:W.Looks (model prog w) s.heap (mroOf (.ref C)) cd.mro:=(W.looks_clsIn X hc).andThen .now;rw[W.osa_eq,refuse_eq];refine wpAny_bind (wpAny_bind (W.Looks.here (s:={ s with toks:=s.toks+1 }) J.type (wpAny_bind (W.Looks.here (s:={ s with toks:=s.toks+1 }) hmro ?_))));rw[hm,refuseLoop_ref,refuseLoop_ref,SV.passes];refine wpAny_pure (wpAny_bind (W.Looks.here (s:={ s with toks:=s.toks+1 }) J.type (wpAny_bind (W.Looks.here (s:={ s with toks:=s.toks+1 }) (W.looks_findIn X hn) (wpAny_bind (wpAny_pure ?_))))));dsimp only;refine wpAny_bind (wpAny_pure (wpAny_bind (wpAny_bind (wpAny_loadPart hx (wpAny_bind (W.Looks.here (s:={ s with toks:=s.toks+1 }) (W.looks_clsIn X hc) ?_))))));rw[hd,if_neg ∅];dsimp only;refine wpAny_pure ?_;show wpAny _ _ (Builtin.ObjectAttr.storeInDict d (.str name s.toks) name v) _ _ _;unfold Builtin.ObjectAttr.storeInDict Builtin.ObjectAttr.newKeyGuard;refine wpAny_bind (wpAny_pure (wpAny_bind (wpAny_nsSet1 (s:={ s with toks:=s.toks+1 }) hnd λh' hn' hs'=>?_)));obtain⟨oD,esD,epD,hoD,hdD,hcD⟩:=hn'.count (ns:=name :: ns) (λy hy=>by
  by_cases c:y=name
  ·rw[c];exact mem_cons_self ..
  ·rw[if_neg c] at hy;exact mem_cons_of_mem _ (hw y hy))
 refine wpAny_bind (wpAny_lookBehind hoD (by rw[hdD];exact pastItsLine_dict (Nat.le_trans hcD (by rw[length_cons,sizeLine_eq];lia))) ?_);refine wpAny_pure ?_;exact h h' hn' hs' _
end
section
variable {X:Cx} {o value:Expr} {nm:Str} {pos pos':Pos} {ta tv:TE}
def xdE (a:Addr)(fs:List (Str × V)):HO:=.ext λh=>∃mA,h.Ns1 a mA/\∀f,jT (fs.lookup f) (mA f)
theorem Yq (e:h.Ns1 a mA)(r:∀f,jT (fs.lookup f) (mA f)):cL P w H h a (xdE a fs):=by
 obtain⟨o,es,ep,z1,z2⟩:=id e;exact⟨⟨mA,e,r⟩,⟨_,z1⟩,λh1 h2 ⟨m',⟨o',es',ep',y1,y2⟩,r'⟩ k=>⟨m',⟨o',es',ep',k _ y1,y2⟩,r'⟩⟩
def qf3 (K:Frag)(ta tv:TE)(nm:Str):TS:=λD σ H=>tv σ H λy H1=>ta σ H1 λx H2=>∃a C C0 f,x=.ref a/\H2 a=some (gK a (.ref C) none)/\jD K C C0 f/\wZ K C nm/\
 ∀dx,H2 dx=none->D.nx σ (upd (upd H2 dx (xdE dx [(nm,y)])) a (gK a (.ref C) (some dx)))
theorem Ra (ha:PE X o ta)(hv:PE X value tv)(hs:swapsWith value (some (.Attribute o nm pos')) pos.line X.env=pure false):PS X (.Assign [.Attribute o nm pos'] value pos) (qf3 X.K ta tv nm):=by
 intro pins s σ H D I h;refine plainObj_wpAny_Assign_Attribute (thn (hv pins s σ H _ I h) λu s1 ⟨y,H1,I1,ry,q⟩=>thn (ha pins s1 σ H1 _ I1 q) λov s2 ⟨x,H2,I2,rx,a,C,C0,f,ex,ea,qi,qf,q2⟩=>?_) hs;subst ex;obtain rfl:ov=Value.ref a:=rx;obtain⟨⟨t,he⟩,_⟩:=(show cL X.prog X.w H2 s2.heap a (gK a (.ref C) none) from I2.hok a _ ea)
 refine Ji I2.kIn qi he qf.sa qf.no λh' e1 e2 e3 tk=>?_;have fr:H2 s2.heap.objs.size=none:=I2.hok.fresh (Nat.le_refl _);refine⟨σ,_,?_,q2 _ fr⟩;have na:a≠s2.heap.objs.size:=Nat.ne_of_lt (Heap.lt_size he);have u1:=Heap.get?_update_self (λ_:Obj=>({ cls:=.ref C,data:=.fields #[.ref t,.none,.none,.none,.bool false,.none] }:Obj)) e1 rfl;have u2:∀b,b≠a->(h'.update a λ_:Obj=>({ cls:=.ref C,data:=.fields #[.ref t,.none,.none,.none,.bool false,.none] }:Obj)).get? b=h'.get? b:=λb nb=>Heap.get?_update_other _ _ (Ne.symm nb);generalize h'.update a (λ_:Obj=>({ cls:=.ref C,data:=.fields #[.ref t,.none,.none,.none,.bool false,.none] }:Obj))=h1 at u1 u2;have I3:Inv X pins σ (upd H2 s2.heap.objs.size (xdE s2.heap.objs.size [(nm,y)])) { s2 with heap:=h1,toks:=s2.toks }:=by
  refine I2.laid (a:=s2.heap.objs.size) (o:=xdE s2.heap.objs.size [(nm,y)]) (h':=h1) (t':=s2.toks) (λb u e=>?_) (Nat.le_refl _) ?_
  ·by_cases nb:b=a
   ·subst nb;rw[he] at e;cases e;exact u1
   ·rw[u2 b nb];exact e3 b u nb e
  ·obtain⟨od,es,ep,z1,z2⟩:=e2;refine Yq ⟨od,es,ep,(u2 _ (Ne.symm na)).trans z1,z2⟩ λg=>?_
   by_cases gg:g=nm
   ·subst gg;rw[if_pos rfl,lookup_cons,beq_self_eq_true];exact ry
   ·have:(g == nm)=false:=beq_eq_false_iff_ne.mpr gg;rw[if_neg gg,lookup_cons,this];exact True.intro
 have ea3:upd H2 s2.heap.objs.size (xdE s2.heap.objs.size [(nm,y)]) a=some (gK a (.ref C) none):=by rw[aR na];exact ea
 exact I3.write (x:=a) (e:=a) (h':=h') (t':=tk) (by rw[ea3];exact True.intro) (.inl rfl) (λb u nb z=>by rw[<- u2 b nb];exact z) ⟨_,e1⟩ (pZ e1)
def qb7 (K:Frag)(ta tv:TE)(nm:Str):TS:=λD σ H=>tv σ H λy H1=>ta σ H1 λx H2=>∃a C C0 f dx n1 y1,x=.ref a/\H2 a=some (gK a (.ref C) (some dx))/\H2 dx=some (xdE dx [(n1,y1)])/\n1≠nm/\jD K C C0 f/\wZ K C nm/\
 D.nx σ (upd H2 dx (.xd [(n1,y1),(nm,y)]))
theorem Tv (ha:PE X o ta)(hv:PE X value tv)(hs:swapsWith value (some (.Attribute o nm pos')) pos.line X.env=pure false):PS X (.Assign [.Attribute o nm pos'] value pos) (qb7 X.K ta tv nm):=by
 intro pins s σ H D I h;refine plainObj_wpAny_Assign_Attribute (thn (hv pins s σ H _ I h) λu s1 ⟨y,H1,I1,ry,q⟩=>thn (ha pins s1 σ H1 _ I1 q) λov s2 ⟨x,H2,I2,rx,a,C,C0,f,dx,n1,y1,ex,ea,ed,ne,qi,qf,q2⟩=>?_) hs;subst ex;obtain rfl:ov=Value.ref a:=rx;obtain⟨⟨t,he⟩,_⟩:=(show cL X.prog X.w H2 s2.heap a (gK a (.ref C) (some dx)) from I2.hok a _ ea)
 obtain⟨⟨mA,hm,hr⟩,_⟩:=(show cL X.prog X.w H2 s2.heap dx (xdE dx [(n1,y1)]) from I2.hok dx _ ed)
 refine Os (ns:=[n1]) I2.kIn qi he hm (λg hg=>?_) (by show 1<=20;decide) qf.sa qf.no λh' e2 e3 tk=>?_
 ·by_cases c:g=n1
  ·rw[c];exact mem_cons_self ..
  ·exfalso
   have:=hr g;rw[lookup_cons,beq_eq_false_iff_ne.mpr c] at this;apply hg
   cases e:mA g with
   |none=>rfl
   |some v=>rw[e] at this;exact absurd this (by intro z;exact z)
 ·refine⟨σ,_,?_,q2⟩;obtain⟨od,es,ep,z1,z2⟩:=id e2;refine I2.write (x:=dx) (e:=dx) (h':=h') (t':=tk) (by rw[ed];exact True.intro) (.inl rfl) (λb u nb z=>(e3.2 b nb).trans z) ⟨_,z1⟩ ⟨_,e2,λg=>?_⟩
  by_cases c:g=nm
  ·subst c;rw[if_pos rfl,lookup_cons,beq_eq_false_iff_ne.mpr (Ne.symm ne),lookup_cons,beq_self_eq_true];exact ry
  ·rw[if_neg c];have:=hr g
   by_cases c1:g=n1
   ·subst c1;rw[lookup_cons,beq_self_eq_true] at this ⊢;exact this
   ·rw[lookup_cons,beq_eq_false_iff_ne.mpr c1] at this ⊢;rw[lookup_cons,beq_eq_false_iff_ne.mpr c];exact this
end
open Shp
abbrev wd (m:Nat)(ds:List RD):Nat:=m - 1+cX ds
structure Sv (m:Nat) (ds:List RD) (r:Nat->Rat) (v:Nat->Rat):Prop where
 z:v 0=0
 e:∀i,i < wd m ds->(Mq.rs (wd m ds) λj=>eqM m ds (i+1) (j+1)*v (j+1))=r (i+1)
def un (k x:Nat):Rat:=if x=k then 1 else 0
abbrev qr0 (m:Nat)(ds:List RD)(a b:Nat)(v:Nat->Rat):Prop:=Sv m ds (λx=>un a x - un b x) v
def lvS (m:Nat)(sol:List Mq.Q2):List Mq.Q2:=(0,1) :: sol.take (m - 1)
theorem vV (l:Mq.Low p)(hL:1<=L)(LB:Mq.B b L)(ab:Mq.B b a)(h:Mq.val p=(a:Rat) / (L:Rat)):Mq.Bd b p/\p.2 ∣ L:=by
 obtain⟨d,t⟩:=Mq.Du l hL h;refine⟨⟨ab.le t,LB.le ?_⟩,d⟩;have:=Int.le_of_dvd () d;have:=l.pos;lia
structure EqB (m b:Nat) (L:Int) (ds:List RD):Prop where
 o:Nof m ds
 w26:wd m ds<=26
 b1:1<=b
 hb:10+b+b*(wd m ds+1)<=8000
 hbw:bw b (wd m ds)<=4000
 L1:1<=L
 LB:Mq.B b L
 eM:∀i j,∃a:Int,Mq.B b a/\eqM m ds (i+1) (j+1)=(a:Rat) / (L:Rat)
def Q01 (p:Mq.Q2):Prop:=Mq.Low p/\p.2=1/\p.1.natAbs<=1
theorem Q01.bd (h:Q01 p)(b1:1<=b):Mq.Bd b p:=by
 obtain⟨_,e,l⟩:=h;have:(2:Nat) ^ 1<=2 ^ b:=Nat.pow_le_pow_right ∅ b1;exact⟨by show p.1.natAbs < 2 ^ b;lia,by show p.2.natAbs < 2 ^ b;rw[e];show 1 < 2 ^ b;lia⟩
theorem Q01.ov (h:Q01 p)(L1:1<=L)(LB:Mq.B b L):p.2 ∣ L/\∃a:Int,Mq.B b a/\Mq.val p=(a:Rat) / (L:Rat):=by
 obtain⟨_,e,l⟩:=h;refine⟨by rw[e];exact Int.one_dvd _,p.1*L,LB.le ?_,?_⟩
 ·rw[Int.natAbs_mul]
  calc p.1.natAbs*L.natAbs<=1*L.natAbs:=Nat.mul_le_mul_right _ l
   _=L.natAbs:=Nat.one_mul _
 ·have:=Mq.yH L1;unfold Mq.val;rw[e,Rat.intCast_mul,show ((1:Int):Rat)=1 by rfl];grind
def uP (sol:List Mq.Q2)(x:Nat):Rat:=if x=0 then 0 else Mq.val (sol.getD (x - 1) Mq.z0)
section
variable {m b N:Nat} {L:Int} {ds:List RD} {X:List (List Mq.Q2)} {Y qs ps:List Mq.Q2}
theorem EqB.cell (h:EqB m b L ds)(e:Ct m ds N X Y):∀row∈X,(∀p∈row,Mq.Bd b p/\p.2 ∣ L/\∃a:Int,Mq.B b a/\Mq.val p=(a:Rat) / (L:Rat))/\row.length=X.length:=λrow hr=>by
 refine⟨λp hp=>?_,by rw[e.x.w row hr,e.x.h]⟩;obtain⟨i,hi⟩:=getElem?_of_mem hr;obtain⟨j,hj⟩:=getElem?_of_mem hp;have ep:p=iU X i j:=by
  unfold iU;rw[getD_eq_getElem?_getD (l:=X),hi];show p=row.getD j (0,1);rw[getD_eq_getElem?_getD,hj];rfl
 obtain⟨a,ab,ea⟩:=h.eM i j;have ev:Mq.val p=(a:Rat) / (L:Rat):=by rw[ep,e.vx,ea]
 obtain⟨x,y⟩:=vV (e.x.l row hr p hp).1 h.L1 h.LB ab ev;exact⟨x,y,a,ab,ev⟩
theorem EqB.pos (e:Ct m ds N X Y):eE X:=λrow hr p hp=>(e.x.l row hr p hp).1.pos
theorem EqB.wgt (h:EqB m b L ds)(e:Ct m ds N X Y):wgt X≠0:=by
 by_cases c:1<=X.length
 ·exact h.o.wgt_ne e (EqB.pos e) (λrow hr=>(h.cell e row hr).2) c
 ·have:X=[]:=eq_nil_of_length_eq_zero ();subst this;show (1:Rat)≠0;decide
theorem EqB.sol (e:Ct m ds N X Y)(s:Zn X qs ps)(vq:∀i,i < wd m ds->Mq.val (qs.getD i Mq.z0)=r (i+1)):Sv m ds r (uP ps):=by
 have lX:X.length=wd m ds:=e.x.h;refine⟨if_pos rfl,λi hi=>?_⟩;rw[<- vq i hi,<- s.sum i (),lX];refine aU λj _=>?_;unfold uP;rw[if_neg (),Nat.add_sub_cancel,Oo e]
end
theorem Xa (hl:m - 1<=ps.length)(hp:p < m):Mq.val ((lvS m ps).getD p (0,1))=uP ps p:=by
 unfold lvS uP
 by_cases c:p=0
 ·subst c;rw[if_pos rfl];exact Mq.tS
 ·rw[if_neg c];obtain⟨q,rfl⟩:∃q,p=q+1:=⟨p - 1,()⟩
  rw[Nat.add_sub_cancel,getD_eq_getElem?_getD,getElem?_cons_succ,getElem?_take_of_lt (),<- getD_eq_getElem?_getD]
theorem Wc (m1:1<=m)(hl:m - 1<=ps.length):(lvS m ps).length=m:=by
 unfold lvS;rw[length_cons,length_take];lia
theorem Vv (h:mL ps):mL (lvS m ps):=λp hp=>by
 rcases mem_cons.mp hp with z | z
 ·rw[z];exact⟨∅,∅⟩
 ·exact h p (mem_of_mem_take z)
theorem qh5 (h:Ovr n ps):Ovr n (lvS m ps):=by
 obtain⟨D,D1,bD,al⟩:=h.e;refine⟨D,D1,bD,λp hp=>?_⟩;rcases mem_cons.mp hp with z | z
 ·refine⟨0,Nat.two_pow_pos _,?_⟩;rw[z,Mq.tS,Rat.div_def];show (0:Rat)=((0:Int):Rat)*_;rw[show ((0:Int):Rat)=0 by rfl];grind
 ·exact al p (mem_of_mem_take z)
theorem Ovr.minus (h:Ovr n ps)(low:mL ps)(hp:p∈ps)(hq:q∈ps):Mq.Bd (n+1) (Mq.minus p q)/\Mq.Bd n p/\Mq.Bd n q:=by
 obtain⟨D,D1,bD,al⟩:=h.e;obtain⟨t,bt,et⟩:=al p hp;obtain⟨s,bs,es⟩:=al q hq;have lp:=low p hp;have lq:=low q hq;refine⟨?_,(vV lp D1 bD bt et).1,(vV lq D1 bD bs es).1⟩;refine(vV (Mq.fP lp.pos lq.pos) D1 (bD.mono ()) (bt.sub bs) ?_).1;rw[Mq.fB lp.pos lq.pos,et,es,Rat.intCast_sub,Rat.div_def,Rat.div_def,Rat.div_def];grind
structure Fp (CN:Addr) (K:Frag) (H:Hp) (n l:Addr) (m b:Nat) (kb:Nat->Nat) (L:Int) (ds:List RD):Prop where
 nt:dW CN K H n l (m:Int) ds
 ok:∀i d,ds[i]?=some d->Mf (m:Int) d/\Mq.Bd (kb i) d.2.2.2
 m20:m<=20
 h40:ds.length<=40
 cu:jR kb ds.length+30<=8900
 eb:EqB m b L ds
theorem Fp.same {K:Frag}(s:aS H H')(h:Fp CN K H n l m b kb L ds):Fp CN K H' n l m b kb L ds:=⟨h.nt.same s,h.ok,h.m20,h.h40,h.cu,h.eb⟩
section
variable (sg:Nat->Nat × Nat)
def okJ (M:List Int)(n:Nat):Bool:=decide (M.getD (sg n).1 0≠M.getD (sg n).2 0)
def jnN (M:List Int)(n:Nat):List Int:=jn M (sg n).1 (sg n).2
def iM (n:Nat)(ns:List Nat):Bool:=match ns.getLast? with
 |none=>true
 |some b=>decide (b < n)
def nV (ps:List Nat)(x:List Nat × List Int):List (List Nat × List Int):=(ps.filter λn=>iM n x.1 && okJ sg x.2 n).map λn=>(x.1++[n],jnN sg x.2 n)
def pH (ps:List Nat)(m:Nat):Nat->List (List Nat × List Int)
 |0=>[([],pK m)]
 |t+1=>(pH ps m t).flatMap (nV sg ps)
def jf (m:Nat)(ns:List Nat):List Int:=ns.foldl (jnN sg) (pK m)
end
variable {sg:Nat->Nat × Nat} {c:Nat} {P:List Int->Bool}
theorem Zc (M:List Int)(a b:Nat):(jn M a b).length=M.length:=by unfold jn;rw[length_map]
def qq9 (sg:Nat->Nat × Nat)(m:Nat)(q:List Nat):Prop:=∀n∈q,(sg n).1 < m/\(sg n).2 < m
theorem Et (n b:Nat)(ns:List Nat):iM n (ns++[b])=decide (b < n):=by unfold iM;rw[getLast?_concat]
theorem Rx (m:Nat):(pK m).length=m:=by unfold pK;simp
structure Fr (sg:Nat->Nat × Nat) (ps:List Nat) (m t:Nat) (x:List Nat × List Int):Prop where
 l:x.1.length=t
 r:x.1.Pairwise (· < ·)
 i:∀n∈x.1,n∈ps
 e:x.2=jf sg m x.1
 o:∀i n,x.1[i]?=some n->okJ sg (jf sg m (x.1.take i)) n=true
theorem Xe (m:Nat)(ns:List Nat)(n:Nat):jf sg m (ns++[n])=jnN sg (jf sg m ns) n:=by unfold jf;rw[foldl_append];rfl
theorem Rp (m:Nat)(ns:List Nat):(jf sg m ns).length=m:=by
 have:∀(ns:List Nat) (M:List Int),(ns.foldl (jnN sg) M).length=M.length:=by
  intro ns
  induction ns with
  |nil=>intro M;rfl
  |cons n ns ih=>intro M;rw[foldl_cons,ih];unfold jnN;rw[Zc]
 unfold jf;rw[this,Rx]
theorem Np (h:ns.Pairwise (· < ·))(b:iM n ns=true):(ns++[n]).Pairwise (· < ·):=by
 refine pairwise_append.mpr ⟨h,pairwise_singleton _ _,λa ha y hy=>?_⟩;have ey:y=n:=by simpa using hy
 subst ey;unfold iM at b
 cases e:ns.getLast? with
 |none=>rw[getLast?_eq_none_iff.mp e] at ha;cases ha
 |some z=>
  rw[e] at b;have b:z < y:=by simpa using b
  obtain⟨pre,rfl⟩:∃pre,ns=pre++[z]:=by
   have:=getLast?_eq_some_iff.mp e;exact this
  rcases mem_append.mp ha with q | q
  ·have:=(pairwise_append.mp h).2.2 a q z ⋯;lia
  ·have:a=z:=by simpa using q
   lia
theorem Ic:∀{t:Nat} {x:List Nat × List Int},x∈pH sg ps m t->Fr sg ps m t x
 |0,x,h=>by
  have:x=([],pK m):=by simpa[pH] using h
  subst this;exact⟨rfl,Pairwise.nil,(λn hn=>by cases hn),rfl,(λi n h=>by simp at h)⟩
 |t+1,x,h=>by
  obtain⟨y,hy,hx⟩:=mem_flatMap.mp (show x∈(pH sg ps m t).flatMap (nV sg ps) from h);obtain⟨n,hn,rfl⟩:=mem_map.mp hx;have F:=Ic hy;obtain⟨h1,h2⟩:=mem_filter.mp hn;rw[Bool.and_eq_true] at h2;refine⟨by rw[List.length_append,F.l];rfl,Np F.r h2.1,λz hz=>?_,?_,λi z hz=>?_⟩
  ·rcases mem_append.mp hz with q | q
   ·exact F.i z q
   ·have:z=n:=by simpa using q
    rw[this];exact h1
  ·rw[Xe,<- F.e]
  ·have hz:(y.1++[n])[i]?=some z:=hz;show okJ sg (jf sg m ((y.1++[n]).take i)) z=true
   by_cases c:i < y.1.length
   ·rw[getElem?_append_left c] at hz;rw[take_append_of_le_length ()];exact F.o i z hz
   ·have hi:i=y.1.length:=by
     have:=(List.getElem?_eq_some_iff.mp hz).1;rw[List.length_append] at this;simp only[length_cons,length_nil] at this;lia
    subst hi;rw[getElem?_append_right (Nat.le_refl _),Nat.sub_self] at hz
    cases hz
    rw[take_left,<- F.e];exact h2.2
def zi (ns:List Nat):List Int:=ns.map λ(n:Nat)=>(n:Int)
theorem pI (ns:List Nat):(zi ns).length=ns.length:=by unfold zi;simp
theorem qb8 {i n:Nat}(h:ns[i]?=some n):(zi ns)[i]?=some (n:Int):=by unfold zi;rw[getElem?_map,h];rfl
theorem uJ (ns:List Nat)(n:Nat):zi (ns++[n])=zi ns++[(n:Int)]:=by unfold zi;simp
def isP (ds:List RD)(i:Nat):Bool:=match ds[i]? with
 |some d=>decide (d.1=.pc)
 |none=>false
def pcs (ds:List RD):List Nat:=(List.range ds.length).filter (isP ds)
def sgF (ds:List RD)(n:Nat):Nat × Nat:=match ds[n]? with
 |some d=>(d.2.1.toNat,d.2.2.1.toNat)
 |none=>(0,0)
theorem wQ (h:ds[i]?=some d):isP ds i=decide (d.1=.pc):=by unfold isP;rw[h]
theorem Dz (h:ds[i]?=some d):sgF ds i=(d.2.1.toNat,d.2.2.1.toNat):=by unfold sgF;rw[h]
theorem Jh (h:n∈pcs ds):∃d,ds[n]?=some d/\d.1=.pc:=by
 obtain⟨h1,h2⟩:=mem_filter.mp h;have hn:=mem_range.mp h1;have e:=getElem?_eq_getElem hn;rw[wQ e] at h2;exact⟨_,e,by simpa using h2⟩
theorem qa8 {m:Nat}(pt:∀d∈ds,dF (m:Int) d.2.1 d.2.2.1):qq9 (sgF ds) m (pcs ds):=λn hn=>by
 obtain⟨d,e,_⟩:=Jh hn;obtain⟨a,b,c,d'⟩:=pt d (mem_of_getElem? e);rw[Dz e];exact⟨show d.2.1.toNat < m by lia,show d.2.2.1.toNat < m by lia⟩
theorem Xq (ds:List RD):(pcs ds).length<=ds.length:=by
 unfold pcs;refine Nat.le_trans (length_filter_le _ _) ?_;simp
structure FsH (K:Frag) (H0:Hp) (D:Addr) (H:Hp) (zs:List V) (F:List (List Nat × List Int)):Prop where
 l:zs.length=F.length
 r:∀(i:Nat) (x:V) (f:List Nat × List Int),zs[i]?=some x->F[i]?=some f->∃(t a b:Addr),x=.ref t/\SqT K H t [.ref a,.ref b]/\H a=some (.lst ((zi f.1).map V.int))/\H b=some (.lst (f.2.map V.int))/\H0 a=none/\a≠D/\b≠D
theorem FsH.nil {K:Frag}:FsH K H0 D H [] []:=⟨rfl,λi x f h=>by simp at h⟩
theorem FsH.same {K:Frag}(s:aS H H')(h:FsH K H0 D H zs F):FsH K H0 D H' zs F:=⟨h.l,λi x f h1 h2=>let ⟨t,a,b,e,e1,e2,e3,n⟩:=h.r i x f h1 h2;⟨t,a,b,e,s.seqT e1,s _ _ e2,s _ _ e3,n⟩⟩
theorem FsH.from0 {K:Frag}(f:FsH K H0 D H zs F)(h:∀a,H0 a=none->H0' a=none):FsH K H0' D H zs F:=⟨f.l,λi x f' h1 h2=>let ⟨t,a,b,e,e1,e2,e3,n,m⟩:=f.r i x f' h1 h2;⟨t,a,b,e,e1,e2,e3,h a n,m⟩⟩
theorem FsH.upd {K:Frag}(f:FsH K H0 D H zs F)(hD:H D=some (.lst ys)):FsH K H0 D (upd H D o) zs F:=⟨f.l,λi x f' h1 h2=>by
 obtain⟨t,a,b,e,e1,e2,e3,n,na,nb⟩:=f.r i x f' h1 h2;exact⟨t,a,b,e,SqT.upd e1 hD,by rw[aR na];exact e2,by rw[aR nb];exact e3,n,na,nb⟩⟩
theorem FsH.snoc {K:Frag}(f:FsH K H0 D H zs F)(ht:SqT K H t [.ref a,.ref b])(ha:H a=some (.lst ((zi f'.1).map V.int)))(hb:H b=some (.lst (f'.2.map V.int)))(n:H0 a=none)(na:a≠D)(nb:b≠D):FsH K H0 D H (zs++[.ref t]) (F++[f']):=by
 refine⟨by rw[List.length_append,List.length_append,f.l];rfl,λi x g h1 h2=>?_⟩;have l:=f.l
 by_cases c:i < zs.length
 ·rw[getElem?_append_left c] at h1;rw[getElem?_append_left ()] at h2;exact f.r i x g h1 h2
 ·have hi:i=zs.length:=by
   have:=(List.getElem?_eq_some_iff.mp h1).1;rw[List.length_append] at this;simp only[length_cons,length_nil] at this;lia
  subst hi;rw[getElem?_append_right (Nat.le_refl _),Nat.sub_self] at h1;rw[getElem?_append_right (),show zs.length - F.length=0 by lia] at h2
  cases h1
  cases h2
  exact⟨t,a,b,rfl,ht,ha,hb,n,na,nb⟩
theorem Ee (sg:Nat->Nat × Nat)(ps:List Nat)(m:Nat):∀t,(pH sg ps m t).length<=ps.length ^ t
 |0=>Nat.le_refl 1
 |t+1=>by
  show ((pH sg ps m t).flatMap (nV sg ps)).length<=_;have h:∀l:List (List Nat × List Int),(l.flatMap (nV sg ps)).length<=l.length*ps.length:=by
   intro l
   induction l with
   |nil=>simp
   |cons x l ih=>
    rw[flatMap_cons,List.length_append,length_cons,Nat.succ_mul];have:(nV sg ps x).length<=ps.length:=by unfold nV;rw[length_map];exact length_filter_le _ _
    lia
  refine Nat.le_trans (h _) ?_;rw[Nat.pow_succ];exact Nat.mul_le_mul_right _ (Ee sg ps m t)
end L2
set_option exponentiation.threshold 700
namespace Mq
theorem Lo:∀{ps:List Q2},Pos ps->(∀p∈ps,p.2 ∣ T)->dI ps ∣ T:=λ{ps} hp hd=>by
 have:∀(l:List Q2) (L:Int),1<=L->L ∣ T->Pos l->(∀p∈l,p.2 ∣ T)->l.foldl (λL p=>oP L p.2) L ∣ T:=λl=>by
  induction l with
  |nil=>intro L _ h _ _;exact h
  |cons p l ih=>intro L h h' q d;exact ih _ (lD h (q p ⋯)).1 (Eg h (q p ⋯) h' (d p ⋯)) (λx hx=>q x (mem_cons_of_mem _ hx)) λx hx=>d x (mem_cons_of_mem _ hx)
 exact this ps 1 () (Int.one_dvd _) hp hd
theorem Zi {T z:Int}(l:Low p)(hT:0 < T)(h:val p*(T:Rat)=(z:Rat)):p.2 ∣ T/\p.1*T=z*p.2:=by
 have n2:=cZ (show p.2≠0 by have:=l.pos;lia);have e:p.1*T=z*p.2:=by
  have h':(p.1:Rat)*(T:Rat)=(z:Rat)*(p.2:Rat):=by
   unfold val at h;rw[<- h];grind
  rw[<- Rat.intCast_mul,<- Rat.intCast_mul] at h';exact Rat.intCast_inj.mp h'
 refine⟨?_,e⟩;have c:Int.gcd p.2 p.1=1:=by
  have:=l.one;unfold gc at this;rw[Int.gcd_comm];lia
 have d:p.2 ∣ p.1*T:=⟨z,by rw[e,Int.mul_comm]⟩
 rw[<- Int.natAbs_dvd_natAbs] at d ⊢;rw[Int.natAbs_mul] at d;exact Nat.Coprime.dvd_of_dvd_mul_left (show Nat.Coprime p.2.natAbs p.1.natAbs from c) d
end Mq
namespace L2
open PySem PySem.Spec PyProof.Rows Shp
def cP (d:RD)(x y:Nat):Rat:=if d.1=.pc then dl d.2.1.toNat d.2.2.1.toNat x*dl d.2.1.toNat d.2.2.1.toNat y*(1 / Mq.val d.2.2.2) else 0
def lap:List RD->Nat->Nat->Rat
 | [],_,_=>0
 |d :: ds,x,y=>cP d x y+lap ds x y
theorem Jd (x y:Nat):∀{ds:List RD} (h:Nat),(∀d∈ds,d.1≠.ho)->eqM h ds x y=lap ds x y
 | [],_,_=>rfl
 |d :: ds,h,nh=>by
  show cM d h x y+eqM (h+dB d.1) ds x y=cP d x y+lap ds x y;rw[Jd x y _ λe he=>nh e (mem_cons_of_mem _ he)];have:=nh d ⋯;unfold cM cP
  cases hk:d.1 with
  |pc=>rw[if_pos rfl]
  |pu=>rw[if_neg (show ¬Kd.pu=Kd.pc by decide)]
  |ho=>exact absurd hk this
def qi6 (m:Nat)(ds:List RD):Rat:=Mq.det (m - 1) λi j=>lap ds (i+1) (j+1)
def PcB (d:RD):Prop:=Mq.Low d.2.2.2/\(d.1=.pc->0 < d.2.2.2.1/\d.2.2.2.1 < 2 ^ 31/\d.2.2.2.2<=15)
def iQ:List RD->Int
 | []=>1
 |d :: ds=>(if d.1=.pc then d.2.2.2.1 else 1)*iQ ds
theorem Qk (h:PcB d):0 < (if d.1=.pc then d.2.2.2.1 else 1)/\(if d.1=.pc then d.2.2.2.1 else 1) < 2 ^ 31:=by
 by_cases hk:d.1=.pc
 ·rw[if_pos hk];exact⟨(h.2 hk).1,(h.2 hk).2.1⟩
 ·rw[if_neg hk];exact⟨∅,∅⟩
theorem uR:∀{ds:List RD},(∀d∈ds,PcB d)->0 < iQ ds/\Mq.B (1+31*ds.length) (iQ ds)
 | [],_=>⟨∅,show (1:Nat) < 2 ^ (1+31*0) by decide⟩
 |d :: ds,h=>by
  obtain⟨a,b⟩:=uR λe he=>h e (mem_cons_of_mem _ he);obtain⟨c,e⟩:=Qk (h d ⋯);refine⟨Int.mul_pos c a,?_⟩;have:Mq.B 31 (if d.1=.pc then d.2.2.2.1 else 1):=by unfold Mq.B;lia
  exact(this.mul b).mono (by rw[length_cons];lia)
theorem Jn (s g x:Nat):dl s g x=0\/dl s g x=1\/dl s g x=-1:=by
 unfold dl
 by_cases h:s=x<;>by_cases k:g=x<;>simp only[h,k,if_true,if_false]<;>grind
theorem dl2 (s g x y:Nat):∃c:Int,dl s g x*dl s g y=(c:Rat)/\c.natAbs<=1:=by
 rcases Jn s g x with h | h | h<;>rcases Jn s g y with k | k | k<;>rw[h,k]
 ·exact⟨0,by grind,∅⟩
 ·exact⟨0,by grind,∅⟩
 ·exact⟨0,by grind,∅⟩
 ·exact⟨0,by grind,∅⟩
 ·exact⟨1,by grind,∅⟩
 ·exact⟨-1,by grind,∅⟩
 ·exact⟨0,by grind,∅⟩
 ·exact⟨-1,by grind,∅⟩
 ·exact⟨1,by grind,∅⟩
theorem Zt (h:PcB d)(x y:Nat):∃z:Int,cP d x y*(((if d.1=.pc then d.2.2.2.1 else 1:Int)):Rat)=(z:Rat)/\z.natAbs<=15:=by
 unfold cP
 by_cases hk:d.1=.pc
 ·rw[if_pos hk,if_pos hk];obtain⟨c,e,hc⟩:=dl2 d.2.1.toNat d.2.2.1.toNat x y;obtain⟨l,h2⟩:=h;obtain⟨p0,_,p6⟩:=h2 hk;refine⟨c*d.2.2.2.2,?_,?_⟩
  ·rw[e,Rat.intCast_mul];have n1:=cZ (show d.2.2.2.1≠0 by lia);have n2:=cZ (show d.2.2.2.2≠0 by have:=l.pos;lia);unfold Mq.val;grind
  ·rw[Int.natAbs_mul];have:=l.pos
   calc c.natAbs*d.2.2.2.2.natAbs<=1*d.2.2.2.2.natAbs:=Nat.mul_le_mul_right _ hc
    _<=15:=by lia
 ·rw[if_neg hk,if_neg hk];exact⟨0,by grind,∅⟩
theorem Jb (x y:Nat):∀{ds:List RD},(∀d∈ds,PcB d)->∃z:Int,lap ds x y*(iQ ds:Rat)=(z:Rat)/\z.natAbs<=15*ds.length*(iQ ds).natAbs
 | [],_=>⟨0,by show (0:Rat)*_=_;grind,⋯⟩
 |d :: ds,h=>by
  obtain⟨z,e,hz⟩:=Jb x y λe he=>h e (mem_cons_of_mem _ he);obtain⟨w,f,hw⟩:=Zt (h d ⋯) x y;obtain⟨t0,t1⟩:=Qk (h d ⋯);have T0:=(uR λe he=>h e (mem_cons_of_mem _ he)).1;show ∃z':Int,(cP d x y+lap ds x y)*(((if d.1=.pc then d.2.2.2.1 else 1)*iQ ds:Int):Rat)=(z':Rat)/\z'.natAbs<=15*(ds.length+1)*((if d.1=.pc then d.2.2.2.1 else 1)*iQ ds).natAbs;generalize (if d.1=.pc then d.2.2.2.1 else 1:Int)=t at *
  generalize iQ ds=T at *
  refine⟨w*T+t*z,?_,?_⟩
  ·rw[Rat.intCast_mul,Rat.intCast_add,Rat.intCast_mul,Rat.intCast_mul,<- e,<- f];grind
  ·rw[Int.natAbs_mul];have a1:(w*T+t*z).natAbs<=w.natAbs*T.natAbs+t.natAbs*z.natAbs:=by
    have:=Int.natAbs_add_le (w*T) (t*z)
    rwa [Int.natAbs_mul,Int.natAbs_mul] at this
   have a2:w.natAbs*T.natAbs<=15*T.natAbs:=Nat.mul_le_mul_right _ hw;have a3:t.natAbs*z.natAbs<=t.natAbs*(15*ds.length*T.natAbs):=Nat.mul_le_mul_left _ hz;have a4:T.natAbs<=t.natAbs*T.natAbs:=Nat.le_mul_of_pos_left _ ();have a5:15*(ds.length+1)*(t.natAbs*T.natAbs)=15*(t.natAbs*T.natAbs)+t.natAbs*(15*ds.length*T.natAbs):=by grind
   lia
theorem Zb (h:∀d∈ds,PcB d)(h20:ds.length<=20)(l:Mq.Low p)(e:Mq.val p=lap ds x y):p.2 ∣ iQ ds/\Mq.Bd 640 p/\p.1.natAbs<=300*p.2.natAbs:=by
 obtain⟨T0,TB⟩:=uR h;obtain⟨z,ez,hz⟩:=Jb x y h;rw[<- e] at ez;obtain⟨d,f⟩:=Mq.Zi l T0 ez;have le:p.2<=iQ ds:=Int.le_of_dvd T0 d;have p1:=l.pos;have TB':Mq.B 630 (iQ ds):=TB.mono ();have b2:Mq.B 630 p.2:=TB'.le ();have b1:p.1.natAbs<=300*p.2.natAbs:=by
  have hh:p.1.natAbs*(iQ ds).natAbs<=(300*p.2.natAbs)*(iQ ds).natAbs:=by
   have e1:p.1.natAbs*(iQ ds).natAbs=z.natAbs*p.2.natAbs:=by rw[<- Int.natAbs_mul,f,Int.natAbs_mul]
   have e2:z.natAbs*p.2.natAbs<=15*ds.length*(iQ ds).natAbs*p.2.natAbs:=Nat.mul_le_mul_right _ hz;have e3:15*ds.length*((iQ ds).natAbs*p.2.natAbs)<=300*((iQ ds).natAbs*p.2.natAbs):=Nat.mul_le_mul_right _ ();have e4:(300*p.2.natAbs)*(iQ ds).natAbs=300*((iQ ds).natAbs*p.2.natAbs):=by grind
   have e5:15*ds.length*(iQ ds).natAbs*p.2.natAbs=15*ds.length*((iQ ds).natAbs*p.2.natAbs):=by grind
   lia
  exact Nat.le_of_mul_le_mul_right hh ()
 refine⟨d,⟨?_,b2.mono ()⟩,b1⟩;unfold Mq.B at b2 ⊢;have:(2:Nat) ^ 640=1024*2 ^ 630:=by rw[show 640=10+630 by rfl,Nat.pow_add]
 lia
structure Wx (X:List (List Mq.Q2)):Prop where
 p:eE X
 b:∀row∈X,(∀p∈row,Mq.Bd 640 p)/\row.length=X.length
 n:X.length<=4
 l:∀row∈X,Mq.B 640 (dI row)
 w:BdR 640 (X.map iw)
inductive sV (K:Frag) (vs:List V) (H:Hp) (Q:VK) (E:XK):Prop where
 |mk (g D:Addr) (us:List V) (X:List (List Mq.Q2)):vs=[.ref g]->SqL K H g us->Fmx K D H us X->Wx X->(∀a p H',aS H H'->Fq K H' a p->Mq.Low p->Mq.Bd 3400 p->Mq.val p=wgt X->Q (.ref a) H')->sV K vs H Q E
theorem ql6 (h:∀d∈ds,PcB d)(h20:ds.length<=20)(hm:m<=5)(b:MxB X (m - 1) (m - 1) N)(v:∀i j,Mq.val (iU X i j)=lap ds (i+1) (j+1)):Wx X/\wgt X=qi6 m ds:=by
 have lX:=b.h;obtain⟨T0,TB⟩:=uR h;have TB':Mq.B 630 (iQ ds):=TB.mono ();have ent:∀row∈X,∀p∈row,p.2 ∣ iQ ds/\Mq.Bd 640 p/\p.1.natAbs<=300*p.2.natAbs:=λrow hr p hp=>by
  obtain⟨i,hi⟩:=getElem?_of_mem hr;obtain⟨j,hj⟩:=getElem?_of_mem hp;have e:iU X i j=p:=by
   unfold iU;rw[getD_eq_getElem?_getD,getD_eq_getElem?_getD,hi];show (row[j]?).getD (0,1)=p;rw[hj];rfl
  exact Zb h h20 (b.l row hr p hp).1 (by rw[<- e];exact v i j)
 have pos:eE X:=λrow hr p hp=>(b.l row hr p hp).1.pos;have lc:∀row∈X,dI row<=iQ ds:=λrow hr=>Int.le_of_dvd T0 (Mq.Lo (pos row hr) λp hp=>(ent row hr p hp).1);have lg:∀row∈X,1<=dI row:=λrow hr=>pQ (pos row hr);refine⟨⟨pos,λrow hr=>⟨λp hp=>(ent row hr p hp).2.1,by rw[b.w row hr,lX]⟩,(),λrow hr=>?_,λi x=>?_⟩,?_⟩
 ·have h1:=lc row hr;have h2:=lg row hr;exact(TB'.le ()).mono ()
 ·unfold Mq.ent
  by_cases hi:i < X.length
  ·rw[Ff hi];have e:X[i]?=some (X.getD i []):=by rw[getD_eq_getElem?_getD,getElem?_eq_getElem hi];rfl
   have mem:=mem_of_getElem? e;generalize X.getD i []=row at mem;unfold iw;rw[getD_eq_getElem?_getD,getElem?_map]
   cases hx:row[x]? with
   |none=>exact Nat.two_pow_pos _
   |some p=>
    show Mq.B 640 (yI (dI row) p);have mp:=mem_of_getElem? hx;obtain⟨k,hk⟩:=uZ (pos row mem) p mp;have p1:=pos row mem p mp;have ek:Int.fdiv (dI row) p.2=k:=fK () (by rw[hk,Int.mul_comm]);have h1:=lc row mem;have h2:=lg row mem;have h3:=(ent row mem p mp).2.2;unfold yI;rw[ek];have h4:(p.1*k).natAbs<=300*(dI row).natAbs:=by
     rw[Int.natAbs_mul,hk,Int.natAbs_mul]
     calc p.1.natAbs*k.natAbs<=300*p.2.natAbs*k.natAbs:=Nat.mul_le_mul_right _ h3
      _=300*(k.natAbs*p.2.natAbs):=by grind
    unfold Mq.B at TB' ⊢;have:(2:Nat) ^ 640=1024*2 ^ 630:=by rw[show 640=10+630 by rfl,Nat.pow_add]
    lia
  ·rw[getD_eq_getElem?_getD (l:=X.map iw),getElem?_eq_none (by simp;lia)];exact Nat.two_pow_pos _
 ·unfold wgt qi6;rw[lX];exact cH λi j _ _=>by rw[<- v i j];rfl
abbrev Hn:=Option (Nat × Nat) × RD
section
variable {m u:Nat} {hs:List Mq.Q2} {par:Nat->Nat} {E:List Ent}
theorem Qj:∀{ds:List RD} (k:Nat),(∀d∈ds,∀k,Mq.Fr L M (cM d k x y))->Mq.Fr L (ds.length*M) (eqM k ds x y)
 | [],_,_=>Mq.Fr.zero.mono (Nat.zero_le _)
 |d :: ds,k,q=>by
  rw[length_cons,Nat.succ_mul,Nat.add_comm];exact(q d ⋯ k).add (Qj _ λx hx=>q x (mem_cons_of_mem _ hx))
theorem Py [Decidable c](g:Mq.Fr L M y):Mq.Fr L M (if c then y else 0):=by
 split
 ·exact g
 ·exact Mq.Fr.zero.mono (Nat.zero_le _)
end
open Mq
def jnL (ms:List Int)(ls:List Q2)(u v:Nat)(z:Q2):List Q2:=(List.range ls.length).map λp=>if ms.getD p 0=ms.getD v 0 then jJ (ls.getD p (0,1)) (minus (minus (ls.getD u (0,1)) (ls.getD v (0,1))) z) else ls.getD p (0,1)
theorem pL (ms:List Int)(ls:List Q2)(u v:Nat)(z:Q2):(jnL ms ls u v z).length=ls.length:=by unfold jnL;rw[length_map,length_range]
def LfB (n:Nat)(q:Q2):Prop:=Low q/\Mq.Fr 27720 (60*4 ^ n) (val q)
theorem LfB.of (lo:Low q)(e:val q=x)(h:Mq.Fr 27720 M x)(l:M<=60*4 ^ n):LfB n q:=⟨lo,by rw[e];exact h.mono l⟩
theorem LfB.p2 (h:LfB n q):1<=q.2:=h.1.1
theorem qq6 (h:n<=k):4 ^ n<=4 ^ k:=Nat.pow_le_pow_right ∅ h
theorem LfB.mono (h:LfB n q)(l:n<=k):LfB k q:=⟨h.1,h.2.mono (Nat.mul_le_mul_left _ (qq6 l))⟩
theorem LfB.bd (h:LfB n q)(l:n<=20):Bd 80 q:=by
 have h:=h.mono l;obtain⟨a,ba,ea⟩:=h.2.get (m:=46) (n:=15) (b:=80) ∅ (by show (27720:Int).natAbs < 2 ^ 15;decide) ∅;exact(vV h.1 ∅ (by show (27720:Int).natAbs < 2 ^ 80;decide) ba ea).1
theorem LfB.zero:LfB 0 (0,1):=⟨⟨∅,∅⟩,by rw[tS];exact Mq.Fr.zero.mono ∅⟩
section
variable {n:Nat} {p q z:Q2}
theorem LfB.d1 (hp:LfB n p)(hq:LfB n q):LfB (n+1) (minus p q):=by
 have h:=hp.2.add hq.2.neg;refine LfB.of (fP hp.p2 hq.p2) (fB hp.p2 hq.p2) (by rw[Rat.sub_eq_add_neg];exact h) ?_;rw[Nat.pow_succ];lia
theorem LfB.d2 (hp:LfB n p)(hq:LfB n q)(hz:LfB 0 z):LfB (n+1) (minus (minus p q) z):=by
 have l1:=fP hp.p2 hq.p2;have h:=(hp.2.add hq.2.neg).add hz.2.neg;refine LfB.of (fP l1.1 hz.p2) (by rw[fB l1.1 hz.p2,fB hp.p2 hq.p2]) (by rw[Rat.sub_eq_add_neg,Rat.sub_eq_add_neg];exact h) ?_;rw[Nat.pow_succ];have:=Nat.pow_pos (n:=n) (show 0 < 4 by decide);lia
theorem LfB.d3 (hr:LfB n r)(hp:LfB n p)(hq:LfB n q)(hz:LfB 0 z):LfB (n+1) (jJ r (minus (minus p q) z)):=by
 have l1:=fP hp.p2 hq.p2;have l2:=fP l1.1 hz.p2;have h:=hr.2.add ((hp.2.add hq.2.neg).add hz.2.neg);refine LfB.of (kI hr.p2 l2.1) (by rw[mM hr.p2 l2.1,fB l1.1 hz.p2,fB hp.p2 hq.p2]) (by rw[Rat.sub_eq_add_neg,Rat.sub_eq_add_neg];exact h) ?_;rw[Nat.pow_succ];have:=Nat.pow_pos (n:=n) (show 0 < 4 by decide);lia
end
theorem fL {P:Q2->Prop}{ls:List Q2}(h:∀q∈ls,P q)(hi:i < ls.length):P (ls.getD i (0,1)):=by
 rw[getD_eq_getElem?_getD,getElem?_eq_getElem hi];exact h _ (getElem_mem hi)
theorem Jx (hp:p < ls.length):(jnL ms ls u v z).getD p (0,1)=if ms.getD p 0=ms.getD v 0 then jJ (ls.getD p (0,1)) (minus (minus (ls.getD u (0,1)) (ls.getD v (0,1))) z) else ls.getD p (0,1):=by
 unfold jnL;rw[getD_eq_getElem?_getD,getElem?_map,getElem?_range hp];rfl
theorem Ob (h:∀q∈ls,LfB n q)(hu:u < ls.length)(hv:v < ls.length)(hz:LfB 0 z):∀q∈jnL ms ls u v z,LfB (n+1) q:=λq hq=>by
 unfold jnL at hq;obtain⟨p,hp,rfl⟩:=mem_map.mp hq;have hp:=mem_range.mp hp
 by_cases c:ms.getD p 0=ms.getD v 0
 ·rw[if_pos c];exact LfB.d3 (fL h hp) (fL h hu) (fL h hv) hz
 ·rw[if_neg c];exact(fL h hp).mono (Nat.le_succ n)
theorem qa3 {sz h:Nat->Rat}(hh:∀e∈es,h e.2.1 - h e.2.2=sz e.1){st:List Stp}(p:Pt es b st x pts):(st.map λs=>((s.2:Int):Rat)*sz s.1).sum=h b - h x:=by
 induction p with
 |nil=>show (0:Rat)=_;grind
 | @snoc st p q pts s _ g _ ih=>
  rw[map_append,sum_append,ih];obtain⟨u,v,he,g⟩:=g;have e:=hh _ he;show h b - h p+((((s.2:Int):Rat)*sz s.1)+0)=_;rcases g with ⟨a,rfl,rfl⟩ | ⟨a,rfl,rfl⟩
  ·rw[a,show ((1:Int):Rat)=1 by rfl];have e:h p - h q=sz s.1:=e;grind
  ·rw[a,show ((-1:Int):Rat)=-1 by rfl];have e:h q - h p=sz s.1:=e;grind
theorem qf9 {st:List Stp}(h:lM es b e=some st):∃pts,Pt es b st e pts:=by
 obtain⟨pts,p,_⟩:=(jM es b 60).pt e st (gL h);exact⟨pts,p⟩
structure LfI (m i:Nat) (ds:List RD) (es:List Br) (ls:List Q2):Prop where
 ln:ls.length=m
 bd:∀q∈ls,LfB i q
 po:∀e∈es,∀d,ds[e.1]?=some d->val (ls.getD e.2.1 (0,1)) - val (ls.getD e.2.2 (0,1))=val d.2.2.2
theorem LfI.mono (h:LfI m i ds es ls)(l:i<=j):LfI m j ds es ls:=⟨h.ln,λq hq=>(h.bd q hq).mono l,h.po⟩
theorem LfI.start (m:Nat)(ds:List RD):LfI m 0 ds [] (replicate m (0,1)):=⟨length_replicate,λq hq=>by rw[eq_of_mem_replicate hq];exact LfB.zero,λe he=>by cases he⟩
theorem LfI.join (h:LfI m i ds es ls)(hm:Ptm m es)(hd:ds[i]?=some d)(hu:u < m)(hv:v < m)(ne:L2.mk m (dD es) u≠L2.mk m (dD es) v)(hz:LfB 0 d.2.2.2):LfI m (i+1) ds (es++[(i,u,v)]) (jnL (mks m (dD es)) ls u v d.2.2.2):=by
 have l:=h.ln;refine⟨by rw[pL];exact l,Ob h.bd () () hz,λe he d' hd'=>?_⟩;have gv:∀p,p < m->val ((jnL (mks m (dD es)) ls u v d.2.2.2).getD p (0,1))=if L2.mk m (dD es) p=L2.mk m (dD es) v then val (ls.getD p (0,1))+(val (ls.getD u (0,1)) - val (ls.getD v (0,1)) - val d.2.2.2) else val (ls.getD p (0,1)):=λp hp=>by
  rw[Jx ()];have Bp:=fL h.bd (show p < ls.length by lia);have Bu:=fL h.bd (show u < ls.length by lia);have Bv:=fL h.bd (show v < ls.length by lia);have l1:=fP Bu.p2 Bv.p2;have l2:=fP l1.1 hz.p2;show val (if L2.mk m (dD es) p=L2.mk m (dD es) v then _ else _)=_
  by_cases c:L2.mk m (dD es) p=L2.mk m (dD es) v
  ·rw[if_pos c,if_pos c,mM Bp.p2 l2.1,fB l1.1 hz.p2,fB Bu.p2 Bv.p2]
  ·rw[if_neg c,if_neg c]
 rcases mem_append.mp he with z | z
 ·have pe:=hm.p e z;have g:=Kq hm (s:=(e.1,1)) (p:=e.2.1) (q:=e.2.2) ⟨e.2.1,e.2.2,z,.inl ⟨rfl,rfl,rfl⟩⟩;have o:=h.po e z d' hd';rw[gv _ pe.1,gv _ pe.2,g]
  by_cases c:L2.mk m (dD es) e.2.1=L2.mk m (dD es) v
  ·rw[if_pos c,if_pos c];grind
  ·rw[if_neg c,if_neg c];exact o
 ·have:e=(i,u,v):=by simpa using z
  subst this;have:d'=d:=by rw[hd] at hd';exact(Option.some.inj hd').symm
  subst this;show val ((jnL _ ls u v d'.2.2.2).getD u (0,1)) - val ((jnL _ ls u v d'.2.2.2).getD v (0,1))=_;rw[gv u hu,gv v hv,if_neg ne,if_pos rfl];grind
theorem Af (i:Nat):∀j,∃r,(bY W sk (i+j)).2=(bY W sk i).2++r
 |0=>⟨[],by rw[append_nil];rfl⟩
 |j+1=>by
  obtain⟨r,hr⟩:=Af (W:=W) (sk:=sk) i j;show ∃r,(match sk[i+j]? with | none=>bY W sk (i+j) | some d=>fV W (bY W sk (i+j)) (i+j) d).2=_
  cases sk[i+j]? with
  |none=>exact⟨r,hr⟩
  |some d=>
   show ∃r,(fV W (bY W sk (i+j)) (i+j) d).2=_;unfold fV
   by_cases c:W d.1=true
   ·rw[if_pos c]
    cases lM (bY W sk (i+j)).1 d.2.2 d.2.1 with
    |none=>exact⟨r,hr⟩
    |some st=>exact⟨r++[(i+j,(i+j,1) :: st)],by show (bY W sk (i+j)).2++_=_;rw[hr,List.append_assoc]⟩
   ·rw[if_neg c];exact⟨r,hr⟩
end L2
namespace Blk
open L2
section
theorem ringS_no (hw:W k=true)(hy:lM s.1 v u=none):fV W s n (k,u,v)=(s.1++[(n,u,v)],s.2):=by
 unfold fV;rw[if_pos hw];dsimp only;generalize lM s.1 v u=o at hy;subst hy;rfl
theorem ringS_so (hw:W k=true)(hy:lM s.1 v u=some st):fV W s n (k,u,v)=(s.1,s.2++[(n,(n,1) :: st)]):=by
 unfold fV;rw[if_pos hw];dsimp only;generalize lM s.1 v u=o at hy;subst hy;rfl
end
end Blk
namespace L2
open PySem PySem.W
theorem Rt {XP:(Str->Option Value)->Heap->Prop}{run:Value->List Value->Sem Value}(e:∀P,bs=(K P).map (·.1))(h:WalkO q loose XP (λw h=>(K w.params).In h) r d kwd run):WalkX q loose XP (W.X.obsZ bs) (W.X.valZ K n t) r d kwd run:=
 λw s₀ s₁ mg mb G y a o pm cd doc dV kV h1 h2 h3 h4 h5 h6 args vals as' L=>h w s₀ s₁ mg mb G (InK.keeps w _ _ (W.X.z_facts e y).2.1 L.keeps) a o pm cd doc dV kV h1 h2 h3 h4 h5 h6 args vals as'
open PySem.Spec PyProof.Rows
section
variable {K:Frag} {x qual:Str} {st:Stmt} {dV:Value} {f:Addr} {fd:FuncData}
theorem aW.b1 (a:Str)(F:aW K x qual st dV f fd)(h:∀(kV doc pm:Value) (an:Option Addr) (cdv ct u:Value),bindArgs (W.fnOf x qual (eJ st) (cU st) (aI st) dV kV doc pm an cdv ct) ⟨[u],[]⟩=pure [(a,u)]):aL K fd [a] []:=
 F.binds λk d p n c t us hl=>match us,hl with | [_],_=>h k d p n c t _
theorem aW.b2 (a b:Str)(F:aW K x qual st dV f fd)(h:∀(kV doc pm:Value) (an:Option Addr) (cdv ct u v:Value),bindArgs (W.fnOf x qual (eJ st) (cU st) (aI st) dV kV doc pm an cdv ct) ⟨[u,v],[]⟩=pure [(a,u),(b,v)]):aL K fd [a,b] []:=
 F.binds λk d p n c t us hl=>match us,hl with | [_,_],_=>h k d p n c t _ _
theorem aW.b3 (a b c:Str)(F:aW K x qual st dV f fd)(h:∀(kV doc pm:Value) (an:Option Addr) (cdv ct u v w:Value),bindArgs (W.fnOf x qual (eJ st) (cU st) (aI st) dV kV doc pm an cdv ct) ⟨[u,v,w],[]⟩=pure [(a,u),(b,v),(c,w)]):aL K fd [a,b,c] []:=
 F.binds λk d p n c t us hl=>match us,hl with | [_,_,_],_=>h k d p n c t _ _ _
theorem aW.b4 (a b c e:Str)(F:aW K x qual st dV f fd)(h:∀(kV doc pm:Value) (an:Option Addr) (cdv ct u v w z:Value),bindArgs (W.fnOf x qual (eJ st) (cU st) (aI st) dV kV doc pm an cdv ct) ⟨[u,v,w,z],[]⟩=pure [(a,u),(b,v),(c,w),(e,z)]):aL K fd [a,b,c,e] []:=
 F.binds λk d p n c t us hl=>match us,hl with | [_,_,_,_],_=>h k d p n c t _ _ _ _
theorem aW.b5 (a b c e g:Str)(F:aW K x qual st dV f fd)(h:∀(kV doc pm:Value) (an:Option Addr) (cdv ct u v w z y:Value),bindArgs (W.fnOf x qual (eJ st) (cU st) (aI st) dV kV doc pm an cdv ct) ⟨[u,v,w,z,y],[]⟩=pure [(a,u),(b,v),(c,w),(e,z),(g,y)]):aL K fd [a,b,c,e,g] []:=
 F.binds λk d p n c t us hl=>match us,hl with | [_,_,_,_,_],_=>h k d p n c t _ _ _ _ _
end
end L2
namespace K70
open PySem L2
variable {CR:Addr}{CK fW fJ fT fS:Kd->Addr}{fdW fdJ fdT fdS:Kd->FuncData}
structure D9 (P:Program)(w:World)(K:Frag)(mg:Str->Option Value)(base:Heap)(j:Nat)(g:Addr)(gd:FuncData)(ps:List Str)(sp:Sp)(nm:Str):Prop where
 G:aK P w K mg base CX0 j g gd ps sp
 b:aL K gd ps []
 k:kI9 K g
 m:mI9 mg nm g
theorem d9 (D:D9 X.prog X.w X.K X.mg X.base k f fd ps sp x)(hr:gM k X.A)(hg:Gl X x)(ha:PA X (e :: es) t)(hdb:(x == ("__debug__":Str))=false:=by decide)(he:starEach (e :: es) X.env=(false,eval e X.env) :: starEach es X.env:=by rfl)(hpl:(backTo pos (starEach es X.env)).any (·.1)=false:=by rfl):PE X (.Call (.Name x p) (e :: es) [] pos) (qo4 sp [] E0 t):=aH D.G hr hg D.m D.k D.b .nil aM ha hdb he hpl
def top (i:Nat):Stmt:=PySem.Challenge.pw_ohmyard_k70_refused_between.main.body.getD i (.Pass ⟨0,0,0,0⟩)
abbrev Go:Stmt:=top 19
theorem Xl:aP ["thing"] ["thing"] (aI Go):=sK9
abbrev sGc:Stmt:=top 21
theorem Vs:aP ["one","other","rest"] ["one","other"] (aI sGc):=sK9
abbrev Ie:Stmt:=top 27
theorem Uy:aP ["one","other"] ["one","other"] (aI Ie):=sK9
abbrev lZ:Stmt:=top 22
theorem Hg:aP ["top","bottom","shared"] ["top","bottom"] (aI lZ):=sK9
abbrev Gu:Stmt:=top 24
theorem Wr:aP ["one","other"] ["one","other"] (aI Gu):=sK9
abbrev Ou:Stmt:=top 23
theorem qa2:aP ["one","other"] ["one","other"] (aI Ou):=sK9
abbrev Ih:Stmt:=fI (top 39) 0
theorem Uj:aP ["self","start","goal","size"] ["self","start","goal","size"] (aI Ih):=sK9
abbrev vK:Stmt:=fI (top 40) 0
theorem Nr:aP ["self"] ["self"] (aI vK):=sK9
abbrev uY:Stmt:=fI (top 41) 0
theorem Nj:aP ["self"] ["self"] (aI uY):=sK9
abbrev xC:Stmt:=fI (top 42) 0
theorem Nm:aP ["self"] ["self"] (aI xC):=sK9
abbrev Fb:Stmt:=fI (top 39) 1
theorem Vl:aP ["self"] ["self"] (aI Fb):=sK9
abbrev Hi:Stmt:=top 43
theorem Jf:aP ["told","word"] ["told"] (aI Hi):=sK9
abbrev qg2:Stmt:=top 20
theorem qm9:aP ["thing"] ["thing"] (aI qg2):=sK9
abbrev sPS:Stmt:=top 44
theorem qr1:aP ["thing"] ["thing"] (aI sPS):=sK9
abbrev sNB:Stmt:=top 49
theorem qs3:aP ["thing","bound"] ["thing","bound"] (aI sNB):=sK9
abbrev sRS:Stmt:=top 51
theorem qr4:aP ["word","size"] ["word","size"] (aI sRS):=sK9
theorem yM:(["point","many"]:List Str).Nodup:=by decide +kernel
inductive qd1 (K:Frag) (vs:List V) (H:Hp) (Q:VK) (E:XK):Prop where
 |mk (l:Addr) (i j m:Int):vs=[.ref l,.int m]->SqL K H l [.int i,.int j]->0<=i->i < m->0<=j->j < m->(∀H',aS H H'->Q .non H')->qd1 K vs H Q E
abbrev sRP:Stmt:=top 50
theorem qs4:aP ["some","many"] ["some","many"] (aI sRP):=sK9
abbrev Gm:Stmt:=fI (top 48) 0
theorem Wu:aP ["self","many"] ["self","many"] (aI Gm):=sK9
abbrev Sn:Stmt:=fI (top 48) 1
theorem qe2:aP ["self"] ["self"] (aI Sn):=sK9
abbrev qc6:Stmt:=fI (top 48) 3
theorem Yo:aP ["self","row","told"] ["self","row"] (aI qc6):=sK9
theorem Vh:(["told"]:List Str).Nodup:=by decide +kernel
abbrev Om:Stmt:=fI (top 48) 5
theorem qf8:aP ["self"] ["self"] (aI Om):=sK9
theorem Dm (F:aK P w K mg base CX0 2 g gd ["thing"] (Fm K)):aK P w K mg base CX0 2 g gd ["thing"] (Iw K):=
 F.weak λvs H Q E h=>by
  obtain⟨a,p,rfl,f,l,q⟩:=h;exact⟨_,some p,rfl,.fr f l,q⟩
theorem We {f:Str}(h:X.K=K)(he:PE X e ta)(hb:attributeBase e f X.env (eval e X.env)=eval e X.env):PE X (.Attribute e f pos) (qq0 K ta f):=by subst h;exact cS he hb
abbrev Hu:Stmt:=top 25
theorem Vd:aP ["one","other"] ["one","other"] (aI Hu):=sK9
abbrev Td:Stmt:=top 26
theorem Zy:aP ["one","other"] ["one","other"] (aI Td):=sK9
abbrev Fe:Stmt:=top 70
theorem Vw:aP ["line","column","amount"] ["line","column","amount"] (aI Fe):=sK9
abbrev Fj:Stmt:=top 69
theorem Vg:aP ["matrix","row","column","amount"] ["matrix","row","column","amount"] (aI Fj):=sK9
abbrev Da:Stmt:=top 66
theorem Ew:aP ["matrix","row","share"] ["matrix","row"] (aI Da):=sK9
abbrev Ay:Stmt:=top 67
theorem Ol:aP ["right","row"] ["right","row"] (aI Ay):=sK9
abbrev Cs:Stmt:=top 68
theorem Pj:aP ["matrix","right","row","column"] ["matrix","right","row","column"] (aI Cs):=sK9
section
theorem kD (f:Fq K H t p):∀n,Fqs K H (replicate n (.ref t)) (replicate n p)
 |0=>.nil
 |n+1=>.cons f (kD f n)
theorem qU (x:V):∀n,(replicate n [x]).flatten=replicate n x
 |0=>rfl
 |n+1=>by rw[replicate_succ,flatten_cons,qU x n];rfl
theorem Lg (xs:List V)(k:Nat):mB xs (some (k:Int)) none=xs.drop k:=by
 unfold mB;have h1:HT.sIx xs.length xs.length none=xs.length:=rfl;have h2:HT.sIx xs.length 0 (some (k:Int))=min k xs.length:=by simp[HT.sIx];lia
 rw[h1,h2]
 by_cases h:k<=xs.length
 ·rw[Nat.min_eq_left h,take_of_length_le ⋯]
 ·rw[Nat.min_eq_right (),drop_of_length_le (Nat.le_refl _),drop_of_length_le ()];simp
theorem Kg (xs:List V):mB xs (some 1) none=xs.drop 1:=Lg xs 1
theorem Lc (h:X.K=K):SlR X (Zr K):=by subst h;exact kY
theorem vY (R:List Mq.Q2)(j:Nat):(R.drop 1).getD j (0,1)=R.getD (j+1) (0,1):=by
 rw[getD_eq_getElem?_getD,getElem?_drop,Nat.add_comm 1 j,getD_eq_getElem?_getD]
theorem Ll (M:List (List Mq.Q2))(i j:Nat):iU ((M.drop 1).map (List.drop 1)) i j=iU M (i+1) (j+1):=by
 have e:((M.drop 1).map (List.drop 1)).getD i []=(M.getD (i+1) []).drop 1:=by
  rw[getD_eq_getElem?_getD,getElem?_map,getElem?_drop,Nat.add_comm 1 i,getD_eq_getElem?_getD]
  cases M[i+1]?<;>rfl
 unfold iU;rw[e,vY]
theorem Tl {w n:Nat}(b:MxB M w w n):MxB ((M.drop 1).map (List.drop 1)) (w - 1) (w - 1) n:=by
 refine⟨by rw[length_map,length_drop,b.h],λps hp=>?_,λps hp p hp'=>?_⟩
 ·obtain⟨qs,hq,rfl⟩:=mem_map.mp hp;rw[length_drop,b.w _ (mem_of_mem_drop hq)]
 ·obtain⟨qs,hq,rfl⟩:=mem_map.mp hp;exact b.l _ (mem_of_mem_drop hq) _ (mem_of_mem_drop hp')
theorem Ny {w n:Nat}(b:LnB R w n):LnB (R.drop 1) (w - 1) n:=⟨by rw[length_drop,b.w],λp hp=>b.l p (mem_of_mem_drop hp)⟩
theorem Wa (w:Nat):MxB (replicate w (replicate w (0,1))) w w 1:=by
 refine⟨length_replicate,λps hp=>?_,λps hp p hp'=>?_⟩
 ·rw[eq_of_mem_replicate hp,length_replicate]
 ·rw[eq_of_mem_replicate hp] at hp';rw[eq_of_mem_replicate hp'];exact⟨⟨∅,∅⟩,⟨show (0:Nat) < 2 ^ 1 by decide,show (1:Nat) < 2 ^ 1 by decide⟩⟩
theorem rG (w j:Nat):(replicate w ((0,1):Mq.Q2)).getD j (0,1)=(0,1):=by
 rw[getD_eq_getElem?_getD]
 cases e:(replicate w ((0,1):Mq.Q2))[j]? with
 |none=>rfl
 |some p=>exact eq_of_mem_replicate (mem_of_getElem? e)
theorem Tw (w i j:Nat):iU (replicate w (replicate w (0,1))) i j=(0,1):=by
 have e:(replicate w (replicate w ((0,1):Mq.Q2))).getD i []=[]\/(replicate w (replicate w ((0,1):Mq.Q2))).getD i []=replicate w (0,1):=by
  rw[getD_eq_getElem?_getD]
  cases e:(replicate w (replicate w ((0,1):Mq.Q2)))[i]? with
  |none=>exact .inl rfl
  |some ps=>exact .inr (eq_of_mem_replicate (mem_of_getElem? e))
 unfold iU;rcases e with e | e
 ·rw[e];rfl
 ·rw[e];exact rG w j
theorem Av (w:Nat):LnB (replicate w (0,1)) w 1:=⟨length_replicate,λp hp=>by
 rw[eq_of_mem_replicate hp];exact⟨⟨∅,∅⟩,⟨show (0:Nat) < 2 ^ 1 by decide,show (1:Nat) < 2 ^ 1 by decide⟩⟩⟩
theorem Qt (i:Nat):cX (ds.take i)<=cX ds:=by
 have h:cX ds=cX (ds.take i)+cX (ds.drop i):=by
  unfold cX pE;rw[<- List.length_append,<- filter_append,take_append_drop]
 lia
theorem Gv:(["row"]:List Str).Nodup:=by decide +kernel
theorem yR:(["line","width"]:List Str).Nodup:=by decide +kernel
theorem Xo:(["line"]:List Str).Nodup:=by decide +kernel
theorem Fqs.drop1:∀{xs:List V} {ps:List Mq.Q2},Fqs K H xs ps->Fqs K H (xs.drop 1) (ps.drop 1)
 |_,_,.nil=>.nil
 |_,_,.cons _ q=>q
abbrev Zp:Stmt:=top 65
theorem pS:aP ["net","rows","many","width","matrix","right","held","row"] ["net"] (aI Zp):=sK9
theorem qX {ec:List (Str × Addr)}:∀(x:Str) (c:Addr),([]:List (Str × Addr)).lookup x=some c->ec.lookup x=some c:=λ_ _ h=>by cases h
theorem fC {ec cl:List (Str × Addr)}(h:ec.lookup a=some d)(r:∀x c,cl.lookup x=some c->ec.lookup x=some c):∀x c,((a,d) :: cl).lookup x=some c->ec.lookup x=some c:=λx c e=>by
 rw[lookup_cons] at e
 cases q:x == a with
 |true=>rw[q] at e;rw[eq_of_beq q,h];exact e
 |false=>rw[q] at e;exact r x c e
theorem gP (h:X.K=K):IxR X (Po K):=by subst h;exact bL
theorem iE (h:X.K=K):IxR X (qf1 K):=by subst h;exact bM
abbrev Gr:Stmt:=top 36
theorem uE:aP ["rows","numbers","point","steps","number","row"] ["rows","numbers","point"] (aI Gr):=sK9
theorem qc3 (hm:Ptm m es)(hb:b < m)(h20:m<=20){w:WS}(nd:(cC w).Nodup)(pt:∀x st,(x,st)∈w->∃pts,Pt es b st x pts/\∀y∈pts,y∈cC w)(p:Pt es b st x pts)(k:∀y∈pts,y∈cC w):st.length<=20:=by
 have l:pts.length=st.length+1:=by
  induction p with
  |nil=>rfl
  |snoc h g n ih=>rw[List.length_append,List.length_append,ih λy hy=>k y (mem_append_left _ hy)];rfl
 have nd':pts.Nodup:=by
  clear k l
  induction p with
  |nil=>simp
  |snoc h g n ih=>
   rw[nodup_append];refine⟨ih,⋯,λx hx y hy z=>n ?_⟩;rw[mem_singleton] at hy;rw[<- hy,<- z];exact hx
 have:=Kt nd' λy hy=>Cy hm hb pt y (k y hy);lia
theorem Ze {T:List (Stp × Nat)}(hm:Ptm m es)(hb:b < m)(h20:m<=20)(h:WJ es b p [] s)(g:∀t∈T,qO es t.1 p t.2):((T.take j).foldl (inF p) s).2.length<=muF s:=by
 have:=Aj hm hb h20 (T.take j) [] h λt ht=>g t (mem_of_mem_take ht);unfold muF at this ⊢;lia
def muW (σ:St)(H:Hp):Nat:=match σ with
 | [_,_,_,_,some (.ref D),some (.ref W),_,_]=>match H D,H W with
  |some (.dK kvs),some (.lst q)=>2*(20 - kvs.length)+q.length
  |_,_=>0
 |_=>0
theorem Od {a b c d e f:Option V}(h:H D=some (.dK kvs))(g:H W=some (.lst q)):muW [a,b,c,d,some (.ref D),some (.ref W),e,f] H=2*(20 - kvs.length)+q.length:=by
 show (match H D,H W with | some (.dK kvs),some (.lst q)=>2*(20 - kvs.length)+q.length | _,_=>0)=_;rw[h,g]
theorem Og (h:q≠[]):(q.map λ(p:Nat)=>V.int (p:Int))[((q.map λ(p:Nat)=>V.int (p:Int))).length - 1]?=some (.int ((q.getLastD 0:Nat):Int))/\(q.map λ(p:Nat)=>V.int (p:Int)).dropLast=(q.dropLast.map λ(p:Nat)=>V.int (p:Int)):=by
 obtain⟨_,e⟩:=Kl h;generalize q.getLastD 0=x at e;generalize q.dropLast=r at e;subst e;rw[map_append];simp
abbrev qb3:Stmt:=top 35
theorem Dj:aP ["rows","numbers","begin","end","ways","waiting","point","step"] ["rows","numbers","begin","end"] (aI qb3):=sK9
theorem Xr {i:Nat}(h:ds[i]?=some d):(skl ds)[i]?=some (d.1,d.2.1.toNat,d.2.2.1.toNat):=by unfold skl;rw[getElem?_map,h];rfl
theorem vI (ds:List RD):(skl ds).length=ds.length:=by unfold skl;rw[length_map]
theorem Kf {m:Nat}(pt:∀d∈ds,dF (m:Int) d.2.1 d.2.2.1):∀d∈skl ds,d.2.1 < m/\d.2.2 < m:=λd hd=>by
 obtain⟨e,he,rfl⟩:=mem_map.mp hd;obtain⟨i0,i1,j0,j1⟩:=pt e he;exact⟨by show e.2.1.toNat < m;lia,by show e.2.2.1.toNat < m;lia⟩
theorem Vu {m n:Nat}(pt:∀d∈ds,dF (m:Int) d.2.1 d.2.2.1)(h:RI W (skl ds) m n s):qa6 ds s.1:=λe he=>by
 obtain⟨k,hk⟩:=h.at_ e he;have hl:e.1 < ds.length:=by have:=(List.getElem?_eq_some_iff.mp hk).1;rwa [vI] at this
 have hd:ds[e.1]?=some ds[e.1]:=getElem?_eq_getElem hl;rw[Xr hd] at hk;obtain⟨i0,i1,j0,j1⟩:=pt _ (mem_of_getElem? hd);refine⟨_,hd,?_,?_⟩
 ·have:ds[e.1].2.1.toNat=e.2.1:=by injection hk with z;injection z with _ z;injection z
  lia
 ·have:ds[e.1].2.2.1.toNat=e.2.2:=by injection hk with z;injection z with _ z;injection z
  lia
theorem Rh:∀n,(bY W sk n).1.length<=n
 |0=>Nat.le_refl _
 |n+1=>by
  have ih:=Rh (W:=W) (sk:=sk) n
  cases h:sk[n]? with
  |none=>show (match sk[n]? with | none=>bY W sk n | some d=>fV W (bY W sk n) n d).1.length<=n+1;rw[h];show (bY W sk n).1.length<=n+1;lia
  |some d=>
   rw[gJ h];generalize bY W sk n=s at ih;unfold fV;split
   ·split
    ·show (s.1++[(n,d.2.1,d.2.2)]).length<=n+1;rw[List.length_append];simp only[length_cons,length_nil];lia
    ·show s.1.length<=n+1;lia
   ·lia
def WdA (K:Frag)(H:Hp)(v:V)(W:Kd->Bool):Prop:=∃(p:Addr) (ws:List V),v=.ref p/\(SqL K H p ws\/SqT K H p ws)/\ws.all oV=true/\∀k:Kd,inV (.str k.wd) ws=W k
theorem WdA.same (e:aS H H')(h:WdA K H v W):WdA K H' v W:=by
 obtain⟨p,ws,h1,h2,h3⟩:=h;refine⟨p,ws,h1,?_,h3⟩;rcases h2 with z | z
 ·exact .inl (e.seq z)
 ·exact .inr (e.seqT z)
theorem qm1 (k:Kd):inV (.str k.wd) [.str "piece",.str "hold"]=decide (k≠.pu):=by cases k<;>decide
abbrev iI:Stmt:=top 34
theorem jO:aP ["net","words","wanted","rows","branches","found","number","row","back"] ["net","words"] (aI iI):=sK9
abbrev rV:Stmt:=fI (top 40) 1
theorem Hr:aP ["self"] ["self"] (aI rV):=sK9
abbrev rX:Stmt:=fI (top 41) 1
theorem Id:aP ["self"] ["self"] (aI rX):=sK9
abbrev tI:Stmt:=fI (top 42) 1
theorem Hf:aP ["self"] ["self"] (aI tI):=sK9
inductive pV (K:Frag) (CK:Kd->Addr) (vs:List V) (H:Hp) (Q:VK) (E:XK):Prop where
 |mk (a x:Addr) (ms:List Int) (k:Kd) (s g:Nat) (z:V):vs=[.ref a,.ref x]->SqL K H a (ms.map V.int)->Rw CK H x k (.int (s:Int)) (.int (g:Int)) z->s < ms.length->g < ms.length->ms.length<=100->(∀l H',aS H H'->H l=none->H' l=some (.lst ((jn ms s g).map V.int))->Q (.ref l) H')->pV K CK vs H Q E
inductive Bg (CN:Addr) (K:Frag) (vs:List V) (H:Hp) (Q:VK) (E:XK):Prop where
 |mk (n l:Addr) (m:Nat) (ds:List RD):vs=[.ref n]->dW CN K H n l (m:Int) ds->(∀d∈ds,dF (m:Int) d.2.1 d.2.2.1)->m<=20->ds.length<=100->(∀l' H',aS H H'->H l'=none->H' l'=some (.lst ((mks m ds).map V.int))->Q (.ref l') H')->Bg CN K vs H Q E
def eU (m:Nat)(ds:List RD):List Int:=((List.range m).filter λp=>decide (mk m ds p≠mk m ds 0)).map λ(p:Nat)=>(p:Int)
inductive Cb (CN:Addr) (K:Frag) (vs:List V) (H:Hp) (Q:VK) (E:XK):Prop where
 |mk (n l:Addr) (m:Nat) (ds:List RD):vs=[.ref n]->dW CN K H n l (m:Int) ds->(∀d∈ds,dF (m:Int) d.2.1 d.2.2.1)->1<=m->m<=20->ds.length<=100->(∀l' H',aS H H'->H l'=none->H' l'=some (.lst ((eU m ds).map V.int))->Q (.ref l') H')->Cb CN K vs H Q E
theorem pT:(["mark","lost","kept"]:List Str).Nodup:=by decide +kernel
abbrev Cr:Stmt:=top 33
theorem vD:aP ["marks","row","kept","lost"] ["marks","row"] (aI Cr):=sK9
abbrev Hv:Stmt:=top 32
theorem uW:aP ["net","marks","row"] ["net"] (aI Hv):=sK9
theorem iN:(["point","mark","marks"]:List Str).Nodup:=by decide +kernel
abbrev Ht:Stmt:=top 31
theorem Kr:aP ["net","marks"] ["net"] (aI Ht):=sK9
open Shp
theorem yO:(["one","bottom"]:List Str).Nodup:=by decide +kernel
abbrev sIW:Stmt:=top 56
theorem Ug:aP ["some","bottom","one"] ["some"] (aI sIW):=sK9
abbrev qg7:Stmt:=top 60
theorem Yk:aP ["rows","rank","column","place"] ["rows","rank","column"] (aI qg7):=sK9
theorem eV:(["here","above","own","other","divisor"]:List Str).Nodup:=by decide +kernel
abbrev qe0:Stmt:=top 62
theorem Rc:aP ["row","upper","column","divisor","own","other"] ["row","upper","column","divisor"] (aI qe0):=sK9
theorem dH:(["place","row","upper","rank","divisor","column"]:List Str).Nodup:=by decide +kernel
abbrev wO:Stmt:=top 61
theorem zU:aP ["rows","rank","column","divisor","upper"] ["rows","rank","column","divisor"] (aI wO):=sK9
abbrev Qy:Stmt:=top 59
theorem iH:aP ["rows","width","rank","pivot","sign","column","place","lifted"] ["rows","width"] (aI Qy):=sK9
theorem tQ:(["row","side"]:List Str).Nodup:=by decide +kernel
theorem tW:(["row","many","end"]:List Str).Nodup:=by decide +kernel
abbrev Ce:Stmt:=top 54
theorem rD:aP ["matrix","right","many","rows","end"] ["matrix","right"] (aI Ce):=sK9
abbrev Ig:Stmt:=top 28
theorem uF:aP ["some","so_far","one"] ["some"] (aI Ig):=sK9
def fX (ds:List RD)(s:Stp):Mq.Q2:=tN (red s.2 1) (ds.getD s.1 (.pc,0,0,(0,1))).2.2.2
inductive Fc (CN:Addr) (K:Frag) (vs:List V) (H:Hp) (Q:VK) (E:XK):Prop where
 |mk (n l b:Addr) (m:Int) (ds:List RD) (xs:List V) (st:List Stp):vs=[.ref n,.ref b]->dW CN K H n l m ds->ds.length<=100->(∀d∈ds,Mq.Low d.2.2.2/\Mq.Bd 30 d.2.2.2)->SqL K H b xs->Sts K H xs st->st.length<=21->(∀s∈st,s.1 < ds.length/\(s.2=1\/s.2=-1))->(∀a H',aS H H'->Fq K H' a (tot (st.map (fX ds)))->Q (.ref a) H')->Fc CN K vs H Q E
theorem Xu {w:Int}(h:w=1\/w=-1):red w 1=(w,1)/\Mq.Low (w,1)/\Mq.Bd 1 (w,1):=by
 rcases h with rfl | rfl
 ·exact⟨∅,⟨∅,∅⟩,⟨show (1:Nat) < 2 ^ 1 by decide,show (1:Nat) < 2 ^ 1 by decide⟩⟩
 ·exact⟨∅,⟨∅,∅⟩,⟨show (1:Nat) < 2 ^ 1 by decide,show (1:Nat) < 2 ^ 1 by decide⟩⟩
theorem Kn (hK:∀d∈ds,Mq.Low d.2.2.2/\Mq.Bd 30 d.2.2.2)(h:s.1 < ds.length/\(s.2=1\/s.2=-1)):Mq.Low (fX ds s)/\Mq.Bd 40 (fX ds s):=by
 obtain⟨e,l,b⟩:=Xu h.2;have hd:ds[s.1]?=some ds[s.1]:=getElem?_eq_getElem h.1;have eg:ds.getD s.1 (.pc,0,0,(0,1))=ds[s.1]:=by rw[getD_eq_getElem?_getD,hd];rfl
 obtain⟨l2,b2⟩:=hK _ (mem_of_getElem? hd);unfold fX;rw[e,eg];exact⟨Mq.zO l.pos l2.pos,(Mq.Nx b b2 l.pos l2.pos).mono ()⟩
theorem Es (hK:∀d∈ds,Mq.Low d.2.2.2/\Mq.Bd 30 d.2.2.2):∀{st:List Stp},(∀s∈st,s.1 < ds.length/\(s.2=1\/s.2=-1))->Mq.Wt (st.map (fX ds)) (41*st.length)
 | [],_=>.nil
 |s :: st,h=>by
  have ih:=Es hK (st:=st) λx hx=>h x (mem_cons_of_mem _ hx);have:=Mq.Wt.cons (Kn hK (h s ⋯)).2 ih;rw[length_cons,show 41*(st.length+1)=40+1+41*st.length by lia];exact this
theorem Lp {st:List Stp}(hK:∀d∈ds,Mq.Low d.2.2.2/\Mq.Bd 30 d.2.2.2)(h:∀s∈st,s.1 < ds.length/\(s.2=1\/s.2=-1)):Mq.Pos (st.map (fX ds)):=λp hp=>by
 obtain⟨s,hs,rfl⟩:=mem_map.mp hp;exact(Kn hK (h s hs)).1.pos
theorem iW:(["number","way","rows"]:List Str).Nodup:=by decide +kernel
abbrev Pg:Stmt:=top 37
theorem Ry:aP ["net","ring","rows"] ["net","ring"] (aI Pg):=sK9
inductive Be (K:Frag) (C:Addr) (vs:List V) (H:Hp) (Q:VK) (E:XK):Prop where
 |mk (x l:Addr) (xs:List V):vs=[.ref x,.ref l]->H x=some (gK x (.ref C) none)->SqL K H l xs->xs.length<=1000->(∀dx l2 H',H dx=none->H l2=none->dx≠x->l2≠x->(∀b o,H b=some o->b≠x->H' b=some o)->H' x=some (gK x (.ref C) (some dx))->H' dx=some (.xd [("points",.ref l2)])->H' l2=some (.lst xs)->Q .non H')->Be K C vs H Q E
abbrev Gq:Stmt:=fI (top 14) 0
theorem Xd:aP ["self","points"] ["self","points"] (aI Gq):=sK9
inductive wT (K:Frag) (C:Addr) (vs:List V) (H:Hp) (Q:VK) (E:XK):Prop where
 |mk (x l t:Addr) (xs:List V):vs=[.ref x,.ref l,.ref t]->H x=some (gK x (.ref C) none)->SqL K H l xs->xs.length<=1000->(∀dx l2 H',H dx=none->H l2=none->dx≠x->l2≠x->(∀b o,H b=some o->b≠x->H' b=some o)->H' x=some (gK x (.ref C) (some dx))->H' dx=some (.xd [("ring",.ref l2),("total",.ref t)])->H' l2=some (.lst xs)->Q .non H')->wT K C vs H Q E
abbrev Cc:Stmt:=fI (top 13) 0
theorem Qp:aP ["self","ring","total"] ["self","ring","total"] (aI Cc):=sK9
theorem oF (s:aS H H1)(hx:H1 x=none)(keep:∀b u,(upd H1 x o) b=some u->b≠x->H4 b=some u):aS H (pA H4 x):=λb u e=>by
 have nb:b≠x:=λz=>by rw[z,s.free hx] at e;cases e
 rw[iC nb];exact keep b u (by rw[aR nb];exact s b u e) nb
abbrev wHo:Kd->Bool:=λk=>inV (.str k.wd) [.str "hold"]
abbrev rgH (ds:List RD):List (Nat × List Stp):=(bY wHo (skl ds) ds.length).2
def ERg (CG:Addr)(K:Frag)(H:Hp)(E:XK)(ds:List RD)(st:List Stp):Prop:=∀dx l t us H',aS H H'->H' dx=some (.xd [("ring",.ref l),("total",.ref t)])->H l=none->H' l=some (.lst us)->Sts K H' us st->Fq K H' t (tot (st.map (fX ds)))->E (.ref CG) (some dx) H'
def EFl (CF:Addr)(H:Hp)(E:XK)(ps:List Int):Prop:=∀dx l H',aS H H'->H' dx=some (.xd [("points",.ref l)])->H l=none->H' l=some (.lst (ps.map V.int))->E (.ref CF) (some dx) H'
structure Rfs (CG CF:Addr) (K:Frag) (H:Hp) (E:XK) (m:Nat) (ds:List RD):Prop where
 rg:∀c r,rgH ds=c :: r->ERg CG K H E ds c.2
 fl:rgH ds=[]->eU m ds≠[]->EFl CF H E (eU m ds)
theorem Rfs.same (r:Rfs CG CF K H E m ds)(s:aS H H1):Rfs CG CF K H1 E m ds:=⟨λc rr e dx l t us H' s' a b=>r.rg c rr e dx l t us H' (s.trans s') a (s.free b),λa b dx l H' s' c d=>r.fl a b dx l H' (s.trans s') c (s.free d)⟩
inductive Fv (CN CG CF:Addr) (K:Frag) (vs:List V) (H:Hp) (Q:VK) (E:XK):Prop where
 |mk (n l:Addr) (m:Nat) (ds:List RD):vs=[.ref n]->dW CN K H n l (m:Int) ds->(∀d∈ds,dF (m:Int) d.2.1 d.2.2.1)->1<=m->m<=20->ds.length<=40->(∀d∈ds,Mq.Low d.2.2.2/\Mq.Bd 30 d.2.2.2)->Rfs CG CF K H E m ds->(rgH ds=[]->eU m ds=[]->∀H',aS H H'->Q .non H')->Fv CN CG CF K vs H Q E
abbrev qc7:Stmt:=top 71
theorem Sj:aP ["net","held","points"] ["net"] (aI qc7):=sK9
def jU (K:Frag)(H:Hp)(x:V):Prop:=(∃i,x=.int i)\/NW K H x
theorem jU.same (s:aS H H')(h:jU K H x):jU K H' x:=h.imp id λ⟨t,a,b⟩=>⟨t,a.same s,b⟩
def cV (m:Int):V->Bool
 | .int i=>decide (0<=i/\i < m)
 |_=>false
theorem qj8 (h:NW K H x)(m:Int):cV m x=false:=by
 obtain⟨t,a,b⟩:=h
 cases x with
 |int i=>cases a;rcases b with b | b | b | b | b<;>(injection b with b;exact absurd b ∅)
 |_=>rfl
inductive Ss (K:Frag) (vs:List V) (H:Hp) (Q:VK) (E:XK):Prop where
 |mk (x:V) (b:Int):vs=[x,.int b]->jU K H x->Q (.bl (cV b x)) H->Ss K vs H Q E
inductive wX (K:Frag) (CP:Addr) (vs:List V) (H:Hp) (Q:VK) (E:XK):Prop where
 |mk (l:Addr) (xs:List V) (m:Int):vs=[.ref l,.int m]->SqL K H l xs->xs.length<=100->(∀x∈xs,jU K H x)->(xs.all (cV m)=true->∀H',aS H H'->Q .non H')->(xs.all (cV m)=false->∀H',aS H H'->E (.ref CP) none H')->wX K CP vs H Q E
theorem Zm (xs:List V)(k:Nat):mB xs none (some (k:Int))=xs.take k:=by
 unfold mB;have h1:HT.sIx xs.length 0 none=0:=rfl;have h2:HT.sIx xs.length xs.length (some (k:Int))=min k xs.length:=by simp[HT.sIx];lia
 rw[h1,h2,drop_zero,Nat.sub_zero,take_eq_take_iff];lia
theorem Jj:∀{us:List V} {X:List (List Mq.Q2)},Fms K H0 H us X->(∀x∈us,x≠.ref D)->Fmd K H0 D H us X
 | [],[],_,_=>.nil
 | [],_ :: _,h,_=>by have:=h.l;simp at this
 |_ :: _,[],h,_=>by have:=h.l;simp at this
 |x :: us,ps :: X,h,n=>by
  obtain⟨a,xs,rfl,n0,h1,h2⟩:=h.r 0 x ps rfl rfl;exact .cons n0 (λz=>n _ (mem_cons_self ..) (by rw[z])) h1 h2 (Jj ⟨by have:=h.l;simpa using this,λi y qs e1 e2=>h.r (i+1) y qs (by simpa using e1) (by simpa using e2)⟩ λy hy=>n y (mem_cons_of_mem _ hy))
theorem uT (k:Kd):wHo k=true↔k=.ho:=by
 cases k
 ·exact⟨λh=>absurd h ∅,λh=>by cases h⟩
 ·exact⟨λh=>absurd h ∅,λh=>by cases h⟩
 ·exact⟨λ_=>rfl,λ_=>by decide +kernel⟩
theorem Wi (hx:H x=none)(hd:H dx=none):aS H (upd (upd H dx (.own x)) x (.ins C dx [])):=λb o h=>by
 have n1:b≠x:=λz=>by rw[z,hx] at h;cases h
 have n2:b≠dx:=λz=>by rw[z,hd] at h;cases h
 rw[aR n1,aR n2];exact h
inductive Fx (CN:Addr) (K:Frag) (vs:List V) (H:Hp) (Q:VK) (E:XK):Prop where
 |mk (n l g r D:Addr) (H0:Hp) (m b N:Nat) (L:Int) (ds:List RD) (us ys:List V) (X:List (List Mq.Q2)) (Y qs:List Mq.Q2):vs=[.ref n,.ref g,.ref r]->dW CN K H n l (m:Int) ds->SqL K H g us->Fmd K H0 D H us X->Ct m ds N X Y->EqB m b L ds->SqL K H r ys->Fqs K H ys qs->qs.length=X.length->(∀p∈qs,Q01 p)->(∀t zs ps H',H t=none->aS H H'->H' t=some (.lst zs)->Fqs K H' zs (lvS m ps)->Zn X qs ps->Ovr (bw b (wd m ds)) ps->Q (.ref t) H')->Fx CN K vs H Q E
inductive Fu (CN:Addr) (K:Frag) (vs:List V) (H:Hp) (Q:VK) (E:XK):Prop where
 |mk (n l:Addr) (m b:Nat) (kb:Nat->Nat) (L:Int) (ds:List RD) (s g:Nat):vs=[.ref n,.int (s:Int),.int (g:Int)]->Fp CN K H n l m b kb L ds->s < m->g < m->(∀t zs hp v H',H t=none->aS H H'->H' t=some (.lst zs)->Fqs K H' zs hp->hp.length=m->mL hp->Ovr (bw b (wd m ds)) hp->qr0 m ds g s v->(∀p,p < m->Mq.val (hp.getD p (0,1))=v p)->Q (.ref t) H')->Fu CN K vs H Q E
abbrev Zz:Stmt:=top 75
theorem ql1:aP ["net","matrix","right"] ["net","matrix","right"] (aI Zz):=sK9
theorem qo3 (s g x:Nat):- dl s g x*Mq.val (1,1)=un g x - un s x:=by
 rw[Oh];unfold dl un
 by_cases a:s=x<;>by_cases b:g=x
 ·rw[if_pos a,if_pos b,if_pos b.symm,if_pos a.symm];grind
 ·rw[if_pos a,if_neg b,if_neg (λz=>b z.symm),if_pos a.symm];grind
 ·rw[if_neg a,if_pos b,if_pos b.symm,if_neg (λz=>a z.symm)];grind
 ·rw[if_neg a,if_neg b,if_neg (λz=>b z.symm),if_neg (λz=>a z.symm)];grind
theorem qe7 (g s x:Nat):∃a:Int,a.natAbs<=1/\un g x - un s x=(a:Rat) / ((1:Int):Rat):=by
 have one:((1:Int):Rat)=1:=rfl;unfold un
 by_cases a:x=g<;>by_cases b:x=s
 ·exact⟨0,∅,by rw[if_pos a,if_pos b,one,show ((0:Int):Rat)=0 by rfl];grind⟩
 ·exact⟨1,∅,by rw[if_pos a,if_neg b,one];grind⟩
 ·exact⟨-1,∅,by rw[if_neg a,if_pos b,one,show ((-1:Int):Rat)=-1 by rfl];grind⟩
 ·exact⟨0,∅,by rw[if_neg a,if_neg b,one,show ((0:Int):Rat)=0 by rfl];grind⟩
abbrev qf0:Stmt:=top 74
theorem Pa:aP ["net","start","goal","matrix","right"] ["net","start","goal"] (aI qf0):=sK9
inductive wH (K:Frag) (C:Addr) (vs:List V) (H:Hp) (Q:VK) (E:XK):Prop where
 |mk (x:Addr) (k:Int):vs=[.ref x,.int k]->H x=some (gK x (.ref C) none)->(∀dx H',H dx=none->dx≠x->(∀b o,H b=some o->b≠x->H' b=some o)->H' x=some (gK x (.ref C) (some dx))->H' dx=some (.xd [("number",.int k)])->Q .non H')->wH K C vs H Q E
abbrev Bq:Stmt:=fI (top 15) 0
theorem So:aP ["self","number"] ["self","number"] (aI Bq):=sK9
def EHd (CH:Addr)(H:Hp)(E:XK)(ds:List RD):Prop:=∀(k:Nat) (d:RD),ds[k]?=some d->d.1=.ho->(∀(j:Nat) (e:RD),j < k->ds[j]?=some e->e.1≠.ho)->∀dx H',aS H H'->H dx=none->H' dx=some (.xd [("number",.int (k:Int))])->E (.ref CH) (some dx) H'
theorem EHd.same (h:EHd CH H E ds)(s:aS H H1):EHd CH H1 E ds:=λk d e hk f dx H' s' n x=>h k d e hk f dx H' (s.trans s') (s.free n) x
def tX (ds:List RD):Prop:=∀d∈ds,d.1≠.ho
inductive vE (CN CH:Addr) (K:Frag) (vs:List V) (H:Hp) (Q:VK) (E:XK):Prop where
 |mk (n l:Addr) (m:Int) (ds:List RD):vs=[.ref n]->dW CN K H n l m ds->ds.length<=100->EHd CH H E ds->(tX ds->∀H',aS H H'->Q .non H')->vE CN CH K vs H Q E
abbrev Yt:Stmt:=top 52
theorem Qz:aP ["net","number","row"] ["net"] (aI Yt):=sK9
inductive Gw (CN CP CG CF:Addr) (K:Frag) (vs:List V) (H:Hp) (Q:VK) (E:XK):Prop where
 |mk (n l:Addr) (x y:V) (m:Nat) (ds:List RD):vs=[.ref n,x,y]->dW CN K H n l (m:Int) ds->(∀d∈ds,dF (m:Int) d.2.1 d.2.2.1)->1<=m->m<=20->ds.length<=40->(∀d∈ds,Mq.Low d.2.2.2/\Mq.Bd 30 d.2.2.2)->jU K H x->jU K H y->((cV (m:Int) x && cV (m:Int) y)=false->∀H',aS H H'->E (.ref CP) none H')->((cV (m:Int) x && cV (m:Int) y)=true->Rfs CG CF K H E m ds/\(rgH ds=[]->eU m ds=[]->(∃(b:Nat) (kb:Nat->Nat) (L:Int),Fp CN K H n l m b kb L ds)/\∀v H',aS H H'->Q v H'))->Gw CN CP CG CF K vs H Q E
abbrev Yx:Stmt:=top 73
theorem Yj:aP ["net","a","b","heights"] ["net","a","b"] (aI Yx):=sK9
theorem Vj (F : aW K "between" "between" Yx dV f fd)(NTx : NT K mg CN)(GMa : aK P w K mg base CX0 1 gMa gdMa ["self"] (jF CN K))(bMa : aL K gdMa ["self"] [])(mMa : gE K CN "many" gMa)(G1 : aK P w K mg base (CX1 P w) 3 g1 gd1 ["some", "many"] (wX K CP))(b1 : aL K gd1 ["some", "many"] [])(k1 : W.keepIn K (.ref g1) = true)(m1 : mg "refuse_points" = some (.ref g1))(G2 : aK P w K mg base (CX1 P w) 7 g2 gd2 ["net"] (Fv CN CG CF K))(b2 : aL K gd2 ["net"] [])(k2 : W.keepIn K (.ref g2) = true)(m2 : mg "refuse_unanswered" = some (.ref g2))(G3 : aK P w K mg base CX0 8 g3 gd3 ["net", "start", "goal"] (Fu CN K))(b3 : aL K gd3 ["net", "start", "goal"] [])(k3 : W.keepIn K (.ref g3) = true)(m3 : mg "pushed_heights" = some (.ref g3))(G4 : aK P w K mg base CX0 3 g4 gd4 ["one", "other"] (iG K Mq.minus))(b4 : aL K gd4 ["one", "other"] [])(k4 : W.keepIn K (.ref g4) = true)(m4 : mg "minus" = some (.ref g4)):
    aK P w K mg base (CX1 P w) 9 f fd ["net", "a", "b"] (Gw CN CP CG CF K) := by
  refine F.okX Yj (λvs H Q E h => ?_) (λcdv A outer s H vs Q E hr h => ?_)
  · obtain ⟨n, l, x, y, m, ds, rfl, nt, pt, hm1, m20, h40, hz, hx, hy, q1, q2⟩ := h
    rfl
  obtain ⟨n, l, x, y, m, ds, rfl, nt, pt, hm1, m20, h40, hz, hx, hy, q1, q2⟩ := h;have r1 := hr.mono (show 1 <= 8 by lia);have r3 := hr.mono (show 3 <= 8 by lia);have r7 := hr.mono (show 7 <= 8 by lia);refine ⟨_, (aD (bS (aH G1 r3 rfl m1 k1 b1 .nil (dA cK dC) (aA (bU (aA (pv 1) (aA (pv 2) aC))) (aA (dE (pv 0) NTx.cl mMa GMa r1 bMa .nil aM) aC))))
    (aD (bS (aH G2 r7 rfl m2 k2 b2 .nil (dA cK dC) (aA (pv 0) aC)))
    (aD (aQ (i := 3) Yj.nd rfl (Or.inl rfl) (aH G3 hr rfl m3 k3 b3 .nil aM (aA (pv 0) (aA (pv 2) (aA (pv 1) aC)))))
    (aF (aV (aH G4 r3 rfl m4 k4 b4 .nil aM (aA (aT bM (pv 3) (pv 1) (λ_ _ => rfl)) (aA (aT bM (pv 3) (pv 2) (λ_ _ => rfl)) aC)))))))), ?_⟩
  obtain ⟨dn, hn⟩ := nt.ob;refine ⟨_, rfl, _, rfl, by show 2 <= sizeLine; decide, λL hL => ?_⟩;have s1 := aE hL (.lst [x, y]);have e1 : upd H L (.lst [x, y]) L = some (.lst [x, y]) := aB;generalize upd H L (.lst [x, y]) = H1 at s1 e1 ⊢;refine ⟨_, rfl, n, dn, _, rfl, s1 _ _ hn, cY _ _ ∅ ∅, n, l, _, ds, rfl, nt.same s1, ?_⟩;have al : [x, y].all (cV (m : Int)) = (cV (m : Int) x && cV (m : Int) y) := by
    show (cV (m : Int) x && (cV (m : Int) y && true)) = _;rw [Bool.and_true]
  refine ⟨L, [x, y], (m : Int), rfl, SqL.of e1, by show 2 <= 100; decide, λz hz => ?_, λe H2 s2 => ?_, λe H2 s2 => q1 (al.symm.trans e) H2 (s1.trans s2)⟩
  · rcases mem_cons.mp hz with rfl | hz
    · exact hx.same s1
    · rw [mem_singleton.mp hz]; exact hy.same s1
  have e := al.symm.trans e;obtain ⟨rf, q3⟩ := q2 e;obtain ⟨ex, ey⟩ := Bool.and_eq_true_iff.mp e;have s02 := s1.trans s2;refine ⟨_, rfl, n, l, m, ds, rfl, nt.same s02, pt, hm1, m20, h40, hz, rf.same s02, λhR hF H3 s3 => ?_⟩;obtain ⟨⟨b, kb, L0, NB⟩, q4⟩ := q3 hR hF;have s03 := s02.trans s3;obtain ⟨u, rfl, ul⟩ : ∃ u : Nat, x = .int (u : Int) /\ u < m := by
    cases x with
    | int i => have ex : decide (0 <= i /\ i < (m : Int)) = true := ex
               have := of_decide_eq_true ex;exact ⟨i.toNat, by rw [Int.toNat_of_nonneg this.1], by lia⟩
    | _ => cases ex
  obtain ⟨v, rfl, vl⟩ : ∃ v : Nat, y = .int (v : Int) /\ v < m := by
    cases y with
    | int i => have ey : decide (0 <= i /\ i < (m : Int)) = true := ey
               have := of_decide_eq_true ey;exact ⟨i.toNat, by rw [Int.toNat_of_nonneg this.1], by lia⟩
    | _ => cases ey
  refine ⟨_, rfl, _, rfl, _, rfl, n, l, m, b, kb, L0, ds, v, u, rfl, NB.same s03, vl, ul, λt zs hp vv H4 nt4 s4 e4 F4 lh lo OV SB hv => ?_⟩;have hb := NB.eb.hbw;have b40 : ∀ p ∈ hp, Mq.Low p /\ Mq.Bd 4000 p := λp hp' => ⟨lo p hp', (Ovr.minus OV lo hp' hp').2.1.mono hb⟩
  obtain ⟨tu, eu, fu⟩ := F4.at (wY (ps := hp) (j := u) ());obtain ⟨tv, ev, fv⟩ := F4.at (wY (ps := hp) (j := v) ());obtain ⟨lu, bu⟩ := b40 _ (mem_of_getElem? (wY (ps := hp) (j := u) ()));obtain ⟨lv, bv⟩ := b40 _ (mem_of_getElem? (wY (ps := hp) (j := v) ()));refine ⟨_, rfl, _, rfl, t, zs, _, _, rfl, rfl, SqL.of e4, bQ eu, _, rfl, _, rfl, t, zs, _, _, rfl, rfl, SqL.of e4, bQ ev, tu, tv, _, _, 4000, 4000, rfl, fu, fv, lu.pos, lv.pos, bu, bv, by lia, λr H5 s5 e5 => ?_⟩;exact q4 _ H5 (s03.trans (s4.trans s5))
theorem tE:(["point","reached"]:List Str).Nodup:=by decide +kernel
def qa0:Sp:=λ_ _ _ _=>False
inductive Cq (CN CP:Addr) (K:Frag) (vs:List V) (H:Hp) (Q:VK) (E:XK):Prop where
 |mk (n l:Addr) (x:V) (m:Int) (ds:List RD):vs=[.ref n,x]->dW CN K H n l m ds->jU K H x->cV m x=false->(∀H',aS H H'->E (.ref CP) none H')->Cq CN CP K vs H Q E
inductive xZ (CN CP:Addr) (K:Frag) (vs:List V) (H:Hp) (Q:VK) (E:XK):Prop where
 |mk (n l:Addr) (x y:V) (m:Int) (ds:List RD):vs=[.ref n,x,y]->dW CN K H n l m ds->jU K H x->jU K H y->(cV m x && cV m y)=false->(∀H',aS H H'->E (.ref CP) none H')->xZ CN CP K vs H Q E
abbrev Qe:Stmt:=top 77
theorem Rk:aP ["net","a","reached"] ["net","a"] (aI Qe):=sK9
abbrev Gk:Stmt:=top 78
theorem Jz:aP ["net","a","b","reached"] ["net","a","b"] (aI Gk):=sK9
inductive Ci (CN:Addr) (K:Frag) (vs:List V) (H:Hp) (Q:VK) (E:XK):Prop where
 |mk (n l:Addr) (m:Int) (ds:List RD):vs=[.ref n]->dW CN K H n l m ds->ds.length<=100->(∀l' H',aS H H'->H l'=none->H' l'=some (.lst ((zi (pcs ds)).map V.int))->Q (.ref l') H')->Ci CN K vs H Q E
def yK (ds:List RD)(i:Nat):List Nat:=(List.range i).filter (isP ds)
theorem El (h:isP ds i=true):yK ds (i+1)=yK ds i++[i]:=by unfold yK;rw[range_succ,filter_append,filter_cons_of_pos h];rfl
theorem Ja (h:¬isP ds i=true):yK ds (i+1)=yK ds i:=by unfold yK;rw[range_succ,filter_append,filter_cons_of_neg h,filter_nil,append_nil]
theorem Eo (ds:List RD)(i:Nat):(yK ds i).length<=i:=by unfold yK;refine Nat.le_trans (length_filter_le _ _) ?_;simp
inductive yA (K:Frag) (vs:List V) (H:Hp) (Q:VK) (E:XK):Prop where
 |mk (n:Nat) (a:Addr) (ns:List Nat):vs=[.int (n:Int),.ref a]->SqL K H a ((zi ns).map V.int)->Q (.bl (iM n ns)) H->yA K vs H Q E
theorem oW:(["number","row"]:List Str).Nodup:=by decide +kernel
abbrev Rf:Stmt:=top 88
theorem Yv:aP ["net"] ["net"] (aI Rf):=sK9
abbrev Zj:Stmt:=top 91
theorem qp2:aP ["number","numbers"] ["number","numbers"] (aI Zj):=sK9
structure NtP (CN:Addr) (K:Frag) (H:Hp) (n l:Addr) (m:Nat) (ds:List RD):Prop where
 nt:dW CN K H n l (m:Int) ds
 pt:∀d∈ds,dF (m:Int) d.2.1 d.2.2.1
 m1:1<=m
 m2:m<=20
 h:ds.length<=40
theorem NtP.same (s:aS H H')(h:NtP CN K H n l m ds):NtP CN K H' n l m ds:=⟨h.nt.same s,h.pt,h.m1,h.m2,h.h⟩
inductive xJ (CN:Addr) (K:Frag) (vs:List V) (H:Hp) (Q:VK) (E:XK):Prop where
 |mk (n l f D0:Addr) (m:Nat) (ds:List RD) (zs:List V) (F:List (List Nat × List Int)) (H0:Hp):vs=[.ref n,.ref f]->NtP CN K H n l m ds->SqL K H f zs->FsH K H0 D0 H zs F->(∀x∈F,x.2.length=m/\x.1.length<=50)->F.length<=100000->(∀f' zs' H',aS H H'->H' f'=some (.lst zs')->FsH K H f' H' zs' (F.flatMap (nV (sgF ds) (pcs ds)))->Q (.ref f') H')->xJ CN K vs H Q E
theorem uG (h:n<=5000000):n < sizeLine:=by rw[sizeLine_eq];lia
theorem Jt:∀l:List (List Nat × List Int),(l.flatMap (nV sg ps)).length<=l.length*ps.length
 | []=>by simp
 |x :: l=>by
  rw[flatMap_cons,List.length_append,length_cons,Nat.succ_mul];have:(nV sg ps x).length<=ps.length:=by unfold nV;rw[length_map];exact length_filter_le _ _
  have:=Jt (sg:=sg) (ps:=ps) l;lia
def oX (sg:Nat->Nat × Nat)(ps:List Nat)(x:List Nat × List Int)(j:Nat):List (List Nat × List Int):=nV sg (ps.take j) x
theorem Mr (hn:ps[j]?=some n)(h:(iM n x.1 && okJ sg x.2 n)=true):oX sg ps x (j+1)=oX sg ps x j++[(x.1++[n],jnN sg x.2 n)]:=by
 unfold oX nV;rw[take_add_one,hn];show ((ps.take j++[n]).filter _).map _=_;rw[filter_append,map_append,filter_cons_of_pos (p:=λn=>iM n x.1 && okJ sg x.2 n) h];rfl
theorem De (hn:ps[j]?=some n)(h:¬(iM n x.1 && okJ sg x.2 n)=true):oX sg ps x (j+1)=oX sg ps x j:=by
 unfold oX nV;rw[take_add_one,hn];show ((ps.take j++[n]).filter _).map _=_;rw[filter_append,map_append,filter_cons_of_neg (p:=λn=>iM n x.1 && okJ sg x.2 n) h];simp
abbrev qd8:Stmt:=top 90
theorem vO:aP ["net","found","rows","pieces","larger","numbers","marks","number"] ["net","found"] (aI qd8):=sK9
inductive oM (CN:Addr) (K:Frag) (vs:List V) (H:Hp) (Q:VK) (E:XK):Prop where
 |mk (n l:Addr) (m t:Nat) (s:Int) (ds:List RD):vs=[.ref n,.int s]->t=s.toNat->-10<=s->s<=4->NtP CN K H n l m ds->(pcs ds).length<=12->(∀f' zs D H',aS H H'->H' f'=some (.lst zs)->FsH K H D H' zs (pH (sgF ds) (pcs ds) m t)->Q (.ref f') H')->oM CN K vs H Q E
theorem Ba (hp:ps.length<=12)(ht:t<=4):(pH sg ps m t).length<=20736:=
 Nat.le_trans (Ee sg ps m t) (Nat.le_trans (Nat.pow_le_pow_left hp t) (Nat.le_trans (Nat.pow_le_pow_right ∅ ht) ∅))
abbrev Si:Stmt:=top 89
theorem Ao:aP ["net","size","found","turn"] ["net","size"] (aI Si):=sK9
def ETm (CT:Addr)(H:Hp)(E:XK)(ds:List RD):Prop:=12 < (pcs ds).length->∀H',aS H H'->E (.ref CT) none H'
theorem ETm.same (h:ETm CT H E ds)(s:aS H H1):ETm CT H1 E ds:=λc H' s'=>h c H' (s.trans s')
inductive Ah (CN CT:Addr) (K:Frag) (vs:List V) (H:Hp) (Q:VK) (E:XK):Prop where
 |mk (n l:Addr) (m:Int) (ds:List RD):vs=[.ref n]->dW CN K H n l m ds->ds.length<=100->ETm CT H E ds->((pcs ds).length<=12->∀H',aS H H'->Q .non H')->Ah CN CT K vs H Q E
abbrev qb1:Stmt:=top 87
theorem qo9:aP ["net"] ["net"] (aI qb1):=sK9
inductive wD (CN CH CT:Addr) (K:Frag) (vs:List V) (H:Hp) (Q:VK) (E:XK):Prop where
 |mk (n l:Addr) (m:Nat) (ds:List RD):vs=[.ref n]->NtP CN K H n l m ds->m<=5->EHd CH H E ds->(tX ds->ETm CT H E ds/\((pcs ds).length<=12->∀v H',aS H H'->Q v H'))->wD CN CH CT K vs H Q E
theorem Na:(["forest"]:List Str).Nodup:=by decide +kernel
abbrev Ft:Stmt:=top 84
theorem Xb:aP ["net"] ["net"] (aI Ft):=sK9
inductive Bx (CN CP CH CT:Addr) (K:Frag) (vs:List V) (H:Hp) (Q:VK) (E:XK):Prop where
 |mk (n l:Addr) (x y:V) (m:Nat) (ds:List RD):vs=[.ref n,x,y]->NtP CN K H n l m ds->m<=5->jU K H x->jU K H y->((cV (m:Int) x && cV (m:Int) y)=false->∀H',aS H H'->E (.ref CP) none H')->((cV (m:Int) x && cV (m:Int) y)=true->EHd CH H E ds/\(tX ds->ETm CT H E ds/\((pcs ds).length<=12->∀v H',aS H H'->Q v H')))->Bx CN CP CH CT K vs H Q E
theorem Wv (h:fo∈pH (sgF ds) (pcs ds) m t):fo.2.length=m:=by
 rw[(Ic h).e,Rp]
theorem yL:(["forest","b","a"]:List Str).Nodup:=by decide +kernel
abbrev Tx:Stmt:=top 85
theorem qi0:aP ["net","a","b"] ["net","a","b"] (aI Tx):=sK9
theorem Sg (F : aW K "partings" "partings" Tx dV f fd)(NTx : NT K mg CN)(GMa : aK P w K mg base CX0 1 gMa gdMa ["self"] (jF CN K))(bMa : aL K gdMa ["self"] [])(mMa : gE K CN "many" gMa)(G1 : aK P w K mg base (CX1 P w) 5 g1 gd1 ["net"] (vE CN CH K))(b1 : aL K gd1 ["net"] [])(k1 : W.keepIn K (.ref g1) = true)(m1 : mg "refuse_holds" = some (.ref g1))(G2 : aK P w K mg base (CX1 P w) 6 g2 gd2 ["net"] (Ah CN CT K))(b2 : aL K gd2 ["net"] [])(k2 : W.keepIn K (.ref g2) = true)(m2 : mg "refuse_many_pieces" = some (.ref g2))(G3 : aK P w K mg base CX0 7 g3 gd3 ["net", "size"] (oM CN K))(b3 : aL K gd3 ["net", "size"] [])(k3 : W.keepIn K (.ref g3) = true)(m3 : mg "forests" = some (.ref g3))(G4 : aK P w K mg base (CX1 P w) 3 g4 gd4 ["some", "many"] (wX K CP))(b4 : aL K gd4 ["some", "many"] [])(k4 : W.keepIn K (.ref g4) = true)(m4 : mg "refuse_points" = some (.ref g4)):
    aK P w K mg base (CX1 P w) 8 f fd ["net", "a", "b"] (Bx CN CP CH CT K) := by
  refine F.okX qi0 (λvs H Q E h => ?_) (λcdv A outer s H vs Q E hr h => ?_)
  · obtain ⟨n, l, x, y, m, ds, rfl, NP, hm5, hx, hy, q1, q2⟩ := h
    rfl
  obtain ⟨n, l, x, y, m, ds, rfl, NP, hm5, hx, hy, q1, q2⟩ := h;have r1 := hr.mono (show 1 <= 7 by lia);have r3 := hr.mono (show 3 <= 7 by lia);have r5 := hr.mono (show 5 <= 7 by lia);have r6 := hr.mono (show 6 <= 7 by lia);have h40 := NP.h;have hm1 := NP.m1;refine ⟨_, (aD (bS (aH G4 r3 rfl m4 k4 b4 .nil (dA cK dC) (aA (bU (aA (pv 1) (aA (pv 2) aC))) (aA (dE (pv 0) NTx.cl mMa GMa r1 bMa .nil aM) aC))))
    (aD (bS (aH G1 r5 rfl m1 k1 b1 .nil (dA cK dC) (aA (pv 0) aC)))
    (aD (bS (aH G2 r6 rfl m2 k2 b2 .nil (dA cK dC) (aA (pv 0) aC)))
    (aF (aV (dZ (nl := 1) (fr := [2, 1]) (Nc := ["forest", "b", "a"]) (cl := [("b", s.heap.objs.size + 2), ("a", s.heap.objs.size + 1)]) rfl ⟨rfl, rfl, by decide +kernel, by decide +kernel, (fC rfl (fC rfl (qX))), dR rfl, rfl, λi n h => match i, h with | 0, h => by cases h; exact ⟨2, rfl, rfl, rfl, rfl, .inl rfl⟩ | 1, h => by cases h; exact ⟨1, rfl, rfl, rfl, rfl, .inl rfl⟩ | k + 2, h => by rw [show 1 + (k + 2) = k + 3 by lia] at h; cases h⟩
        (cE (aH G3 hr rfl m3 k3 b3 .nil aM (aA (pv 0) (aA (bB lU (dE (pv 0) NTx.cl mMa GMa r1 bMa .nil aM) aG) aC)))) (λC s3 H3 fp pins => (aZ (i := 0) yL rfl (Or.inl rfl))) (λC s3 H3 fp pins => (jN (aY iX (aT (iE (K := K) rfl) (aT (gP (K := K) rfl) (pv 0) aG (λ_ _ => rfl)) (pv 2) (λ_ _ => rfl)) (aT (iE (K := K) rfl) (aT (gP (K := K) rfl) (pv 0) aG (λ_ _ => rfl)) (pv 1) (λ_ _ => rfl)) (bA _))))
        (λC s3 H3 fp pins => (aT (gP (K := K) rfl) (pv 0) aG (λ_ _ => rfl))))))))), ?_⟩
  refine ⟨_, rfl, _, rfl, by show 2 <= sizeLine; decide, λpp hpp => ?_⟩;have s0 := aE hpp (.lst [x, y]);have e0 : upd H pp (.lst [x, y]) pp = some (.lst [x, y]) := aB;generalize upd H pp (.lst [x, y]) = H0 at s0 e0 ⊢;obtain ⟨dx, hn⟩ := (NP.nt.same s0).ob;refine ⟨_, rfl, n, dx, _, rfl, hn, cY _ _ ∅ ∅, n, l, _, ds, rfl, NP.nt.same s0, ?_⟩;have al : [x, y].all (cV (m : Int)) = (cV (m : Int) x && cV (m : Int) y) := by
    show (cV (m : Int) x && (cV (m : Int) y && true)) = _;rw [Bool.and_true]
  refine ⟨pp, [x, y], (m : Int), rfl, SqL.of e0, by show 2 <= 100; decide, λz hz => ?_, λe H1' s1' => ?_, λe H2 s2 => q1 (al.symm.trans e) H2 (s0.trans s2)⟩
  · rcases mem_cons.mp hz with rfl | hz
    · exact hx.same s0
    · rw [mem_singleton.mp hz]; exact hy.same s0
  have e := al.symm.trans e;obtain ⟨eh, q⟩ := q2 e;obtain ⟨ex, ey⟩ := Bool.and_eq_true_iff.mp e;obtain ⟨a, rfl, ha⟩ : ∃ u : Nat, x = .int (u : Int) /\ u < m := by
    cases x with
    | int i => have ex : decide (0 <= i /\ i < (m : Int)) = true := ex
               have := of_decide_eq_true ex;exact ⟨i.toNat, by rw [Int.toNat_of_nonneg this.1], by lia⟩
    | _ => cases ex
  obtain ⟨b, rfl, hb⟩ : ∃ v : Nat, y = .int (v : Int) /\ v < m := by
    cases y with
    | int i => have ey : decide (0 <= i /\ i < (m : Int)) = true := ey
               have := of_decide_eq_true ey;exact ⟨i.toNat, by rw [Int.toNat_of_nonneg this.1], by lia⟩
    | _ => cases ey
  have s01 := s0.trans s1';refine ⟨_, rfl, n, l, _, ds, rfl, NP.nt.same s01, by lia, eh.same s01, λnh H1 s1 => ?_⟩;obtain ⟨et, q⟩ := q nh;have s01b := s01.trans s1;refine ⟨_, rfl, n, l, _, ds, rfl, NP.nt.same s01b, by lia, et.same s01b, λp12 H2 s2 => ?_⟩;have q := q p12;have s02 := s01b.trans s2;obtain ⟨dy, hn2⟩ := (NP.nt.same s02).ob;refine ⟨_, rfl, _, rfl, n, dy, _, rfl, hn2, cY _ _ ∅ ∅, n, l, _, ds, rfl, NP.nt.same s02, _, _, rfl, rfl, n, l, m, m - 2, _, ds, rfl, by lia, by lia, by lia, NP.same s02, p12, λf zs D0 H3 s3 e3 F3 => ?_⟩;have s03 := s02.trans s3;have fl := Ba (sg := sgF ds) (m := m) (t := m - 2) p12 ();have lf := F3.l;refine ⟨f, rfl, ⟨_, SqL.of e3⟩, λD hD => ?_⟩;have sD := aE hD (.lst []);refine dL (xs := zs) (λi us H' => aS H3 H' /\ H' D = some (.lst us) /\ us.length <= i) ⟨sD, aB, Nat.le_refl _⟩ (λi us H' h => h.2.1) (λi us H' _ h => h.1.seq (SqL.of e3)) ?_ ?_
  · rintro i us x H4 hx ⟨s4, e4, lz⟩ C hC
    have hi : i < (pH (sgF ds) (pcs ds) m (m - 2)).length := by have := (List.getElem?_eq_some_iff.mp hx).1; lia
    obtain ⟨fo, hfo⟩ : ∃ fo, (pH (sgF ds) (pcs ds) m (m - 2))[i]? = some fo := ⟨_, getElem?_eq_getElem hi⟩
    obtain ⟨tt, A, Bm, rfl, hT, hA, hB, nA, _, _⟩ := F3.r i x fo hx hfo;have lm : fo.2.length = m := Wv (mem_of_getElem? hfo);have aa : atI (fo.2.map V.int) (a : Int) = some (.int (fo.2.getD a 0)) := bQ (by rw [getElem?_map, getElem?_eq_getElem (), getD_eq_getElem?_getD, getElem?_eq_getElem ()]; rfl);have ab : atI (fo.2.map V.int) (b : Int) = some (.int (fo.2.getD b 0)) := bQ (by rw [getElem?_map, getElem?_eq_getElem (), getD_eq_getElem?_getD, getElem?_eq_getElem ()]; rfl);refine ⟨dU.1, dU.2, ?_⟩;refine ⟨_, rfl, tt, _, _, _, rfl, rfl, s4.seqT hT, rfl, _, rfl, Bm, _, _, _, rfl, rfl, SqL.of (s4 _ _ hB), aa, _, rfl, tt, _, _, _, rfl, rfl, s4.seqT hT, rfl, _, rfl, Bm, _, _, _, rfl, rfl, SqL.of (s4 _ _ hB), ab, rfl, _, rfl, ?_⟩;refine jX (λ_ => ?_) (λ_ => hC _ _ ⟨s4, e4, by lia⟩);refine ⟨_, rfl, tt, _, _, _, rfl, rfl, s4.seqT hT, rfl, ?_⟩;exact ⟨e4, uG (), hC _ _ ⟨s4.change hD, aB, by rw [List.length_append, length_singleton]; lia⟩⟩
  · rintro us H4 ⟨s4, e4, _⟩
    exact q _ H4 (s03.trans s4)
abbrev Cl:Stmt:=top 55
theorem kJ:aP ["matrix","rows","end","bottom","row"] ["matrix"] (aI Cl):=sK9
abbrev qt8 (ds:List RD):Prop:=tX ds
theorem qd2 (n:Nat):jR (λ_=>31) n=144*n:=by
 induction n with
 |zero=>rfl
 |succ n ih=>show jR _ n+(4*31+20)=_;rw[ih];lia
theorem Tg:∀{us:List V} {X:List (List Mq.Q2)},Fms K H0 H us X->(∀x∈us,x≠.ref D)->Fmx K D H us X
 | [],[],_,_=>.nil
 | [],_ :: _,h,_=>by have:=h.l;simp at this
 |_ :: _,[],h,_=>by have:=h.l;simp at this
 |u :: us,ps :: X,h,n=>by
  obtain⟨a,xs,rfl,_,ha,f⟩:=h.r 0 u ps rfl rfl;exact .cons (λz=>n (.ref a) ⋯ (by rw[z])) (SqL.of ha) f (Tg ⟨by have:=h.l;simpa using this,λi x qs e1 e2=>h.r (i+1) x qs (by simpa using e1) (by simpa using e2)⟩ λx hx=>n x (mem_cons_of_mem _ hx))
theorem Ro (h:tX ds):cX ds=0:=by
 unfold cX pE;rw[filter_eq_nil_iff.mpr λd hd=>by simpa using h d hd];rfl
structure ql0 (m:Nat) (ds:List RD):Prop where
 r:∀d∈ds,Mf (m:Int) d/\Mq.Bd 31 d.2.2.2
 h:qt8 ds
 p:∀d∈ds,PcB d
 l:ds.length<=20
 m1:1<=m
 m5:m<=5
inductive Qq (CN CH:Addr) (K:Frag) (vs:List V) (H:Hp) (Q:VK) (E:XK):Prop where
 |mk (n l:Addr) (m:Nat) (ds:List RD):vs=[.ref n]->dW CN K H n l (m:Int) ds->ds.length<=20->EHd CH H E ds->(tX ds->ql0 m ds/\∀v H',aS H H'->Q v H')->Qq CN CH K vs H Q E
abbrev sTS:Stmt:=top 86
theorem qt3:aP ["net"] ["net"] (aI sTS):=sK9
abbrev Tp:Stmt:=top 93
theorem Op:aP ["_law_script","_law_k","_law_found"] ["_law_script","_law_k"] (aI Tp):=sK9
inductive Cm (K:Frag) (vs:List V) (H:Hp) (Q:VK) (E:XK):Prop where
 |mk (a:Addr) (ns:List Int) (j:Int) (k:Nat):vs=[.ref a,.int j]->j=(k:Int)->SqL K H a (ns.map V.int)->ns.length<=63->(∀i H',aS H H'->Q (.int i) H')->Cm K vs H Q E
abbrev Bf:Stmt:=top 94
theorem xK:aP ["_law_cell","_law_turn","_law_many","_law_left","_law_k","_law_by","_law_prime","_law_x"] ["_law_cell","_law_turn","_law_many"] (aI Bf):=sK9
inductive Je (vs:List V) (H:Hp) (Q:VK) (E:XK):Prop where
 |mk (c t m:Int):vs=[.int c,.int t,.int m]->0<=t->t<=9->0 < m->(∀r H',0<=r->r < m->aS H H'->Q (.int r) H')->Je vs H Q E
theorem qk9 (hp:0 < a0/\0 < a1/\0 < a2/\0 < a3/\0 < a4/\0 < a5/\0 < a6/\0 < a7/\0 < a8/\0 < a9)(hm:a0 < 1000000/\a1 < 1000000/\a2 < 1000000/\a3 < 1000000/\a4 < 1000000/\a5 < 1000000/\a6 < 1000000/\a7 < 1000000/\a8 < 1000000/\a9 < 1000000)(h0:0<=t)(h9:t<=9):
  ∃v,atI [V.int a0,.int a1,.int a2,.int a3,.int a4,.int a5,.int a6,.int a7,.int a8,.int a9] t=some (.int v)/\0 < v/\v < 1000000:=by
 have:t=0\/t=1\/t=2\/t=3\/t=4\/t=5\/t=6\/t=7\/t=8\/t=9:=by lia
 rcases this with rfl | rfl | rfl | rfl | rfl | rfl | rfl | rfl | rfl | rfl
 all_goals exact⟨_,rfl,(),()⟩
abbrev l48:List Int:=[48271,69621,16807,40692,39373,30269,27183,60013,51749,35969]
abbrev l99:List Int:=[999983,999979,999961,999959,999953,999931,999917,999907,999883,999863]
@[irreducible] def md1:Stmt:=(cU Bf).getD 1 (.Pass ⟨0,0,0,0⟩)
@[irreducible] def md2:Stmt:=(cU Bf).getD 2 (.Pass ⟨0,0,0,0⟩)
def md0:Stmt:=(cU Bf).getD 0 (.Pass ⟨0,0,0,0⟩)
def md3:Stmt:=(cU Bf).getD 3 (.Pass ⟨0,0,0,0⟩)
def md4:Stmt:=(cU Bf).getD 4 (.Pass ⟨0,0,0,0⟩)
theorem qo6:cU Bf=[md0,md1,md2,md3,md4]:=by unfold md1 md2;rfl
theorem qc1:∃(q q2 p2 p3 p:Pos) (l:List (Int × _ × Pos)),md1=.Assign [.Name "_law_by" q] (.Subscript (.List (l.map λq=>Expr.Constant (.int q.1) q.2.1 q.2.2) p2) (.Name "_law_turn" q2) p3) p/\l.map (λq=>V.int q.1)=l48.map V.int:=by
 unfold md1;exact⟨_,_,_,_,_,[(48271,_,_),(69621,_,_),(16807,_,_),(40692,_,_),(39373,_,_),(30269,_,_),(27183,_,_),(60013,_,_),(51749,_,_),(35969,_,_)],rfl,rfl⟩
theorem qe1:∃(q q2 p2 p3 p:Pos) (l:List (Int × _ × Pos)),md2=.Assign [.Name "_law_prime" q] (.Subscript (.List (l.map λq=>Expr.Constant (.int q.1) q.2.1 q.2.2) p2) (.Name "_law_turn" q2) p3) p/\l.map (λq=>V.int q.1)=l99.map V.int:=by
 unfold md2;exact⟨_,_,_,_,_,[(999983,_,_),(999979,_,_),(999961,_,_),(999959,_,_),(999953,_,_),(999931,_,_),(999917,_,_),(999907,_,_),(999883,_,_),(999863,_,_)],rfl,rfl⟩
abbrev Ak:Stmt:=top 96
theorem pX:aP ["_law_top","_law_bottom","_law_one","_law_other"] ["_law_top","_law_bottom"] (aI Ak):=sK9
abbrev Ib:Stmt:=top 97
theorem Vt:aP ["_law_one","_law_other"] ["_law_one","_law_other"] (aI Ib):=sK9
abbrev Hh:Stmt:=top 98
theorem Xf:aP ["_law_one","_law_other"] ["_law_one","_law_other"] (aI Hh):=sK9
inductive Cp (CN:Addr) (K:Frag) (vs:List V) (H:Hp) (Q:VK) (E:XK):Prop where
 |mk (m:Int) (r:Addr) (us:List V) (ds:List RD):vs=[.int m,.ref r]->1<=m->m<=20->SqL K H r us->Rts K H us ds->(∀d∈ds,Mf m d)->ds.length<=40->(∀n l H',aS H H'->H l=none->dW CN K H' n l m ds->Q (.ref n) H')->Cp CN K vs H Q E
abbrev Ho:Stmt:=top 99
theorem Cz:aP ["_law_many","_law_rows_here","_law_net_here","_law_row"] ["_law_many","_law_rows_here"] (aI Ho):=sK9
theorem Iv (k:Kd):decide (V.str k.wd=V.str "piece")=decide (k=.pc):=dY k .pc
theorem ql4 (k:Kd):decide (V.str k.wd=V.str "push")=decide (k=.pu):=dY k .pu
theorem Sl (k:Kd):decide (V.str k.wd=V.str "hold")=decide (k=.ho):=dY k .ho
section
variable {α:Type} {A B:List α} {i:Nat} {a b:α}
theorem Ir (h:A.length=B.length)(ha:A[i]?=some a):(A.take i++B.drop i).set i a=A.take (i+1)++B.drop (i+1):=by
 have hi:i < A.length:=(List.getElem?_eq_some_iff.mp ha).1;have lt:(A.take i).length=i:=by rw[length_take];lia
 rw[set_append_right _ _ (),lt,Nat.sub_self,take_add_one,ha,drop_eq_getElem_cons (show i < B.length by lia)];show _++(a :: B.drop (i+1))=(A.take i++[a])++_;rw[List.append_assoc];rfl
theorem Pn (ha:A[i]?=some a)(hb:B[i]?=some a):A.take i++B.drop i=A.take (i+1)++B.drop (i+1):=by
 have hi:=List.getElem?_eq_some_iff.mp hb;rw[take_add_one,ha,drop_eq_getElem_cons hi.1,hi.2];show _++(a :: B.drop (i+1))=(A.take i++[a])++_;rw[List.append_assoc];rfl
theorem Hl (h:A.length=B.length)(l:i<=j)(hi:i<=A.length):(A.take i++B.drop i)[j]?=B[j]?:=by
 rw[getElem?_append_right (by rw[length_take];lia),length_take,getElem?_drop,Nat.min_eq_left hi,Nat.add_sub_cancel' l]
theorem qh7 (l:j < i)(hi:i<=A.length):(A.take i++B.drop i)[j]?=A[j]?:=by
 rw[getElem?_append_left (by rw[length_take];lia),getElem?_take_of_lt l]
end
theorem Yh (h:p < ms.length):(jn ms u v)[p]?=some (if ms.getD p 0=ms.getD v 0 then ms.getD u 0 else ms.getD p 0):=by
 unfold jn;rw[getElem?_map,getElem?_eq_getElem h,getD_eq_getElem?_getD (i:=p),getElem?_eq_getElem h];rfl
theorem qc8 (h:p < ls.length):(jnL ms ls u v z)[p]?=some ((jnL ms ls u v z).getD p (0,1)):=by
 rw[getD_eq_getElem?_getD,getElem?_eq_getElem (by rw[pL];exact h)];rfl
theorem xI {ms:List Int}(h:p < ms.length):ms[p]?=some (ms.getD p 0):=by rw[getD_eq_getElem?_getD,getElem?_eq_getElem h];rfl
theorem zF {ls:List Mq.Q2}(h:p < ls.length):ls[p]?=some (ls.getD p (0,1)):=by rw[getD_eq_getElem?_getD,getElem?_eq_getElem h];rfl
inductive Cg (K:Frag) (vs:List V) (H:Hp) (Q:VK) (E:XK):Prop where
 |mk (M L z:Addr) (u v n:Nat) (ms:List Int) (ls:List Mq.Q2) (xs:List V) (p:Mq.Q2):vs=[.ref M,.ref L,.int (u:Int),.int (v:Int),.ref z]->H M=some (.lst (ms.map V.int))->H L=some (.lst xs)->M≠L->Fqs K H xs ls->ms.length<=20->ls.length=ms.length->u < ms.length->v < ms.length->ms.getD u 0≠ms.getD v 0->Fq K H z p->LfB 0 p->(∀q∈ls,LfB n q)->n<=19->(∀xs' H',SX [M,L] H H'->H' M=some (.lst ((jn ms u v).map V.int))->H' L=some (.lst xs')->Fqs K H' xs' (jnL ms ls u v p)->Q .non H')->Cg K vs H Q E
abbrev Ta:Stmt:=top 101
theorem Bh:aP ["_law_marks","_law_lifts","_law_start","_law_goal","_law_size","_law_more","_law_old","_law_point"] ["_law_marks","_law_lifts","_law_start","_law_goal","_law_size"] (aI Ta):=sK9
def szR (ds:List RD)(n:Nat):Rat:=Mq.val (ds.getD n (.pc,0,0,(0,1))).2.2.2
inductive qi2 (K:Frag) (vs:List V) (H:Hp) (Q:VK) (E:XK):Prop where
 |mk (r:Addr) (us:List V) (m:Nat) (ds:List RD):vs=[.ref r,.int (m:Int)]->SqL K H r us->Rts K H us ds->(∀d∈ds,dF (m:Int) d.2.1 d.2.2.1)->m<=20->ds.length<=19->(∀d∈ds,LfB 0 d.2.2.2)->(rgH ds=[]->∀H',aS H H'->Q .non H')->(∀c rr,rgH ds=c :: rr->∀t z p H',aS H H'->SqT K H' t [.int (c.1:Int),.ref z]->Fq K H' z p->Mq.Low p->Mq.val p=(c.2.map λs=>((s.2:Int):Rat)*szR ds s.1).sum->Q (.ref t) H')->qi2 K vs H Q E
abbrev sFR:Stmt:=top 102
theorem Dl:aP ["_law_rows_here","_law_many","_law_marks","_law_lifts","_law_k","_law_word","_law_start","_law_goal","_law_size"] ["_law_rows_here","_law_many"] (aI sFR):=sK9
theorem vC:(["_law_point","_law_marks"]:List Str).Nodup:=by decide +kernel
theorem qn3 (h:ms.getD u 0=ms.getD v 0):jn ms u v=ms:=by
 unfold jn;rw[h]
 conv=>rhs;rw[<- map_id ms]
 exact map_congr_left λx _=>by
  by_cases c:x=ms.getD v 0
  ·rw[if_pos c];exact c.symm
  ·rw[if_neg c];rfl
inductive Ut (K:Frag) (vs:List V) (H:Hp) (Q:VK) (E:XK):Prop where
 |mk (r:Addr) (us:List V) (m:Nat) (ds:List RD):vs=[.ref r,.int (m:Int)]->SqL K H r us->Rts K H us ds->(∀d∈ds,dF (m:Int) d.2.1 d.2.2.1)->1<=m->m<=20->ds.length<=19->(∀d∈ds,LfB 0 d.2.2.2)->(∀l H',aS H H'->H l=none->H' l=some (.lst ((eU m ds).map V.int))->Q (.ref l) H')->Ut K vs H Q E
abbrev sAp:Stmt:=top 103
theorem Ia:aP ["_law_rows_here","_law_many","_law_marks","_law_lifts","_law_word","_law_start","_law_goal","_law_size"] ["_law_rows_here","_law_many"] (aI sAp):=sK9
abbrev Qm:Stmt:=top 95
theorem By:aP ["_law_cell","_law_k","_law_left","_law_j"] ["_law_cell","_law_k"] (aI Qm):=sK9
inductive Fo (vs:List V) (H:Hp) (Q:VK) (E:XK):Prop where
 |mk (c k:Int):vs=[.int c,.int k]->0<=k->k<=63->(∀r,Q (.int r) H)->Fo vs H Q E
theorem qr3 (xs:List V)(w:Nat):(mB xs (some 4) (some (4+(w:Int)))).length<=w:=by
 unfold mB;have h1:HT.sIx xs.length xs.length (some (4+(w:Int)))=min (4+w) xs.length:=by
  simp only[HT.sIx];rw[if_neg (),show (4+(w:Int)).toNat=4+w by lia]
 have h2:HT.sIx xs.length 0 (some 4)=min 4 xs.length:=by simp[HT.sIx]
 rw[h1,h2];simp;lia
structure D76 (m:Nat) (d:RD):Prop where
 pt:dF (m:Int) d.2.1 d.2.2.1
 sz:∃t b:Int,d.2.2.2=red t b/\1<=b/\b<=12/\-60<=t/\t<=60/\(d.1=.pc->1<=t/\t<=12/\b<=6)
def kws (ks:List Kd):List V:=ks.map λk=>V.str k.wd
theorem Zg (h0:0<=r)(h:r < (ks.length:Int)):∃k,atI (kws ks) r=some (.str (Kd.wd k)):=by
 obtain⟨j,rfl⟩:∃j:Nat,r=(j:Int):=⟨r.toNat,()⟩
 have hj:j < ks.length:=by lia
 refine⟨ks[j],bQ ?_⟩;unfold kws;rw[getElem?_map,getElem?_eq_getElem hj];rfl
inductive qa1 (K:Frag) (vs:List V) (H:Hp) (Q:VK) (E:XK):Prop where
 |mk (a:Addr) (ns:List Int) (m:Nat):vs=[.ref a,.int (m:Int)]->SqL K H a (ns.map V.int)->ns.length<=63->1<=m->m<=20->(∀r us ds H',aS H H'->H r=none->H' r=some (.lst us)->Rts K H' us ds->(∀d∈ds,D76 m d)->ds.length<=16->Q (.ref r) H')->qa1 K vs H Q E
theorem Mi:(["_law_k","_law_cell"]:List Str).Nodup:=by decide +kernel
abbrev sRw:Stmt:=top 105
theorem rR:aP ["_law_script","_law_many","_law_cells","_law_cell","_law_words","_law_menu","_law_rows_here","_law_one","_law_word","_law_size"] ["_law_script","_law_many"] (aI sRw):=sK9
end
def ExA (H:Hp)(a C:Addr)(od:Option Addr):Prop:=H a=some (iK a (.ref C) od)/\∀dx,od=some dx->∃fs,H dx=some (.xd fs)
theorem ExA.same (s:aS H H')(h:ExA H a C od):ExA H' a C od:=⟨s _ _ h.1,λdx e=>let ⟨fs,h⟩:=h.2 dx e;⟨fs,s _ _ h⟩⟩
theorem dM:kC X (.builtin "isinstance") (λxs H Q=>∃a C od c cv b,xs=[.ref a,c]/\ExA H a C od/\yJ X.K C/\cB c cv/\(∀u,cB c u->u=cv)/\W.kitOne X.K (.ref C) cv=some b/\Q (.bl b) H):=by
 intro pins s σ H xs us Q I r h;obtain⟨a,C,od,c,cv,b,rfl,⟨ea,ed⟩,ex,rc,ru,k,q⟩:=h
 cases od with
 |none=>exact Lb pins s σ H _ us Q I r ⟨a,C,c,cv,b,rfl,ea,ex,rc,ru,k,q⟩
 |some dx=>
  obtain⟨fs,hd⟩:=ed dx rfl;exact Fz pins s σ H _ us Q I r ⟨a,C,dx,fs,c,cv,b,rfl,ea,hd,ex,rc,ru,k,q⟩
inductive Pbs (K:Frag) (H:Hp):List V->List (Str × Bool)->Prop where
 |nil:Pbs K H [] []
 |cons {t:Addr} {xs:List V} {p:Str × Bool} {ps:List (Str × Bool)} (h:SqT K H t [.str p.1,.bl p.2]) (r:Pbs K H xs ps):Pbs K H (.ref t :: xs) (p :: ps)
theorem Pbs.same (s:aS H H'):∀{xs:List V} {ps:List (Str × Bool)},Pbs K H xs ps->Pbs K H' xs ps
 |_,_,.nil=>.nil
 |_,_,.cons h r=>.cons (s.seqT h) (r.same s)
theorem Pbs.app:∀{xs ys:List V} {ps qs:List (Str × Bool)},Pbs K H xs ps->Pbs K H ys qs->Pbs K H (xs++ys) (ps++qs)
 |_,_,_,_,.nil,h=>h
 |_,_,_,_,.cons h r,g=>.cons h (r.app g)
theorem Pbs.length:∀{xs:List V} {ps:List (Str × Bool)},Pbs K H xs ps->xs.length=ps.length
 |_,_,.nil=>rfl
 |_,_,.cons _ r=>congrArg (· + 1) r.length
theorem Pbs.at:∀{xs:List V} {ps:List (Str × Bool)} {i:Nat} {x:V},Pbs K H xs ps->xs[i]?=some x->∃t p,x=.ref t/\ps[i]?=some p/\SqT K H t [.str p.1,.bl p.2]
 |_,_,0,_,.cons h _,e=>⟨_,_,(Option.some.inj e).symm,rfl,h⟩
 |_,_,i+1,_,.cons _ r,e=>Pbs.at (i:=i) r e
abbrev kNm:List Str:=["NoNumber","NoPoint","NoSize","NoRow","NoWord","NoName","NoStreams","NoRoad","TooMany","Lame","Ring","Floats","Held"]
structure KiC (K:Frag) (mg:Str->Option Value) (C:Addr) (j:Nat):Prop where
 ex:yJ K C
 ve:W.kitOne K (.ref C) (.type "ValueError")=some true
 ks:∀i n,kNm[i]?=some n->∃c,mg n=some (.ref c)/\W.kitOne K (.ref C) (.ref c)=some (decide (i=j))
inductive pU (K:Frag) (mg:Str->Option Value) (vs:List V) (H:Hp) (Q:VK) (E:XK):Prop where
 |mk (a C:Addr) (od:Option Addr) (j:Nat) (n:Str):vs=[.ref a]->ExA H a C od->KiC K mg C j->kNm[j]?=some n->(∀l H',aS H H'->H l=none->H' l=some (.lst [.str n])->Q (.ref l) H')->pU K mg vs H Q E
theorem oR:(["_law_name","_law_truth"]:List Str).Nodup:=by decide +kernel
theorem Zw (h:kNm[j]?=some n):((((List.range 13).map λi=>(kNm.getD i "",decide (i=j))).filter λp=>p.2).map λp=>V.str p.1)=[.str n]:=by
 have hj:j < 13:=(List.getElem?_eq_some_iff.mp h).1;have:j=0\/j=1\/j=2\/j=3\/j=4\/j=5\/j=6\/j=7\/j=8\/j=9\/j=10\/j=11\/j=12:=by lia
 rcases this with rfl | rfl | rfl | rfl | rfl | rfl | rfl | rfl | rfl | rfl | rfl | rfl | rfl<;>(cases h;rfl)
abbrev sKi:Stmt:=top 100
theorem Ga:aP ["_law_kept","_law_found"] ["_law_kept"] (aI sKi):=sK9
section
variable {K:Frag} {m:Nat} {d:RD} {ds:List RD}
theorem Xs {b:Int}(h1:1<=b)(h2:b<=12):b ∣ 27720:=by
 have:b=1\/b=2\/b=3\/b=4\/b=5\/b=6\/b=7\/b=8\/b=9\/b=10\/b=11\/b=12:=by lia
 rcases this with rfl | rfl | rfl | rfl | rfl | rfl | rfl | rfl | rfl | rfl | rfl | rfl<;>decide
theorem D76.facts (h:D76 m d):Mq.Low d.2.2.2/\1<=d.2.2.2.2/\d.2.2.2.2<=12/\d.2.2.2.1.natAbs<=60/\(d.1=.pc->1<=d.2.2.2.1/\d.2.2.2.1<=12):=by
 obtain⟨t,b,e,b1,b12,t0,t6,pc⟩:=h.sz;have b0:b≠0:=by lia
 have lo:=hZ (t:=t) b0;have le:=pD (t:=t) b0;have p1:=lo.pos;refine⟨e ▸ lo,e ▸ p1,by rw[e];lia,by rw[e];lia,λk=>?_⟩;obtain⟨t1,t12,_⟩:=pc k;have:=Mq.Vx (t:=t) (b:=b) () ();rw[e];lia
theorem D76.rd (h:D76 m d):Mf (m:Int) d:=by
 obtain⟨lo,p1,p12,n60,pc⟩:=h.facts;obtain⟨u0,u1,v0,v1⟩:=h.pt;refine⟨u0,u1,v0,v1,lo,λk=>by have:=pc k;lia,?_,?_⟩
 ·exact Mq.B.mono (n:=6) (show d.2.2.2.1.natAbs < 2 ^ 6 from Nat.lt_of_le_of_lt n60 ∅) ()
 ·exact Mq.B.mono (n:=6) (show d.2.2.2.2.natAbs < 2 ^ 6 from Nat.lt_of_le_of_lt (show d.2.2.2.2.natAbs<=12 by lia) ∅) ()
theorem D76.fr (h:D76 m d):Mq.Fr 27720 60 (Mq.val d.2.2.2):=by
 obtain⟨lo,p1,p12,n60,pc⟩:=h.facts;exact Mq.Fr.of ∅ p1 (Xs p1 p12) n60
theorem D76.lf (h:D76 m d):LfB 0 d.2.2.2:=⟨h.facts.1,h.fr⟩
theorem D76.b8 (h:D76 m d):Mq.Bd 8 d.2.2.2:=by
 obtain⟨lo,p1,p12,n60,pc⟩:=h.facts;exact⟨show d.2.2.2.1.natAbs < 2 ^ 8 from Nat.lt_of_le_of_lt n60 ∅,show d.2.2.2.2.natAbs < 2 ^ 8 from Nat.lt_of_le_of_lt (show d.2.2.2.2.natAbs<=12 by lia) ∅⟩
theorem D76.bd (h:D76 m d):Mq.Low d.2.2.2/\Mq.Bd 30 d.2.2.2:=⟨h.facts.1,h.b8.mono ∅⟩
theorem Kk:∀n,jR (λ_=>8) n=52*n
 |0=>rfl
 |n+1=>by show jR _ n+(4*8+20)=_;rw[Kk n];lia
theorem Pp:Mq.B 15 27720:=by show (27720:Nat) < 2 ^ 15;decide
theorem qh0 (m1:1<=m)(m6:m<=5)(len:ds.length<=19)(D:∀d∈ds,D76 m d)(nt:dW CN K H n l (m:Int) ds)(hR:rgH ds=[])(hF:eU m ds=[]):∃(b:Nat) (kb:Nat->Nat) (L:Int),Fp CN K H n l m b kb L ds:=by
 have pt:∀d∈ds,dF (m:Int) d.2.1 d.2.2.1:=λd hd=>(D d hd).pt;have o:Nof m ds:=⟨m1,pt,λd hd k=>by
   obtain⟨lo,p1,p12,n60,pc⟩:=(D d hd).facts;have p0:=(pc k).1;unfold Mq.val;rw[Rat.div_def];exact Rat.mul_pos (by exact_mod_cast (show 0 < d.2.2.2.1 by lia)) (Rat.inv_pos.mpr (by exact_mod_cast (show 0 < d.2.2.2.2 by lia))),
  λp pm=>by
   unfold eU at hF;have:=filter_eq_nil_iff.mp (map_eq_nil_iff.mp hF) p (mem_range.mpr pm);have e:mk m ds p=mk m ds 0:=by
    by_cases c:mk m ds p=mk m ds 0
    ·exact c
    ·exact absurd (decide_eq_true c) this
   exact((Ym pt pm ()).mp e).symm,
  Yw uT pt () hR⟩
 have hh:cX ds<=19:=Nat.le_trans (length_filter_le _ _) len;have one:=Mq.Fr.one (L:=27720) ∅;have eM:∀i j,∃a:Int,Mq.B 40 a/\eqM m ds (i+1) (j+1)=(a:Rat) / ((27720:Int):Rat):=λi j=>by
  have c:∀d∈ds,∀k,Mq.Fr 27720 18 (cM d k (i+1) (j+1)):=λd hd k=>by
   obtain⟨lo,p1,p12,n60,pc⟩:=(D d hd).facts;unfold cM
   cases hk:d.1 with
   |pu=>exact Mq.Fr.zero.mono (Nat.zero_le _)
   |ho=>
    dsimp only;refine(Mq.Fr.add (Il (Py one) _ _ _) (N:=1) ?_).mono ∅;rw[Rat.mul_comm];exact Il (Py one) _ _ _
   |pc=>
    obtain⟨t1,t12⟩:=pc hk;dsimp only;rw[Rat.mul_assoc];have:1 / Mq.val d.2.2.2=((d.2.2.2.2:Int):Rat) / ((d.2.2.2.1:Int):Rat):=by
     have:=Mq.yH p1;have:=Mq.yH t1;unfold Mq.val;grind
    rw[this];exact(Il (Il (Mq.Fr.of (M:=12) ∅ t1 (Xs t1 t12) ()) _ _ _) _ _ _).mono ∅
  refine Mq.Fr.get (m:=9) (n:=15) (Qj m c) ?_ Pp ∅
  calc ds.length*18<=19*18:=Nat.mul_le_mul_right _ len
   _ < 2 ^ 9:=by decide
 refine⟨40,λ_=>8,27720,⟨nt,λi d hd=>?_,(),(),?_,⟨o,?_,∅,?_,?_,∅,Pp.mono ∅,eM⟩⟩⟩
 ·have h:=D d (mem_of_getElem? hd);exact⟨h.rd,h.b8⟩
 ·rw[Kk];lia
 ·show m - 1+cX ds<=26;lia
 ·show 10+40+40*(m - 1+cX ds+1)<=8000;lia
 ·show (40+5)*(m - 1+cX ds+1)+8<=4000;lia
theorem D76.b31 (h:D76 m d):Mq.Bd 31 d.2.2.2:=h.b8.mono ∅
theorem D76.pcb (h:D76 m d):PcB d:=by
 obtain⟨lo,p1,p12,n60,pc⟩:=h.facts;exact⟨lo,λk=>⟨by have:=pc k;lia,Int.lt_of_le_of_lt (pc k).2 ∅,()⟩⟩
structure NA (CN:Addr) (K:Frag) (H:Hp) (n l:Addr) (m:Nat) (ds:List RD):Prop where
 nt:dW CN K H n l (m:Int) ds
 d:∀d∈ds,D76 m d
 m1:1<=m
 m5:m<=5
 ln:ds.length<=19
theorem NA.same (s:aS H H')(h:NA CN K H n l m ds):NA CN K H' n l m ds:=⟨h.nt.same s,h.d,h.m1,h.m5,h.ln⟩
theorem NA.pt (h:NA CN K H n l m ds):∀d∈ds,dF (m:Int) d.2.1 d.2.2.1:=λd hd=>(h.d d hd).pt
theorem NA.bd (h:NA CN K H n l m ds):∀d∈ds,Mq.Low d.2.2.2/\Mq.Bd 30 d.2.2.2:=λd hd=>(h.d d hd).bd
theorem NA.lf (h:NA CN K H n l m ds):∀d∈ds,LfB 0 d.2.2.2:=λd hd=>(h.d d hd).lf
theorem NA.np (h:NA CN K H n l m ds):NtP CN K H n l m ds:=⟨h.nt,h.pt,h.m1,by have:=h.m5;lia,by have:=h.ln;lia⟩
theorem NA.ts (h:NA CN K H n l m ds)(nh:tX ds):ql0 m ds:=⟨λd hd=>⟨(h.d d hd).rd,(h.d d hd).b31⟩,nh,λd hd=>(h.d d hd).pcb,by have:=h.ln;lia,h.m1,h.m5⟩
theorem NA.nb (h:NA CN K H n l m ds)(hR:rgH ds=[])(hF:eU m ds=[]):∃(b:Nat) (kb:Nat->Nat) (L:Int),Fp CN K H n l m b kb L ds:=qh0 h.m1 h.m5 h.ln h.d h.nt hR hF
theorem d53 {p:Int}(m1:1<=m)(p0:0<=p)(p1:p < m):D76 m (.pc,p,0,(5,3)):=⟨⟨p0,p1,Int.le_refl 0,by show (0:Int) < m;lia⟩,5,3,(by show ((5,3):Mq.Q2)=red 5 3;decide),∅,∅,∅,∅,λ_=>by decide⟩
end
inductive Jc (CN CP CH CT CG CF : Addr) (K : Frag) (vs : List V) (H : Hp) (Q : VK) (E : XK) : Prop where
  | mk (n l : Addr) (x y : V) (m : Nat) (ds : List RD) (_ : NA CN K H n l m ds) (_ : jU K H x) (_ : jU K H y) (wd : Str) : vs = [.str wd, .ref n, x, y] -> ((((wd = "between" \/ wd = "road" \/ wd = "partings") /\ (cV (m : Int) x && cV (m : Int) y) = false \/ wd = "distances" /\ cV (m : Int) x = false) /\ ∀ H', aS H H' -> E (.ref CP) none H') \/
   ((cV (m : Int) x && cV (m : Int) y) = true /\ wd = "between" /\ Rfs CG CF K H E m ds /\ (rgH ds = [] -> eU m ds = [] -> ∀ v H', aS H H' -> Q v H')) \/
   ((cV (m : Int) x && cV (m : Int) y) = true /\ (wd = "trees" \/ wd = "sum" \/ wd = "partings") /\ EHd CH H E ds /\ (tX ds -> (wd ≠ "sum" -> ETm CT H E ds) /\ ((wd ≠ "sum" -> (pcs ds).length <= 12) -> ∀ v H', aS H H' -> Q v H')))) -> Jc CN CP CH CT CG CF K vs H Q E
abbrev qc0:Stmt:=top 106
theorem qi9:aP ["_law_word","_law_net_here","_law_a","_law_b"] ["_law_word","_law_net_here","_law_a","_law_b"] (aI qc0):=sK9
structure OhC (K:Frag) (mg:Str->Option Value) (CP CH CT CG CF:Addr):Prop where
 oe:∃CO,mg "OhmError"=some (.ref CO)/\W.exmOne K (.ref CP) (.ref CO)=some true/\W.exmOne K (.ref CG) (.ref CO)=some true/\W.exmOne K (.ref CF) (.ref CO)=some true/\W.exmOne K (.ref CH) (.ref CO)=some true/\W.exmOne K (.ref CT) (.ref CO)=some true
structure QRf (CG CF:Addr) (K:Frag) (H:Hp) (Q:VK) (m:Nat) (ds:List RD):Prop where
 rg:∀c r,rgH ds=c :: r->∀a dx p t us H',aS H H'->H' a=some (iK a (.ref CG) (some dx))->H' dx=some (.xd [("ring",.ref p),("total",.ref t)])->H' p=some (.lst us)->Sts K H' us c.2->Fq K H' t (tot (c.2.map (fX ds)))->Q (.ref a) H'
 fl:rgH ds=[]->eU m ds≠[]->∀a dx p H',aS H H'->H' a=some (iK a (.ref CF) (some dx))->H' dx=some (.xd [("points",.ref p)])->H' p=some (.lst ((eU m ds).map V.int))->Q (.ref a) H'
 ok:rgH ds=[]->eU m ds=[]->∀H',aS H H'->Q .non H'
structure QSt (CH CT:Addr) (H:Hp) (Q:VK) (ds:List RD) (wd:Str):Prop where
 hd:∀(k:Nat) (d:RD),ds[k]?=some d->d.1=.ho->(∀(j:Nat) (e:RD),j < k->ds[j]?=some e->e.1≠.ho)->∀a dx H',aS H H'->H' a=some (iK a (.ref CH) (some dx))->H' dx=some (.xd [("number",.int (k:Int))])->Q (.ref a) H'
 tm:tX ds->wd≠"sum"->12 < (pcs ds).length->∀a H',aS H H'->H' a=some (iK a (.ref CT) none)->Q (.ref a) H'
 ok:tX ds->(wd≠"sum"->(pcs ds).length<=12)->∀H',aS H H'->Q .non H'
inductive tU (CN CP CH CT CG CF : Addr) (K : Frag) (vs : List V) (H : Hp) (Q : VK) (E : XK) : Prop where
  | mk (n l : Addr) (x y : V) (m : Nat) (ds : List RD) (_ : NA CN K H n l m ds) (_ : jU K H x) (_ : jU K H y) (wd : Str) : vs = [.str wd, .ref n, x, y] -> ((((wd = "between" \/ wd = "road" \/ wd = "partings") /\ (cV (m : Int) x && cV (m : Int) y) = false \/ wd = "distances" /\ cV (m : Int) x = false) /\ ∀ a H', aS H H' -> H' a = some (iK a (.ref CP) none) -> Q (.ref a) H') \/
   ((cV (m : Int) x && cV (m : Int) y) = true /\ wd = "between" /\ QRf CG CF K H Q m ds) \/
   ((cV (m : Int) x && cV (m : Int) y) = true /\ (wd = "trees" \/ wd = "sum" \/ wd = "partings") /\ QSt CH CT H Q ds wd)) -> tU CN CP CH CT CG CF K vs H Q E
abbrev qh4:Stmt:=top 107
theorem Io:aP ["_law_word","_law_net_here","_law_a","_law_b","_law_kept","e"] ["_law_word","_law_net_here","_law_a","_law_b"] (aI qh4):=sK9
structure FlC (K:Frag) (CG CF:Addr):Prop where
 hg:W.hasDictIn K CG=true
 hf:W.hasDictIn K CF=true
 nr:W.findIn K (.ref CG) "ring"=some none
 nt:W.findIn K (.ref CG) "total"=some none
 np:W.findIn K (.ref CF) "points"=some none
structure Kpt (CG CF:Addr) (K:Frag) (H:Hp) (x:V) (m:Nat) (ds:List RD):Prop where
 rg:∀c r,rgH ds=c :: r->∃a dx p t us,x=.ref a/\H a=some (iK a (.ref CG) (some dx))/\H dx=some (.xd [("ring",.ref p),("total",.ref t)])/\H p=some (.lst us)/\Sts K H us c.2/\Fq K H t (tot (c.2.map (fX ds)))
 fl:rgH ds=[]->eU m ds≠[]->∃a dx p,x=.ref a/\H a=some (iK a (.ref CF) (some dx))/\H dx=some (.xd [("points",.ref p)])/\H p=some (.lst ((eU m ds).map V.int))
 ok:rgH ds=[]->eU m ds=[]->x=.non
inductive Yp (CG CF:Addr) (K:Frag) (vs:List V) (H:Hp) (Q:VK) (E:XK):Prop where
 |mk (x:V) (r:Addr) (us:List V) (m:Nat) (ds:List RD):vs=[x,.ref r,.int (m:Int)]->SqL K H r us->Rts K H us ds->(∀d∈ds,dF (m:Int) d.2.1 d.2.2.1)->1<=m->m<=20->ds.length<=19->(∀d∈ds,LfB 0 d.2.2.2)->Kpt CG CF K H x m ds->(∀H',aS H H'->Q (.bl true) H')->Yp CG CF K vs H Q E
theorem Jo (h1:SqL K H a [.str n])(h2:SqL K H b [.str n])(hl:(PyData.list [.str n]).canLay0=true)(z:Q (.bl true) H):yN K false (.ref a) (.ref b) H Q:=
 Au (d:=.list [.str n]) (.lst h1 (.cons (.str _) .nil)) (.lst h2 (.cons (.str _) .nil)) hl (by simp[PyData.depth,PyData.depthAll]) z
theorem Xm (h1:SqT K H a [.int i,.int j])(h2:SqT K H b [.int i,.int j])(z:Q (.bl true) H):yN K false (.ref a) (.ref b) H Q:=
 Au (d:=.tuple [.int i,.int j]) (.tup h1 (.cons (.int _) (.cons (.int _) .nil))) (.tup h2 (.cons (.int _) (.cons (.int _) .nil))) rfl (by simp[PyData.depth,PyData.depthAll]) z
theorem Tq (hz:∀d∈ds,LfB 0 d.2.2.2)(s:Stp):1<=(fX ds s).2/\Mq.val (fX ds s)=((s.2:Int):Rat)*szR ds s.1:=by
 have lz:Mq.Low (ds.getD s.1 (.pc,0,0,(0,1))).2.2.2:=by
  rw[getD_eq_getElem?_getD]
  cases h:ds[s.1]? with
  |none=>exact LfB.zero.1
  |some d=>exact(hz d (mem_of_getElem? h)).1
 have lr:Mq.Low (red s.2 1):=hZ ∅;unfold fX szR;refine⟨(Mq.zO lr.1 lz.1).1,?_⟩;rw[Mq.Ls lr.1 lz.1,iP ∅];rw[show ((1:Int):Rat)=1 by rfl,Rat.div_def];grind
theorem Se (hz:∀d∈ds,LfB 0 d.2.2.2)(st:List Stp):Mq.Low (tot (st.map (fX ds)))/\Mq.val (tot (st.map (fX ds)))=(st.map λs=>((s.2:Int):Rat)*szR ds s.1).sum:=by
 have hp:Mq.Pos (st.map (fX ds)):=λp h=>by
  obtain⟨s,_,rfl⟩:=mem_map.mp h;exact(Tq hz s).1
 refine⟨Jr hp,?_⟩;rw[Mq.Uu hp];clear hp
 induction st with
 |nil=>rfl
 |cons s r ih=>
  show Mq.val (fX ds s)+Mq.Mg ((r.map (fX ds)).map Mq.val)=_;rw[ih,(Tq hz s).2];rfl
abbrev sOf:Stmt:=top 104
theorem Yz:aP ["_law_kept","_law_rows_here","_law_many","_law_closed","_law_apart_here"] ["_law_kept","_law_rows_here","_law_many"] (aI sOf):=sK9
theorem wJ:(["_law_k","_law_rows_here"]:List Str).Nodup:=by decide +kernel
theorem Xi:(["_law_row"]:List Str).Nodup:=by decide +kernel
theorem uS (h1:SqL K H a [.str n])(h2:SqL K H b [.str n])(hl:(PyData.list [.str n]).canLay0=true)(z:Q (.bl false) H):yN K true (.ref a) (.ref b) H Q:=
 Au (d:=.list [.str n]) (.lst h1 (.cons (.str _) .nil)) (.lst h2 (.cons (.str _) .nil)) hl (by simp[PyData.depth,PyData.depthAll]) z
inductive On (CN:Addr) (K:Frag) (vs:List V) (H:Hp) (Q:VK) (E:XK):Prop where
 |mk (n l:Addr) (x:V) (a b m:Nat) (ds:List RD):vs=[.ref n,.int (a:Int),.int (b:Int),x]->NA CN K H n l m ds->(∀H',aS H H'->jU K H' x)->cV (m:Int) x=false->(∀H',aS H H'->Q (.bl true) H')->On CN K vs H Q E
abbrev qb4:Stmt:=top 108
theorem Yc:aP ["_law_net_here","_law_a","_law_b","_law_odd","_law_word"] ["_law_net_here","_law_a","_law_b","_law_odd"] (aI qb4):=sK9
def isH (ds:List RD)(i:Nat):Bool:=match ds[i]? with
 |some d=>decide (d.1=.ho)
 |none=>false
theorem qM (h:ds[i]?=some d):isH ds i=decide (d.1=.ho):=by unfold isH;rw[h]
def hoI (ds:List RD)(i:Nat):List Nat:=(List.range i).filter (isH ds)
theorem Xg (h:isH ds i=true):hoI ds (i+1)=hoI ds i++[i]:=by unfold hoI;rw[range_succ,filter_append,filter_cons_of_pos h];rfl
theorem qc9 (h:¬isH ds i=true):hoI ds (i+1)=hoI ds i:=by unfold hoI;rw[range_succ,filter_append,filter_cons_of_neg h,filter_nil,append_nil]
theorem Xc (ds:List RD)(i:Nat):(hoI ds i).length<=i:=by unfold hoI;refine Nat.le_trans (length_filter_le _ _) ?_;simp
theorem Ke (h:hoI ds ds.length=[]):tX ds:=λd hd k=>by
 obtain⟨j,hj⟩:=getElem?_of_mem hd;have hl:=(List.getElem?_eq_some_iff.mp hj).1;have:=filter_eq_nil_iff.mp h j (mem_range.mpr hl);rw[qM hj,decide_eq_true k] at this;exact this rfl
theorem Ez (h:hoI ds ds.length=k :: r):∃d,ds[k]?=some d/\d.1=.ho/\∀(j:Nat) (e:RD),j < k->ds[j]?=some e->e.1≠.ho:=by
 obtain⟨l1,l2,e,hn,hk,_⟩:=filter_eq_cons_iff.mp h;have e1:l1.length=k:=by
  have h1:(List.range ds.length)[l1.length]?=some k:=by rw[e];simp
  obtain⟨_,h2⟩:=List.getElem?_eq_some_iff.mp h1;rw[getElem_range] at h2;exact h2
 have kl:k < ds.length:=mem_range.mp (by rw[e];simp);refine⟨ds[k],getElem?_eq_getElem kl,?_,λj e' hj he hh=>?_⟩
 ·rw[qM (getElem?_eq_getElem kl)] at hk;exact of_decide_eq_true hk
 ·have h1:(List.range ds.length)[j]?=l1[j]?:=by rw[e,getElem?_append_left ()]
  rw[getElem?_range ()] at h1;have:=hn j (mem_of_getElem? h1.symm);rw[qM he,decide_eq_true hh] at this;exact this rfl
structure KSt (CH CT:Addr) (H:Hp) (x:V) (ds:List RD) (wd:Str):Prop where
 hd:∀k r,hoI ds ds.length=k :: r->∃a dx,x=.ref a/\H a=some (iK a (.ref CH) (some dx))/\H dx=some (.xd [("number",.int (k:Int))])
 tm:hoI ds ds.length=[]->wd≠"sum"->12 < (pcs ds).length->∃a,x=.ref a/\H a=some (iK a (.ref CT) none)
 ok:hoI ds ds.length=[]->(wd≠"sum"->(pcs ds).length<=12)->x=.non
theorem QSt.of {wd : Str}(go : ∀ x H', aS H H' -> KSt CH CT H' x ds wd -> Q x H'): QSt CH CT H Q ds wd :=
  have no : ∀ {k r}, tX ds -> hoI ds ds.length = k :: r -> False := λnh e => by
    obtain ⟨d, hd, hh, _⟩ := Ez e;exact nh d (mem_of_getElem? hd) hh
  ⟨λk d hk hd hj a dx H' s' ea ed => go _ _ s' ⟨λk' r e => by
      obtain ⟨d', hk', hd', hj'⟩ := Ez e;have : k = k' := by
        rcases Nat.lt_trichotomy k k' with z | z | z
        · exact absurd hd (hj' k d z hk)
        · exact z
        · exact absurd hd' (hj k' d' z hk')
      subst this;exact ⟨a, dx, rfl, ea, ed⟩, λe => absurd hd (Ke e d (mem_of_getElem? hk)), λe => absurd hd (Ke e d (mem_of_getElem? hk))⟩,
   λnh ws c a H' s' ea => go _ _ s' ⟨λk r e => absurd e λe => no nh e, λ_ _ _ => ⟨a, rfl, ea⟩, λ_ z => absurd (z ws) ()⟩,
   λnh c H' s' => go _ _ s' ⟨λk r e => absurd e λe => no nh e, λ_ ws z => absurd (c ws) (), λ_ _ => rfl⟩⟩
structure FhC (K:Frag) (CH:Addr):Prop where
 hh:W.hasDictIn K CH=true
 nn:W.findIn K (.ref CH) "number"=some none
inductive Ge (CN:Addr) (K:Frag) (vs:List V) (H:Hp) (Q:VK) (E:XK):Prop where
 |mk (n l r:Addr) (us:List V) (a b m:Nat) (ds:List RD):vs=[.ref n,.ref r,.int (a:Int),.int (b:Int)]->NA CN K H n l m ds->SqL K H r us->Rts K H us ds->a < m->b < m->(∀H',aS H H'->Q (.bl true) H')->Ge CN K vs H Q E
abbrev Sq:Stmt:=top 109
theorem wS:aP ["_law_net_here","_law_rows_here","_law_a","_law_b","_law_holds","_law_pieces","_law_word","_law_kept"] ["_law_net_here","_law_rows_here","_law_a","_law_b"] (aI Sq):=sK9
theorem Ux (m:Nat)(m1:1<=m)(ds:List RD):(eU m ds).length<=m - 1:=by
 obtain⟨k,rfl⟩:∃k,m=k+1:=⟨m - 1,()⟩
 unfold eU;rw[length_map,range_succ_eq_map,filter_cons_of_neg ⋯];have:=length_filter_le (λp=>decide (mk (k+1) ds p≠mk (k+1) ds 0)) ((List.range k).map Nat.succ);rw[length_map,length_range] at this;lia
theorem Jp (h:x∈eU m ds):∃p:Nat,x=(p:Int)/\p < m:=by
 obtain⟨p,hp,rfl⟩:=mem_map.mp h;exact⟨p,rfl,mem_range.mp (mem_filter.mp hp).1⟩
def pcF (fs:List Int):List RD:=fs.map λp=>(.pc,p,0,(5,3))
theorem Za (n:Nat)(ht:H t=some (.tup xs))(h0:0<=j)(h6:j < 6):∃x:V,atI [V.int (-1),.int (n:Int),.bl true,.non,.str "0",.ref t] j=some x/\(∀H',aS H H'->jU K H' x)/\cV (n:Int) x=false:=by
 have:j=0\/j=1\/j=2\/j=3\/j=4\/j=5:=by lia
 rcases this with rfl | rfl | rfl | rfl | rfl | rfl
 ·exact⟨_,rfl,λ_ _=>.inl ⟨_,rfl⟩,rfl⟩
 ·exact⟨_,rfl,λ_ _=>.inl ⟨_,rfl⟩,decide_eq_false ()⟩
 ·exact⟨_,rfl,λ_ _=>.inr ⟨_,.bl _,by simp[iD]⟩,rfl⟩
 ·exact⟨_,rfl,λ_ _=>.inr ⟨_,.non,by simp[iD]⟩,rfl⟩
 ·exact⟨_,rfl,λ_ _=>.inr ⟨_,.str _,by simp[iD]⟩,rfl⟩
 ·exact⟨_,rfl,λH' s=>.inr ⟨_,.tup (s _ _ ht),by simp[iD]⟩,rfl⟩
structure NR (CN:Addr) (K:Frag) (H:Hp) (n l r:Addr) (us:List V) (m:Nat) (ds:List RD):Prop where
 a:NA CN K H n l m ds
 sl:SqL K H r us
 rt:Rts K H us ds
theorem NR.same (s:aS H H')(h:NR CN K H n l r us m ds):NR CN K H' n l r us m ds:=⟨h.a.same s,s.seq h.sl,h.rt.same s⟩
theorem Yi (A:NA CN K H n l m ds)(hp:p < m)(hq:q < m)(go:∀x H',aS H H'->Kpt CG CF K H' x m ds->Q x H'):tU CN CP CH CT CG CF K [.str "between",.ref n,.int (p:Int),.int (q:Int)] H Q E:=by
 have px:(cV (m:Int) (.int (p:Int)) && cV (m:Int) (.int (q:Int)))=true:=by
  have h1:cV (m:Int) (.int (p:Int))=true:=decide_eq_true ⟨(),()⟩;have h2:cV (m:Int) (.int (q:Int))=true:=decide_eq_true ⟨(),()⟩;rw[h1,h2];rfl
 skip
 refine⟨n,l,_,_,m,ds,A,.inl ⟨_,rfl⟩,.inl ⟨_,rfl⟩,"between",rfl,.inr (.inl ⟨px,rfl,?_⟩)⟩;exact⟨λc rr e a dx p t us' H2 s2 ea ed ep st ft=>go _ _ s2 ⟨λc' rr' e'=>by
   obtain rfl:c=c':=by rw[e] at e';exact(List.cons.inj e').1
   exact⟨a,dx,p,t,us',rfl,ea,ed,ep,st,ft⟩,λz=>absurd (e.symm.trans z) ⋯,λz=>absurd (e.symm.trans z) ⋯⟩,
  λe1 e2 a dx p H2 s2 ea ed ep=>go _ _ s2 ⟨λc rr z=>absurd (e1.symm.trans z) ⋯,λ_ _=>⟨a,dx,p,rfl,ea,ed,ep⟩,λ_ z=>absurd z e2⟩,
  λe1 e2 H2 s2=>go _ _ s2 ⟨λc rr z=>absurd (e1.symm.trans z) ⋯,λ_ z=>absurd e2 z,λ_ _=>rfl⟩⟩
inductive Fa (K:Frag) (vs:List V) (H:Hp) (Q:VK) (E:XK):Prop where
 |mk (a:Addr) (ns:List Int):vs=[.ref a]->SqL K H a (ns.map V.int)->ns.length<=63->(∀H',Q (.bl true) H')->Fa K vs H Q E
abbrev Am:Stmt:=top 110
theorem tO:aP ["_law_script","_law_many","_law_rows_here","_law_net_here","_law_a","_law_b","_law_odd","_law_point"] ["_law_script"] (aI Am):=sK9
theorem Em:∀{cs:List Value},W.kitAny K t cs=some false->∀c∈cs,W.kitOne K t c=some false
 | [],_,c,h=>by cases h
 |d :: r,e,c,h=>by
  unfold W.kitAny at e
  cases hd:W.kitOne K t d with
  |none=>rw[hd] at e;cases e
  |some b=>
   rw[hd] at e
   cases b with
   |true=>cases e
   |false=>
    rcases mem_cons.mp h with z | z
    ·rw[z];exact hd
    ·exact Em e c z
theorem Wg {mg:Str->Option Value}(h0:mg "NoNumber"=some (.ref n0))(h1:mg "NoPoint"=some (.ref n1))(h2:mg "NoSize"=some (.ref n2))(h3:mg "NoRow"=some (.ref n3))(h4:mg "NoWord"=some (.ref n4))(h5:mg "NoName"=some (.ref n5))(h6:mg "NoStreams"=some (.ref n6))(h7:mg "NoRoad"=some (.ref n7))(h8:mg "TooMany"=some (.ref n8))(h9:mg "Lame"=some (.ref n9))(h10:mg "Ring"=some (.ref n10))(h11:mg "Floats"=some (.ref n11))(h12:mg "Held"=some (.ref n12)):∀(i:Nat) (n:Str),kNm[i]?=some n->∃c,[n0,n1,n2,n3,n4,n5,n6,n7,n8,n9,n10,n11,n12][i]?=some c/\mg n=some (.ref c):=λi n h=>by
 match i,h with
 |0,h=>cases h;exact⟨_,rfl,h0⟩
 |1,h=>cases h;exact⟨_,rfl,h1⟩
 |2,h=>cases h;exact⟨_,rfl,h2⟩
 |3,h=>cases h;exact⟨_,rfl,h3⟩
 |4,h=>cases h;exact⟨_,rfl,h4⟩
 |5,h=>cases h;exact⟨_,rfl,h5⟩
 |6,h=>cases h;exact⟨_,rfl,h6⟩
 |7,h=>cases h;exact⟨_,rfl,h7⟩
 |8,h=>cases h;exact⟨_,rfl,h8⟩
 |9,h=>cases h;exact⟨_,rfl,h9⟩
 |10,h=>cases h;exact⟨_,rfl,h10⟩
 |11,h=>cases h;exact⟨_,rfl,h11⟩
 |12,h=>cases h;exact⟨_,rfl,h12⟩
theorem yF {cs:List Addr}(ex:yJ K C)(ve:W.kitOne K (.ref C) (.type "ValueError")=some true)(hm:∀(i:Nat) (n:Str),kNm[i]?=some n->∃c,cs[i]?=some c/\mg n=some (.ref c))(hj:cs[j]?=some C)(hf:W.kitAny K (.ref C) ((cs.eraseIdx j).map Value.ref)=some false):KiC K mg C j:=
 ⟨ex,ve,λi n h=>by
  obtain⟨c,hc,mc⟩:=hm i n h;refine⟨c,mc,?_⟩
  by_cases e:i=j
  ·subst e;rw[hj] at hc;cases hc;rw[decide_eq_true rfl];exact rE _ _
  ·rw[decide_eq_false e];refine Em hf _ (mem_map.mpr ⟨c,?_,rfl⟩);rw[mem_eraseIdx_iff_getElem?];exact⟨i,e,hc⟩⟩
theorem qk1 (F:aK P w K mg base (CX1 P w) 3 g gd ["some","many"] (wX K CP)):aK P w K mg base CX0 3 g gd ["some","many"] (qd1 K):=
 F.calm.weak λvs H Q E h=>by
  obtain⟨l,i,j,m,rfl,hl,i0,i1,j0,j1,q⟩:=h;have e:[V.int i,V.int j].all (cV m)=true:=by
   show (decide (0<=i/\i < m) && (decide (0<=j/\j < m) && true))=true;rw[decide_eq_true ⟨i0,i1⟩,decide_eq_true ⟨j0,j1⟩];rfl
  exact⟨l,_,m,rfl,hl,⋯,λx hx=>by rcases mem_cons.mp hx with z | z;exact .inl ⟨i,z⟩;exact .inl ⟨j,mem_singleton.mp z⟩,λ_=>q,λz=>by rw[e] at z;cases z⟩
abbrev Fh:Stmt:=top 80
theorem Wl:aP ["net","a","rows","joining","waiting","settled","point","here","step","end","length"] ["net","a"] (aI Fh):=sK9
instance:Inhabited World:=⟨⟨λ_ _=>0,{strHash:=λ_=>0,shareClass:=id,mergeTok:=id,idOf:=λ_=>0,idOfShared:=λ_ _=>0,followText:=λ_=>true,idOfImm:=λ_=>0}⟩⟩
set_option genInjectivity false in
structure CZ where
 P:Program
 w:World
 K:Frag
 mg:Str->Option Value
 (c_Row c_Piece c_Push c_Hold c_Net c_OhmError c_Ring c_Floats c_Held c_Lame c_NoName c_NoNumber c_NoPoint c_NoRoad c_NoRow c_NoSize c_NoStreams c_NoWord c_TooMany f1 f2 f3 f4 f5 f6 f7 f8 f9 f10 f11 f12 f13 f14 f15 f16 f17 f18 f19 f20 f21 f22 f23 f24 f25 f26 f27 f28 f29 f30 f31 f32 f33 f34 f35 f36 f37 f38 f39 f40 f41 f42 f43 f44 f45 f46 f47 f48 f49 f50 f51 f52 f53 f54 f55 f56 f57 f58 f59 f60 f61 f62 f63 f64 f65 f66 f67 f68 f69 f70 f71 f72 f73 f74 f75 f76 f77 f78 f79 f80 f81 f82 f83 f84:Addr)
 (d1 d2 d3 d4 d5 d7 d8 d9 d10 d11 d12 d13 d14 d15 d16 d17 d18 d19 d20 d21 d22 d23 d24 d25 d26 d27 d28 d29 d30 d31 d32 d33 d34 d35 d37 d38 d39 d40 d41 d42 d43 d44 d45 d46 d47 d48 d49 d50 d51 d52 d53 d54 d55 d56 d57 d58 d59 d60 d61 d62 d63 d64 d65 d66 d67 d68 d69 d70 d71 d72 d73 d74 d75 d76 d77 d78 d79 d80 d81 d82 d83:FuncData)
 (od6 an6:Option Addr)
 sl6:Array (Option Value)
 (oc6 kV6 dc6 pm6 cd6 ct6:Value)
 T6:Addr
 oT6:Value
 dT6:Option Addr
 nT6:Nat
 sT6:Array (Option Value)
 tk6:Tok
 (od36 an36:Option Addr)
 sl36:Array (Option Value)
 (oc36 kV36 dc36 pm36 cd36 ct36:Value)
 T36:Addr
 oT36:Value
 dT36:Option Addr
 nT36:Nat
 sT36:Array (Option Value)
 (od84 an84:Option Addr)
 sl84:Array (Option Value)
 (oc84 kV84 dc84 pm84 cd84 ct84:Value)
 (aO aN aJ:Addr)
 dJ:Option Addr
 nJ:Nat
 sJ:Array (Option Value)
 (tj0 tj1 tM tR tMP:Tok)
 (nE qE:Str)
 NE:Addr
 bsE:List Value
 snE:List Str
 suE:List Value
 abE:Bool
 coE:Option Bool
 ddE:Option Addr
 (k0E k1E k2E k3E k5E:Option Value)
 hdE:Bool
noncomputable instance:Inhabited CZ:=⟨by constructor<;>exact default⟩
class GZ (c:outParam CZ):Prop where
 mc_OhmError:mI9 c.mg "OhmError" c.c_OhmError
 mc_Ring:mI9 c.mg "Ring" c.c_Ring
 mc_Floats:mI9 c.mg "Floats" c.c_Floats
 mc_Held:mI9 c.mg "Held" c.c_Held
 mc_NoPoint:mI9 c.mg "NoPoint" c.c_NoPoint
 mc_NoRoad:mI9 c.mg "NoRoad" c.c_NoRoad
 mc_TooMany:mI9 c.mg "TooMany" c.c_TooMany
 i1:W.isFn c.K (.ref c.f1)=true
 F1:aW c.K "__init__" "Floats.__init__" Gq .none c.f1 c.d1
 F2:aW c.K "__init__" "Ring.__init__" Cc .none c.f2 c.d2
 m3:mI9 c.mg "is_whole" c.f3
 F3:aW c.K "is_whole" "is_whole" Go .none c.f3 c.d3
 m4:mI9 c.mg "greatest_common" c.f4
 F4:aW c.K "greatest_common" "greatest_common" sGc .none c.f4 c.d4
 m5:mI9 c.mg "under" c.f5
 F5:aW c.K "under" "under" Ie .none c.f5 c.d5
 m6:mI9 c.mg "fraction" c.f6
 l6:c.K.lookup c.f6=some ⟨c.oc6,c.od6,.func (W.fnOf "fraction" "fraction" (eJ lZ) (cU lZ) (aI lZ) (.ref c.T6) c.kV6 c.dc6 c.pm6 c.an6 c.cd6 c.ct6),c.sl6⟩
 c6:W.codeIn c.K c.cd6 "fraction"=true
 k6:kI9 c.K c.f6
 lt6:c.K.lookup c.T6=some ⟨c.oT6,c.dT6,.seq #[.int 1 c.tk6] c.nT6,c.sT6⟩
 m7:mI9 c.mg "minus" c.f7
 F7:aW c.K "minus" "minus" Gu .none c.f7 c.d7
 m8:mI9 c.mg "plus" c.f8
 F8:aW c.K "plus" "plus" Ou .none c.f8 c.d8
 m9:mI9 c.mg "times" c.f9
 F9:aW c.K "times" "times" Hu .none c.f9 c.d9
 m10:mI9 c.mg "over" c.f10
 F10:aW c.K "over" "over" Td .none c.f10 c.d10
 m11:mI9 c.mg "total" c.f11
 F11:aW c.K "total" "total" Ig .none c.f11 c.d11
 F12:aW c.K "__init__" "Held.__init__" Bq .none c.f12 c.d12
 m13:mI9 c.mg "is_fraction" c.f13
 F13:aW c.K "is_fraction" "is_fraction" qg2 .none c.f13 c.d13
 F14:aW c.K "__init__" "Row.__init__" Ih .none c.f14 c.d14
 a15_0:W.findIn c.K (.ref c.c_Piece) "word"=some (some (.ref c.f15))
 i15:W.isFn c.K (.ref c.f15)=true
 F15:aW c.K "word" "Piece.word" vK .none c.f15 c.d15
 a16_0:W.findIn c.K (.ref c.c_Push) "word"=some (some (.ref c.f16))
 i16:W.isFn c.K (.ref c.f16)=true
 F16:aW c.K "word" "Push.word" uY .none c.f16 c.d16
 a17_0:W.findIn c.K (.ref c.c_Hold) "word"=some (some (.ref c.f17))
 i17:W.isFn c.K (.ref c.f17)=true
 F17:aW c.K "word" "Hold.word" xC .none c.f17 c.d17
 a18_0:W.findIn c.K (.ref c.c_Piece) "joins"=some (some (.ref c.f18))
 i18:W.isFn c.K (.ref c.f18)=true
 F18:aW c.K "joins" "Piece.joins" rV .none c.f18 c.d18
 a19_0:W.findIn c.K (.ref c.c_Push) "joins"=some (some (.ref c.f19))
 i19:W.isFn c.K (.ref c.f19)=true
 F19:aW c.K "joins" "Push.joins" rX .none c.f19 c.d19
 a20_0:W.findIn c.K (.ref c.c_Hold) "joins"=some (some (.ref c.f20))
 i20:W.isFn c.K (.ref c.f20)=true
 F20:aW c.K "joins" "Hold.joins" tI .none c.f20 c.d20
 a21_0:W.findIn c.K (.ref c.c_Piece) "told"=some (some (.ref c.f21))
 a21_1:W.findIn c.K (.ref c.c_Push) "told"=some (some (.ref c.f21))
 a21_2:W.findIn c.K (.ref c.c_Hold) "told"=some (some (.ref c.f21))
 i21:W.isFn c.K (.ref c.f21)=true
 F21:aW c.K "told" "Row.told" Fb .none c.f21 c.d21
 m22:mI9 c.mg "row_of" c.f22
 F22:aW c.K "row_of" "row_of" Hi .none c.f22 c.d22
 m23:mI9 c.mg "is_piece_size" c.f23
 F23:aW c.K "is_piece_size" "is_piece_size" sPS .none c.f23 c.d23
 m24:mI9 c.mg "is_number_below" c.f24
 F24:aW c.K "is_number_below" "is_number_below" sNB .none c.f24 c.d24
 m25:mI9 c.mg "refuse_size" c.f25
 F25:aW c.K "refuse_size" "refuse_size" sRS .none c.f25 c.d25
 m26:mI9 c.mg "refuse_points" c.f26
 F26:aW c.K "refuse_points" "refuse_points" sRP .none c.f26 c.d26
 F27:aW c.K "__init__" "Net.__init__" Gm .none c.f27 c.d27
 a28_0:W.findIn c.K (.ref c.c_Net) "many"=some (some (.ref c.f28))
 i28:W.isFn c.K (.ref c.f28)=true
 F28:aW c.K "many" "Net.many" Sn .none c.f28 c.d28
 a29_0:W.findIn c.K (.ref c.c_Net) "add"=some (some (.ref c.f29))
 i29:W.isFn c.K (.ref c.f29)=true
 F29:aW c.K "add" "Net.add" qc6 .none c.f29 c.d29
 a30_0:W.findIn c.K (.ref c.c_Net) "rows"=some (some (.ref c.f30))
 i30:W.isFn c.K (.ref c.f30)=true
 F30:aW c.K "rows" "Net.rows" Om .none c.f30 c.d30
 m31:mI9 c.mg "joined" c.f31
 F31:aW c.K "joined" "joined" Cr .none c.f31 c.d31
 m32:mI9 c.mg "marks_of" c.f32
 F32:aW c.K "marks_of" "marks_of" Hv .none c.f32 c.d32
 m33:mI9 c.mg "floating" c.f33
 F33:aW c.K "floating" "floating" Ht .none c.f33 c.d33
 m34:mI9 c.mg "steps_from" c.f34
 F34:aW c.K "steps_from" "steps_from" Gr .none c.f34 c.d34
 m35:mI9 c.mg "way_along" c.f35
 F35:aW c.K "way_along" "way_along" qb3 .none c.f35 c.d35
 m36:mI9 c.mg "rings" c.f36
 l36:c.K.lookup c.f36=some ⟨c.oc36,c.od36,.func (W.fnOf "rings" "rings" (eJ iI) (cU iI) (aI iI) (.ref c.T36) c.kV36 c.dc36 c.pm36 c.an36 c.cd36 c.ct36),c.sl36⟩
 c36:W.codeIn c.K c.cd36 "rings"=true
 k36:kI9 c.K c.f36
 lt36:c.K.lookup c.T36=some ⟨c.oT36,c.dT36,.seq #[.none] c.nT36,c.sT36⟩
 m37:mI9 c.mg "ring_sum" c.f37
 F37:aW c.K "ring_sum" "ring_sum" Pg .none c.f37 c.d37
 m38:mI9 c.mg "raise_at" c.f38
 F38:aW c.K "raise_at" "raise_at" Fe .none c.f38 c.d38
 m39:mI9 c.mg "enter_stream" c.f39
 F39:aW c.K "enter_stream" "enter_stream" Fj .none c.f39 c.d39
 m40:mI9 c.mg "enter_piece" c.f40
 F40:aW c.K "enter_piece" "enter_piece" Da .none c.f40 c.d40
 m41:mI9 c.mg "enter_push" c.f41
 F41:aW c.K "enter_push" "enter_push" Ay .none c.f41 c.d41
 m42:mI9 c.mg "enter_hold" c.f42
 F42:aW c.K "enter_hold" "enter_hold" Cs .none c.f42 c.d42
 m43:mI9 c.mg "equations" c.f43
 F43:aW c.K "equations" "equations" Zp .none c.f43 c.d43
 m44:mI9 c.mg "in_wholes" c.f44
 F44:aW c.K "in_wholes" "in_wholes" sIW .none c.f44 c.d44
 m45:mI9 c.mg "pivot_place" c.f45
 F45:aW c.K "pivot_place" "pivot_place" qg7 .none c.f45 c.d45
 m46:mI9 c.mg "cleared" c.f46
 F46:aW c.K "cleared" "cleared" qe0 .none c.f46 c.d46
 m47:mI9 c.mg "cleared_rows" c.f47
 F47:aW c.K "cleared_rows" "cleared_rows" wO .none c.f47 c.d47
 m48:mI9 c.mg "eliminated" c.f48
 F48:aW c.K "eliminated" "eliminated" Qy .none c.f48 c.d48
 m49:mI9 c.mg "solved" c.f49
 F49:aW c.K "solved" "solved" Ce .none c.f49 c.d49
 m50:mI9 c.mg "refuse_unanswered" c.f50
 F50:aW c.K "refuse_unanswered" "refuse_unanswered" qc7 .none c.f50 c.d50
 m51:mI9 c.mg "heights_by" c.f51
 F51:aW c.K "heights_by" "heights_by" Zz .none c.f51 c.d51
 m52:mI9 c.mg "pushed_heights" c.f52
 F52:aW c.K "pushed_heights" "pushed_heights" qf0 .none c.f52 c.d52
 m53:mI9 c.mg "between" c.f53
 F53:aW c.K "between" "between" Yx .none c.f53 c.d53
 m54:mI9 c.mg "refuse_holds" c.f54
 F54:aW c.K "refuse_holds" "refuse_holds" Yt .none c.f54 c.d54
 m55:mI9 c.mg "least_from" c.f55
 F55:aW c.K "least_from" "least_from" Fh .none c.f55 c.d55
 m56:mI9 c.mg "distances" c.f56
 F56:aW c.K "distances" "distances" Qe .none c.f56 c.d56
 m57:mI9 c.mg "least_road" c.f57
 F57:aW c.K "least_road" "least_road" Gk .none c.f57 c.d57
 m58:mI9 c.mg "weight" c.f58
 F58:aW c.K "weight" "weight" Cl .none c.f58 c.d58
 m59:mI9 c.mg "tree_sum" c.f59
 F59:aW c.K "tree_sum" "tree_sum" sTS .none c.f59 c.d59
 m60:mI9 c.mg "piece_numbers" c.f60
 F60:aW c.K "piece_numbers" "piece_numbers" Rf .none c.f60 c.d60
 m61:mI9 c.mg "is_behind" c.f61
 F61:aW c.K "is_behind" "is_behind" Zj .none c.f61 c.d61
 m62:mI9 c.mg "larger_forests" c.f62
 F62:aW c.K "larger_forests" "larger_forests" qd8 .none c.f62 c.d62
 m63:mI9 c.mg "forests" c.f63
 F63:aW c.K "forests" "forests" Si .none c.f63 c.d63
 m64:mI9 c.mg "refuse_many_pieces" c.f64
 F64:aW c.K "refuse_many_pieces" "refuse_many_pieces" qb1 .none c.f64 c.d64
 m65:mI9 c.mg "trees" c.f65
 F65:aW c.K "trees" "trees" Ft .none c.f65 c.d65
 m66:mI9 c.mg "partings" c.f66
 F66:aW c.K "partings" "partings" Tx .none c.f66 c.d66
 m67:mI9 c.mg "_law_draw" c.f67
 F67:aW c.K "_law_draw" "_law_draw" Tp .none c.f67 c.d67
 m68:mI9 c.mg "_law_mix" c.f68
 F68:aW c.K "_law_mix" "_law_mix" Bf .none c.f68 c.d68
 m69:mI9 c.mg "_law_part" c.f69
 F69:aW c.K "_law_part" "_law_part" Qm .none c.f69 c.d69
 m70:mI9 c.mg "_law_lowest" c.f70
 F70:aW c.K "_law_lowest" "_law_lowest" Ak .none c.f70 c.d70
 m71:mI9 c.mg "_law_plus" c.f71
 F71:aW c.K "_law_plus" "_law_plus" Ib .none c.f71 c.d71
 m72:mI9 c.mg "_law_less" c.f72
 F72:aW c.K "_law_less" "_law_less" Hh .none c.f72 c.d72
 m73:mI9 c.mg "_law_net" c.f73
 F73:aW c.K "_law_net" "_law_net" Ho .none c.f73 c.d73
 m74:mI9 c.mg "_law_kinds" c.f74
 F74:aW c.K "_law_kinds" "_law_kinds" sKi .none c.f74 c.d74
 m75:mI9 c.mg "_law_joined" c.f75
 F75:aW c.K "_law_joined" "_law_joined" Ta .none c.f75 c.d75
 m76:mI9 c.mg "_law_first_ring" c.f76
 F76:aW c.K "_law_first_ring" "_law_first_ring" sFR .none c.f76 c.d76
 m77:mI9 c.mg "_law_apart" c.f77
 F77:aW c.K "_law_apart" "_law_apart" sAp .none c.f77 c.d77
 m78:mI9 c.mg "_law_of_the_net" c.f78
 F78:aW c.K "_law_of_the_net" "_law_of_the_net" sOf .none c.f78 c.d78
 m79:mI9 c.mg "_law_rows" c.f79
 F79:aW c.K "_law_rows" "_law_rows" sRw .none c.f79 c.d79
 m80:mI9 c.mg "_law_asked" c.f80
 F80:aW c.K "_law_asked" "_law_asked" qc0 .none c.f80 c.d80
 m81:mI9 c.mg "_law_refusal" c.f81
 F81:aW c.K "_law_refusal" "_law_refusal" qh4 .none c.f81 c.d81
 m82:mI9 c.mg "_law_no_point" c.f82
 F82:aW c.K "_law_no_point" "_law_no_point" qb4 .none c.f82 c.d82
 m83:mI9 c.mg "_law_sets" c.f83
 F83:aW c.K "_law_sets" "_law_sets" Sq .none c.f83 c.d83
 m84:mI9 c.mg "law" c.f84
 l84:c.K.lookup c.f84=some ⟨c.oc84,c.od84,.func (W.fnOf "law" "law" (eJ Am) (cU Am) (aI Am) .none c.kV84 c.dc84 c.pm84 c.an84 c.cd84 c.ct84),c.sl84⟩
 c84:W.codeIn c.K c.cd84 "law"=true
 k84:kI9 c.K c.f84
 mv_ONE:mI9 c.mg "ONE" c.aO
 mv_NOUGHT:mI9 c.mg "NOUGHT" c.aN
 mv_JOINING_WORDS:mI9 c.mg "JOINING_WORDS" c.aJ
 mv_MOST_POINTS:c.mg "MOST_POINTS"=some (.int 20 c.tM)
 mv_MOST_ROWS:c.mg "MOST_ROWS"=some (.int 40 c.tR)
 mv_MOST_PIECES:c.mg "MOST_PIECES"=some (.int 12 c.tMP)
 lE:c.K.lookup c.c_OhmError=some (excClassObj c.nE c.qE c.c_OhmError c.NE c.bsE pF c.hdE c.snE c.suE c.abE c.coE c.ddE c.k0E c.k1E c.k2E c.k3E c.k5E "ValueError.__new__")
 x1_NoPoint:W.excIn c.K c.c_NoPoint pF "ValueError.__new__"=true
 x1_NoRoad:W.excIn c.K c.c_NoRoad pF "ValueError.__new__"=true
 x1_TooMany:W.excIn c.K c.c_TooMany pF "ValueError.__new__"=true
 tF:W.kitAny c.K (.ref c.c_Floats) [.ref c.c_NoNumber,.ref c.c_NoPoint,.ref c.c_NoSize,.ref c.c_NoRow,.ref c.c_NoWord,.ref c.c_NoName,.ref c.c_NoStreams,.ref c.c_NoRoad,.ref c.c_TooMany,.ref c.c_Lame,.ref c.c_Ring,.ref c.c_Held]=some false
 tG:W.kitAny c.K (.ref c.c_Ring) [.ref c.c_NoNumber,.ref c.c_NoPoint,.ref c.c_NoSize,.ref c.c_NoRow,.ref c.c_NoWord,.ref c.c_NoName,.ref c.c_NoStreams,.ref c.c_NoRoad,.ref c.c_TooMany,.ref c.c_Lame,.ref c.c_Floats,.ref c.c_Held]=some false
 tP:W.kitAny c.K (.ref c.c_NoPoint) [.ref c.c_NoNumber,.ref c.c_NoSize,.ref c.c_NoRow,.ref c.c_NoWord,.ref c.c_NoName,.ref c.c_NoStreams,.ref c.c_NoRoad,.ref c.c_TooMany,.ref c.c_Lame,.ref c.c_Ring,.ref c.c_Floats,.ref c.c_Held]=some false
 tH:W.kitAny c.K (.ref c.c_Held) [.ref c.c_NoNumber,.ref c.c_NoPoint,.ref c.c_NoSize,.ref c.c_NoRow,.ref c.c_NoWord,.ref c.c_NoName,.ref c.c_NoStreams,.ref c.c_NoRoad,.ref c.c_TooMany,.ref c.c_Lame,.ref c.c_Ring,.ref c.c_Floats]=some false
 tT:W.kitAny c.K (.ref c.c_TooMany) [.ref c.c_NoNumber,.ref c.c_NoPoint,.ref c.c_NoSize,.ref c.c_NoRow,.ref c.c_NoWord,.ref c.c_NoName,.ref c.c_NoStreams,.ref c.c_NoRoad,.ref c.c_Lame,.ref c.c_Ring,.ref c.c_Floats,.ref c.c_Held]=some false
 vF:W.kitOne c.K (.ref c.c_Floats) (.type "ValueError")=some true
 vG:W.kitOne c.K (.ref c.c_Ring) (.type "ValueError")=some true
 vP:W.kitOne c.K (.ref c.c_NoPoint) (.type "ValueError")=some true
 vH:W.kitOne c.K (.ref c.c_Held) (.type "ValueError")=some true
 vT:W.kitOne c.K (.ref c.c_TooMany) (.type "ValueError")=some true
 x2_Floats:W.findIn c.K (.ref c.c_Floats) "__getattribute__"=some (some (.builtin "BaseException.__getattribute__"))
 x3_Floats:W.findIn c.K (.ref c.c_Floats) "__getattr__"=some none
 x4_Floats:W.mroIn c.K c.c_Floats (.type "BaseException")=some true
 x5_Floats:W.mroIn c.K c.c_Floats (.type "object")=some true
 x6_Floats:W.findIn c.K (.ref c.c_Floats) "__class__"=some (some (.builtin "object.__class__"))
 x7_Floats:W.specialIn c.K (.builtin "object.__class__") "__get__"=some (some (.builtin "getset_descriptor.__get__"))
 x8_Floats:W.takesIn c.K (.builtin "object.__class__")=some true
 x9_Floats:(W.clsIn c.K c.c_Floats).isSome=true
 x2_Ring:W.findIn c.K (.ref c.c_Ring) "__getattribute__"=some (some (.builtin "BaseException.__getattribute__"))
 x3_Ring:W.findIn c.K (.ref c.c_Ring) "__getattr__"=some none
 x4_Ring:W.mroIn c.K c.c_Ring (.type "BaseException")=some true
 x5_Ring:W.mroIn c.K c.c_Ring (.type "object")=some true
 x6_Ring:W.findIn c.K (.ref c.c_Ring) "__class__"=some (some (.builtin "object.__class__"))
 x9_Ring:(W.clsIn c.K c.c_Ring).isSome=true
 x2_NoPoint:W.findIn c.K (.ref c.c_NoPoint) "__getattribute__"=some (some (.builtin "BaseException.__getattribute__"))
 x3_NoPoint:W.findIn c.K (.ref c.c_NoPoint) "__getattr__"=some none
 x4_NoPoint:W.mroIn c.K c.c_NoPoint (.type "BaseException")=some true
 x5_NoPoint:W.mroIn c.K c.c_NoPoint (.type "object")=some true
 x6_NoPoint:W.findIn c.K (.ref c.c_NoPoint) "__class__"=some (some (.builtin "object.__class__"))
 x9_NoPoint:(W.clsIn c.K c.c_NoPoint).isSome=true
 x2_Held:W.findIn c.K (.ref c.c_Held) "__getattribute__"=some (some (.builtin "BaseException.__getattribute__"))
 x3_Held:W.findIn c.K (.ref c.c_Held) "__getattr__"=some none
 x4_Held:W.mroIn c.K c.c_Held (.type "BaseException")=some true
 x5_Held:W.mroIn c.K c.c_Held (.type "object")=some true
 x6_Held:W.findIn c.K (.ref c.c_Held) "__class__"=some (some (.builtin "object.__class__"))
 x9_Held:(W.clsIn c.K c.c_Held).isSome=true
 x2_TooMany:W.findIn c.K (.ref c.c_TooMany) "__getattribute__"=some (some (.builtin "BaseException.__getattribute__"))
 x3_TooMany:W.findIn c.K (.ref c.c_TooMany) "__getattr__"=some none
 x4_TooMany:W.mroIn c.K c.c_TooMany (.type "BaseException")=some true
 x5_TooMany:W.mroIn c.K c.c_TooMany (.type "object")=some true
 x6_TooMany:W.findIn c.K (.ref c.c_TooMany) "__class__"=some (some (.builtin "object.__class__"))
 x9_TooMany:(W.clsIn c.K c.c_TooMany).isSome=true
 lJ:c.K.lookup c.aJ=some ⟨.type "tuple",c.dJ,.seq #[.str "piece" c.tj0,.str "hold" c.tj1] c.nJ,c.sJ⟩
 n_len:c.mg "len"=none
 n_range:c.mg "range"=none
 n_str:c.mg "str"=none
 n_tuple:c.mg "tuple"=none
 n_list:c.mg "list"=none
 n_all:c.mg "all"=none
 n_zip:c.mg "zip"=none
 n_enumerate:c.mg "enumerate"=none
 n_ValueError:c.mg "ValueError"=none
 bl:Bl c.mg
 T:RT c.K c.mg c.c_Row (kd3 c.c_Piece c.c_Push c.c_Hold)
 fN:∀H:Hp,Fq c.K H c.aN (0,1)
 fO:∀H:Hp,Fq c.K H c.aO (1,1)
 NTx:NT c.K c.mg c.c_Net
 hm:∀(i:Nat) (n:Str),kNm[i]?=some n->∃ (q:Addr),[c.c_NoNumber,c.c_NoPoint,c.c_NoSize,c.c_NoRow,c.c_NoWord,c.c_NoName,c.c_NoStreams,c.c_NoRoad,c.c_TooMany,c.c_Lame,c.c_Ring,c.c_Floats,c.c_Held][i]?=some q ∧ c.mg n=some (.ref q)
 oc:OhC c.K c.mg c.c_NoPoint c.c_Held c.c_TooMany c.c_Ring c.c_Floats
 fc:FlC c.K c.c_Ring c.c_Floats
 fh:FhC c.K c.c_Held
 qIF:jD c.K c.c_Floats c.c_OhmError c.f1
 qIG:jD c.K c.c_Ring c.c_OhmError c.f2
 cI:Ld c.K c.c_OhmError
 qFF:wZ c.K c.c_Floats ("points")
 qGr:wZ c.K c.c_Ring ("ring")
 qGt:wZ c.K c.c_Ring ("total")
 qIH:jD c.K c.c_Held c.c_OhmError c.f12
 qHn:wZ c.K c.c_Held ("number")
 MK:∀k:Kd,Mk c.K (kd3 c.c_Piece c.c_Push c.c_Hold k) c.f14
 MN:Mk c.K c.c_Net c.f27
def OZ (c:CZ)(b:Heap):Prop:=aK c.P c.w c.K c.mg b CX0 13 c.f84 (W.fnOf ("law") ("law") (eJ Am) (cU Am) (aI Am) .none c.kV84 c.dc84 c.pm84 c.an84 c.cd84 c.ct84) ["_law_script"] (Fa c.K)
noncomputable def TZ:CZ×Heap:=Classical.epsilon λx=>GZ x.1/\¬OZ x.1 x.2
@[irreducible] noncomputable def Z:CZ:=TZ.1
@[irreducible] noncomputable def ZB:Heap:=TZ.2
abbrev FZ:=aK Z.P Z.w Z.K Z.mg ZB
abbrev DZ:=D9 Z.P Z.w Z.K Z.mg ZB
section
open Shp
open GZ hiding mk
variable [GZ Z]
theorem b1:aL Z.K Z.d1 ["self","points"] []:=F1.b2 "self" "points" (by intros;rfl)
theorem b2:aL Z.K Z.d2 ["self","ring","total"] []:=F2.b3 "self" "ring" "total" (by intros;rfl)
theorem F6:aW Z.K ("fraction") ("fraction") lZ (.ref Z.T6) Z.f6 (W.fnOf ("fraction") ("fraction") (eJ lZ) (cU lZ) (aI lZ) (.ref Z.T6) Z.kV6 Z.dc6 Z.pm6 Z.an6 Z.cd6 Z.ct6):=uH (st:=lZ) l6 c6 k6
theorem b6:aL Z.K (W.fnOf ("fraction") ("fraction") (eJ lZ) (cU lZ) (aI lZ) (.ref Z.T6) Z.kV6 Z.dc6 Z.pm6 Z.an6 Z.cd6 Z.ct6) ["top","bottom"] []:=λs us XX hl=>match us,hl with | [_,_],_=>W.binds_K (fd:=W.fnOf "fraction" "fraction" (eJ lZ) (cU lZ) (aI lZ) (.ref Z.T6) Z.kV6 Z.dc6 Z.pm6 Z.an6 Z.cd6 Z.ct6) XX rfl lt6 rfl rfl rfl
theorem bd6:aL Z.K (W.fnOf ("fraction") ("fraction") (eJ lZ) (cU lZ) (aI lZ) (.ref Z.T6) Z.kV6 Z.dc6 Z.pm6 Z.an6 Z.cd6 Z.ct6) ["top","bottom"] [.int 1 Z.tk6]:=λs us XX hl=>match us,(show us.length=1 by simp at hl;lia) with | [_],_=>W.binds_K (fd:=W.fnOf "fraction" "fraction" (eJ lZ) (cU lZ) (aI lZ) (.ref Z.T6) Z.kV6 Z.dc6 Z.pm6 Z.an6 Z.cd6 Z.ct6) XX rfl lt6 rfl rfl rfl
theorem b12:aL Z.K Z.d12 ["self","number"] []:=F12.b2 "self" "number" (by intros;rfl)
theorem b14:aL Z.K Z.d14 ["self","start","goal","size"] []:=F14.b4 "self" "start" "goal" "size" (by intros;rfl)
theorem b15:aL Z.K Z.d15 ["self"] []:=F15.b1 "self" (by intros;rfl)
theorem b16:aL Z.K Z.d16 ["self"] []:=F16.b1 "self" (by intros;rfl)
theorem b17:aL Z.K Z.d17 ["self"] []:=F17.b1 "self" (by intros;rfl)
theorem b18:aL Z.K Z.d18 ["self"] []:=F18.b1 "self" (by intros;rfl)
theorem b19:aL Z.K Z.d19 ["self"] []:=F19.b1 "self" (by intros;rfl)
theorem b20:aL Z.K Z.d20 ["self"] []:=F20.b1 "self" (by intros;rfl)
theorem b21:aL Z.K Z.d21 ["self"] []:=F21.b1 "self" (by intros;rfl)
theorem b26:aL Z.K Z.d26 ["some","many"] []:=F26.b2 "some" "many" (by intros;rfl)
theorem b27:aL Z.K Z.d27 ["self","many"] []:=F27.b2 "self" "many" (by intros;rfl)
theorem b28:aL Z.K Z.d28 ["self"] []:=F28.b1 "self" (by intros;rfl)
theorem b29:aL Z.K Z.d29 ["self","row"] []:=F29.b2 "self" "row" (by intros;rfl)
theorem b30:aL Z.K Z.d30 ["self"] []:=F30.b1 "self" (by intros;rfl)
theorem F36:aW Z.K ("rings") ("rings") iI (.ref Z.T36) Z.f36 (W.fnOf ("rings") ("rings") (eJ iI) (cU iI) (aI iI) (.ref Z.T36) Z.kV36 Z.dc36 Z.pm36 Z.an36 Z.cd36 Z.ct36):=uH (st:=iI) l36 c36 k36
theorem b36:aL Z.K (W.fnOf ("rings") ("rings") (eJ iI) (cU iI) (aI iI) (.ref Z.T36) Z.kV36 Z.dc36 Z.pm36 Z.an36 Z.cd36 Z.ct36) ["net","words"] []:=λs us XX hl=>match us,hl with | [_,_],_=>W.binds_K (fd:=W.fnOf "rings" "rings" (eJ iI) (cU iI) (aI iI) (.ref Z.T36) Z.kV36 Z.dc36 Z.pm36 Z.an36 Z.cd36 Z.ct36) XX rfl lt36 rfl rfl rfl
theorem bd36:aL Z.K (W.fnOf ("rings") ("rings") (eJ iI) (cU iI) (aI iI) (.ref Z.T36) Z.kV36 Z.dc36 Z.pm36 Z.an36 Z.cd36 Z.ct36) ["net","words"] [.none]:=λs us XX hl=>match us,(show us.length=1 by simp at hl;lia) with | [_],_=>W.binds_K (fd:=W.fnOf "rings" "rings" (eJ iI) (cU iI) (aI iI) (.ref Z.T36) Z.kV36 Z.dc36 Z.pm36 Z.an36 Z.cd36 Z.ct36) XX rfl lt36 rfl rfl rfl
theorem b50:aL Z.K Z.d50 ["net"] []:=F50.b1 "net" (by intros;rfl)
theorem b53:aL Z.K Z.d53 ["net","a","b"] []:=F53.b3 "net" "a" "b" (by intros;rfl)
theorem b54:aL Z.K Z.d54 ["net"] []:=F54.b1 "net" (by intros;rfl)
theorem b56:aL Z.K Z.d56 ["net","a"] []:=F56.b2 "net" "a" (by intros;rfl)
theorem b57:aL Z.K Z.d57 ["net","a","b"] []:=F57.b3 "net" "a" "b" (by intros;rfl)
theorem b59:aL Z.K Z.d59 ["net"] []:=F59.b1 "net" (by intros;rfl)
theorem b64:aL Z.K Z.d64 ["net"] []:=F64.b1 "net" (by intros;rfl)
theorem b65:aL Z.K Z.d65 ["net"] []:=F65.b1 "net" (by intros;rfl)
theorem b66:aL Z.K Z.d66 ["net","a","b"] []:=F66.b3 "net" "a" "b" (by intros;rfl)
theorem b80:aL Z.K Z.d80 ["_law_word","_law_net_here","_law_a","_law_b"] []:=F80.b4 "_law_word" "_law_net_here" "_law_a" "_law_b" (by intros;rfl)
theorem F84:aW Z.K ("law") ("law") Am .none Z.f84 (W.fnOf ("law") ("law") (eJ Am) (cU Am) (aI Am) .none Z.kV84 Z.dc84 Z.pm84 Z.an84 Z.cd84 Z.ct84):=uH (st:=Am) l84 c84 k84
theorem fJ0:∀H:Hp,SqT Z.K H Z.aJ [V.str ("piece"),V.str ("hold")]:=λH=>.inr ⟨_,_,_,lJ,rfl,rfl,(zl9 2),.cons ⟨_,rfl⟩ (.cons ⟨_,rfl⟩ .nil)⟩
theorem kG:KiC Z.K Z.mg Z.c_Ring 10:=yF ⟨x2_Ring,x3_Ring,x4_Ring,x5_Ring,x6_Ring,x7_Floats,x8_Floats,x9_Ring⟩ vG hm rfl tG
theorem kF:KiC Z.K Z.mg Z.c_Floats 11:=yF ⟨x2_Floats,x3_Floats,x4_Floats,x5_Floats,x6_Floats,x7_Floats,x8_Floats,x9_Floats⟩ vF hm rfl tF
theorem kP:KiC Z.K Z.mg Z.c_NoPoint 1:=yF ⟨x2_NoPoint,x3_NoPoint,x4_NoPoint,x5_NoPoint,x6_NoPoint,x7_Floats,x8_Floats,x9_NoPoint⟩ vP hm rfl tP
theorem kH:KiC Z.K Z.mg Z.c_Held 12:=yF ⟨x2_Held,x3_Held,x4_Held,x5_Held,x6_Held,x7_Floats,x8_Floats,x9_Held⟩ vH hm rfl tH
theorem kT:KiC Z.K Z.mg Z.c_TooMany 8:=yF ⟨x2_TooMany,x3_TooMany,x4_TooMany,x5_TooMany,x6_TooMany,x7_Floats,x8_Floats,x9_TooMany⟩ vT hm rfl tT
theorem R1:FZ CX0 1 Z.f1 Z.d1 ["self","points"] (Be Z.K Z.c_Floats):=by
 refine F1.ok9 Xd λcdv A outer s H vs Q E hr h=>?_;obtain⟨x,l,xs,rfl,hx,hS,h1000,q⟩:=h;refine⟨_,(aD (bS (xS rfl mc_OhmError cI (aA (pv 0) (aA (kB oY rfl n_tuple PyProof.Rows.boot_tuple (aA (pv 1) aC)) aC)))) (aF (Kw (pv 0) (kB lK rfl n_list PyProof.Rows.boot_list (aA (pv 1) aC)) rfl))),?_⟩;refine⟨_,rfl,_,rfl,l,xs,rfl,.inl ⟨hS,λt ht=>?_⟩⟩;have s1:=aE ht (.tup xs);have nt:t≠x:=λz=>by rw[z,hx] at ht;cases ht
 generalize upd H t (.tup xs)=H1 at s1 ⊢;refine⟨x,Z.c_Floats,Z.c_OhmError,Z.f1,none,_,rfl,s1 _ _ hx,qIF,?_⟩;refine⟨_,rfl,l,xs,rfl,.inl (s1.seq hS),λl2 hl2=>?_⟩;have s2:=aE hl2 (.lst xs);have e2:upd H1 l2 (.lst xs) l2=some (.lst xs):=aB;have x1:=s1 _ _ hx;have n2:l2≠x:=λz=>by rw[z,x1] at hl2;cases hl2
 generalize upd H1 l2 (.lst xs)=H2 at s2 e2 ⊢;have x2:=s2 _ _ x1;refine⟨_,rfl,x,Z.c_Floats,Z.c_OhmError,Z.f1,rfl,x2,qIF,qFF,λdx hdx=>?_⟩;have nx:dx≠x:=λz=>by rw[z,x2] at hdx;cases hdx
 have nl:l2≠dx:=λz=>by rw[z] at e2;rw[e2] at hdx;cases hdx
 have s02:=s1.trans s2;refine q dx l2 _ (s02.free hdx) (s1.free hl2) nx n2 (λb' o e nb=>?_) aB ?_ ?_
 ·rw[aR nb,aR (λz=>by rw[z,s02.free hdx] at e;cases e)];exact s02 _ _ e
 ·rw[aR nx,aB]
 ·rw[aR n2,aR nl];exact e2
theorem R2:FZ CX0 1 Z.f2 Z.d2 ["self","ring","total"] (wT Z.K Z.c_Ring):=by
 refine F2.ok9 Qp λ_ _ _ s H _ Q E hr h=>?_;obtain⟨x,l,t0,xs,rfl,hx,hS,h1000,q⟩:=h;refine⟨_,(aD (bS (Dy rfl mc_OhmError cI (aA (pv 0) (aA (kB oY rfl n_tuple PyProof.Rows.boot_tuple (aA (pv 1) aC)) (aA (pv 2) aC))))) (aD (Ra (pv 0) (kB lK rfl n_list PyProof.Rows.boot_list (aA (pv 1) aC)) rfl) (aF (Tv (pv 0) (pv 2) rfl)))),?_⟩;refine⟨_,rfl,_,rfl,l,xs,rfl,.inl ⟨hS,λt ht=>?_⟩⟩;have s1:=aE ht (.tup xs);have nt:t≠x:=λz=>by rw[z,hx] at ht;cases ht
 generalize upd H t (.tup xs)=H1 at s1 ⊢;refine⟨_,rfl,x,Z.c_Ring,Z.c_OhmError,Z.f2,none,_,_,rfl,s1 _ _ hx,qIG,?_⟩;refine⟨_,rfl,l,xs,rfl,.inl (s1.seq hS),λl2 hl2=>?_⟩;have s2:=aE hl2 (.lst xs);have e2:upd H1 l2 (.lst xs) l2=some (.lst xs):=aB;have x1:=s1 _ _ hx;have n2:l2≠x:=λz=>by rw[z,x1] at hl2;cases hl2
 generalize upd H1 l2 (.lst xs)=H2 at s2 e2 ⊢;have x2:=s2 _ _ x1;refine⟨_,rfl,x,Z.c_Ring,Z.c_OhmError,Z.f2,rfl,x2,qIG,qGr,λdx hdx=>?_⟩;have nx:dx≠x:=λz=>by rw[z,x2] at hdx;cases hdx
 have nl:l2≠dx:=λz=>by rw[z] at e2;rw[e2] at hdx;cases hdx
 have s02:=s1.trans s2;refine⟨_,rfl,_,rfl,x,Z.c_Ring,Z.c_OhmError,Z.f2,dx,"ring",.ref l2,rfl,aB,by rw[aR nx,aB],∅,qIG,qGt,?_⟩;refine q dx l2 _ (s02.free hdx) (s1.free hl2) nx n2 (λb' o e nb=>?_) ?_ aB ?_
 ·have nd:b'≠dx:=λz=>by rw[z,s02.free hdx] at e;cases e
  rw[aR nd,aR nb,aR nd];exact s02 _ _ e
 ·rw[aR (Ne.symm nx),aB]
 ·rw[aR nl,aR n2,aR nl];exact e2
theorem Y3:DZ 1 Z.f3 Z.d3 ["thing"] (oB Z.K) "is_whole":=by
 refine⟨?_,F3.b1 _ (by intros;rfl),F3.kp,m3⟩
 refine F3.ok9 Xl λ_ _ _ s H _ Q E hr h=>?_;obtain⟨x,rfl,h⟩:=h;refine⟨_,aF (aV (nU (nX (i:=0) rfl (Or.inl rfl) bl.isi bl.int rfl rfl PyProof.Rows.boot_int) (pC (qe6 (nX (i:=0) rfl (Or.inl rfl) bl.isi bl.bool rfl rfl PyProof.Rows.boot_bool))))),?_⟩;rcases h with ⟨i,rfl,q⟩ | ⟨t,ty,nw,q⟩
 ·exact⟨_,_,_,rfl,.of (.int i),rfl,_,rfl,gB ⟨_,_,false,rfl,.of (.int i),(by with_unfolding_all rfl),_,rfl,q⟩⟩
 ·rcases nw with rfl | rfl | rfl | rfl | rfl
  ·exact⟨_,_,true,rfl,.of ty,(by with_unfolding_all rfl),_,rfl,gB ⟨_,_,_,rfl,.of ty,rfl,_,rfl,q⟩⟩
  all_goals exact⟨_,_,false,rfl,.of ty,(by with_unfolding_all rfl),_,rfl,gQ q⟩
theorem Y4:DZ 1 Z.f4 Z.d4 ["one","other"] Ty "greatest_common":=by
 refine⟨?_,F4.b2 _ _ (by intros;rfl),F4.kp,m4⟩
 refine F4.ok9 Vs λ_ _ _ s H _ Q E hr h=>?_;obtain⟨x,y,rfl,q⟩:=h;refine⟨_,aD (xW PassesOwn.never (aY iX (pv 1) aG (bA _)) (aD (aQ (i:=2) Vs.nd rfl (Or.inl rfl) (bB qZ (pv 0) (pv 1)))
  (aD (aQ (i:=0) Vs.nd rfl (Or.inl rfl) (pv 1)) (aF (aQ (i:=1) Vs.nd rfl (Or.inl rfl) (pv 2))))))
  (aF (aV (bO xY rfl bl.abs PyProof.Rows.boot_abs (aA (pv 0) aC)))),?_⟩
 refine xE (λσ H'=>H'=H/\∃u v z,σ=[some (.int u),some (.int v),z]/\gc u v=gc x y) (λσ _=>match σ with | [_,some (.int v),_]=>v.natAbs | _=>0) ⟨rfl,x,y,none,rfl,rfl⟩ ?_ ?_
 ·rintro σ H' ⟨rfl,u,v,z,rfl,e⟩;refine⟨_,rfl,rfl,_,rfl,?_⟩;refine jX (λc=>?_) (λc=>?_)
  ·have hv:v≠0:=by intro q;subst q;simp at c
   refine⟨_,rfl,_,rfl,_,_,rfl,rfl,hv,_,rfl,_,rfl,⟨rfl,v,Int.fmod u v,_,rfl,(Ko u v).trans e⟩,zD hv⟩
  ·have hv:v=0:=by
    simp at c;exact c
   subst hv;refine⟨_,rfl,_,rfl,?_⟩;rw[<- Ka,e];exact q
 ·rintro σ H Q Q' m ⟨v,h1,h2,k,h3,h4⟩;exact⟨v,h1,h2,k,h3,m _ _ h4⟩
theorem Y5:DZ 1 Z.f5 Z.d5 ["one","other"] (Ai Z.K) "under":=by
 refine⟨?_,F5.b2 _ _ (by intros;rfl),F5.kp,m5⟩
 refine F5.ok9 Uy λ_ _ _ s H _ Q E hr h=>?_;obtain⟨a,b,p,q,n,m,rfl,ha,hb,bp,bq,hn,z⟩:=h;refine⟨_,aF (aV (gH wU (bB cN (aT bL (pv 0) aG (λ_ _=>rfl)) (aT bL (pv 1) aG (λ_ _=>rfl))) (bB cN (aT bL (pv 1) aG (λ_ _=>rfl)) (aT bL (pv 0) aG (λ_ _=>rfl))) (bA _))),?_⟩;exact fA rfl ha (cT rfl hb (cO bp.a bq.b () () (fA rfl hb (cT rfl ha (cO bq.a bp.b () () ⟨_,_,rfl,rfl,z⟩)))))
theorem Y6:DZ 2 Z.f6 (W.fnOf ("fraction") ("fraction") (eJ lZ) (cU lZ) (aI lZ) (.ref Z.T6) Z.kV6 Z.dc6 Z.pm6 Z.an6 Z.cd6 Z.ct6) ["top","bottom"] hJ "fraction":=by
 refine⟨?_,b6,F6.kp,m6⟩
 refine F6.ok9 Hg λ_ _ _ s H _ Q E hr h=>?_;obtain⟨t,b,n,rfl,hb,hB,hn,q⟩:=h;refine⟨_,aD (bX (PW.pt (tL (gZ (fE (d9 Y3 hr rfl (aA (pv 0) aC)))) (tL (gZ (fE (d9 Y3 hr rfl (aA (pv 1) aC)))) (rM (aY dP (pv 1) aG (bA _)))))) Mo bC)
  (aD (aQ (i:=2) Hg.nd rfl (Or.inl rfl) (d9 Y4 hr rfl (aA (pv 0) (aA (pv 1) aC))))
  (aD (bX (aY wU (pv 1) aG (bA _)) (aF (aQ (i:=2) Hg.nd rfl (Or.inl rfl) (Ag sQ (pv 2)))) bC)
  (aF (aV (cQ (aA (bB jC (pv 0) (pv 2)) (aA (bB jC (pv 1) (pv 2)) aC))))))),?_⟩
 have hd:=rY (t:=t) hb;have hdB:Mq.B n (dvr t b):=hB.le (Gi hb);have c0:decide (V.int b=V.int 0)=false:=decide_eq_false (λz=>hb (by cases z;rfl));refine⟨_,rfl,_,rfl,.inl ⟨t,rfl,_,rfl,gQ ⟨_,rfl,_,rfl,.inl ⟨b,rfl,_,rfl,gQ ⟨_,rfl,rfl,_,rfl,?_⟩⟩⟩⟩⟩;rw[c0];refine gQ ⟨_,rfl,_,rfl,t,b,rfl,?_⟩;refine⟨_,rfl,_,_,rfl,rfl,_,rfl,?_⟩;refine jX (λc=>?_) (λc=>?_)
 ·have hlt:b < 0:=of_decide_eq_true c;have e:dvr t b=-gc t b:=by unfold dvr;rw[if_pos hlt]
  rw[e] at hd hdB;have q':Ha H Q (t.fdiv (-gc t b),b.fdiv (-gc t b)):=by
   have z:=q;unfold red at z;rw[e] at z;exact z
  refine⟨_,rfl,_,rfl,?_⟩;refine⟨_,rfl,_,rfl,?_⟩;refine gA hd hdB hn ⟨_,rfl,_,rfl,gA hd hdB hn ⟨zl9 2,λp hp=>?_⟩⟩;exact q' p _ (aE hp _) aB
 ·have hlt:¬b < 0:=λz=>c (decide_eq_true z);have e:dvr t b=gc t b:=by unfold dvr;rw[if_neg hlt]
  rw[e] at hd hdB;have q':Ha H Q (t.fdiv (gc t b),b.fdiv (gc t b)):=by
   have z:=q;unfold red at z;rw[e] at z;exact z
  refine⟨_,rfl,_,rfl,?_⟩;refine gA hd hdB hn ⟨_,rfl,_,rfl,gA hd hdB hn ⟨zl9 2,λp hp=>?_⟩⟩;exact q' p _ (aE hp _) aB
theorem Y7:DZ 3 Z.f7 Z.d7 ["one","other"] (iG Z.K Mq.minus) "minus":=by
 refine⟨?_,F7.b2 _ _ (by intros;rfl),F7.kp,m7⟩
 refine F7.ok9 Wr λ_ _ _ s H _ Q E hr h=>?_;obtain⟨a,b,p,q,n,m,rfl,ha,hb,lp,lq,bp,bq,hn,z⟩:=h;refine⟨_,aF (aV (d9 Y6 hr rfl (aA
  (bB lU (bB cN (aT bL (pv 0) aG (λ_ _=>rfl)) (aT bL (pv 1) aG (λ_ _=>rfl))) (bB cN (aT bL (pv 1) aG (λ_ _=>rfl)) (aT bL (pv 0) aG (λ_ _=>rfl))))
  (aA (bB cN (aT bL (pv 0) aG (λ_ _=>rfl)) (aT bL (pv 1) aG (λ_ _=>rfl))) aC)))),?_⟩
 refine fA rfl ha (cT rfl hb (cO bp.a bq.b () () (fA rfl hb (cT rfl ha (cO bq.a bp.b () () ⟨_,_,rfl,rfl,?_⟩)))));refine cT rfl ha (cT rfl hb (cO bp.b bq.b () () ⟨_,_,n+m,rfl,gO lp lq,bp.b.mul bq.b,(),z⟩))
theorem Y8:DZ 3 Z.f8 Z.d8 ["one","other"] (iG Z.K Mq.jJ) "plus":=by
 refine⟨?_,F8.b2 _ _ (by intros;rfl),F8.kp,m8⟩
 refine F8.ok9 qa2 λ_ _ _ s H _ Q E hr h=>?_;obtain⟨a,b,p,q,n,m,rfl,ha,hb,lp,lq,bp,bq,hn,z⟩:=h;refine⟨_,aF (aV (d9 Y6 hr rfl (aA
  (bB gD (bB cN (aT bL (pv 0) aG (λ_ _=>rfl)) (aT bL (pv 1) aG (λ_ _=>rfl))) (bB cN (aT bL (pv 1) aG (λ_ _=>rfl)) (aT bL (pv 0) aG (λ_ _=>rfl))))
  (aA (bB cN (aT bL (pv 0) aG (λ_ _=>rfl)) (aT bL (pv 1) aG (λ_ _=>rfl))) aC)))),?_⟩
 refine fA rfl ha (cT rfl hb (cO bp.a bq.b () () (fA rfl hb (cT rfl ha (cO bq.a bp.b () () ⟨_,_,rfl,rfl,?_⟩)))));refine cT rfl ha (cT rfl hb (cO bp.b bq.b () () ⟨_,_,n+m,rfl,gO lp lq,bp.b.mul bq.b,(),z⟩))
theorem Y9:DZ 3 Z.f9 Z.d9 ["one","other"] (iG Z.K Mq.tN) "times":=by
 refine⟨?_,F9.b2 _ _ (by intros;rfl),F9.kp,m9⟩
 refine F9.ok9 Vd λ_ _ _ s H _ Q E hr h=>?_;obtain⟨a,b,p,q,n,m,rfl,ha,hb,lp,lq,bp,bq,hn,z⟩:=h;refine⟨_,aF (aV (d9 Y6 hr rfl (aA
  (bB cN (aT bL (pv 0) aG (λ_ _=>rfl)) (aT bL (pv 1) aG (λ_ _=>rfl)))
  (aA (bB cN (aT bL (pv 0) aG (λ_ _=>rfl)) (aT bL (pv 1) aG (λ_ _=>rfl))) aC)))),?_⟩
 refine fA rfl ha (fA rfl hb (cO bp.a bq.a () () ?_));refine cT rfl ha (cT rfl hb (cO bp.b bq.b () () ⟨_,_,n+m,rfl,gO lp lq,bp.b.mul bq.b,(),z⟩))
theorem Y10:DZ 3 Z.f10 Z.d10 ["one","other"] (Gj Z.K) "over":=by
 refine⟨?_,F10.b2 _ _ (by intros;rfl),F10.kp,m10⟩
 refine F10.ok9 Zy λ_ _ _ s H _ Q E hr h=>?_;obtain⟨a,b,p,q,n,m,rfl,ha,hb,lp,lq,h0,bp,bq,hn,z⟩:=h;refine⟨_,(aD (bX (aY dP (aT bL (pv 1) aG (λ_ _=>rfl)) aG (bA _)) (aF jH) bC)
  (aF (aV (d9 Y6 hr rfl (aA (bB cN (aT bL (pv 0) aG (λ_ _=>rfl)) (aT bL (pv 1) aG (λ_ _=>rfl))) (aA (bB cN (aT bL (pv 0) aG (λ_ _=>rfl)) (aT bL (pv 1) aG (λ_ _=>rfl))) aC)))))),?_⟩
 refine fA rfl hb ⟨rfl,_,rfl,?_⟩;rw[decide_eq_false (λe=>absurd (show q.1=0 by injection e) ())];refine gQ ?_;refine fA rfl ha (cT rfl hb (cO bp.a bq.b () () ?_));exact cT rfl ha (fA rfl hb (cO bp.b bq.a () () ⟨_,_,n+m,rfl,Mq.uQ lp (),bp.b.mul bq.a,(),z⟩))
theorem Y11:DZ 4 Z.f11 Z.d11 ["some"] (Gx Z.K) "total":=by
 refine⟨?_,F11.b1 _ (by intros;rfl),F11.kp,m11⟩
 refine F11.ok9 uF λcdv A outer s H vs Q E hr h=>?_;obtain⟨a,xs,ps,w0,rfl,hS,hF,hP,hW,hn,z⟩:=h;refine⟨_,aD (aQ (i:=1) uF.nd rfl (Or.inl rfl) (dG (v:=.ref Z.aN) rfl mv_NOUGHT rfl))
  (aD (dQ PassesOwn.never rfl (cE (pv 0)) (aZ (i:=2) uF.nd rfl (Or.inl rfl)) (aF (aQ (i:=1) uF.nd rfl (Or.inl rfl) (d9 Y8 hr rfl (aA (pv 1) (aA (pv 2) aC))))))
  (aF (aV (pv 1)))),?_⟩
 have hl:=hF.length;refine⟨_,rfl,a,rfl,⟨_,hS⟩,?_⟩;refine dX (xs:=xs) (λi σ H'=>aS H H'/\∃r y,σ=[some (.ref a),some (.ref r),y]/\Fq Z.K H' r (tot (ps.take i))) ⟨aS.refl H,Z.aN,none,rfl,fN H⟩ (λi σ H' _ h=>h.1.seq hS) ?_ ?_
 ·rintro i x σ H' hx ⟨sH,r,y,rfl,er⟩;obtain⟨ap,p,rfl,hp,fp⟩:=hF.get hx;have hi:i < ps.length:=(List.getElem?_eq_some_iff.mp hp).1;have mem:p∈ps:=mem_of_getElem? hp;have pt:Mq.Pos (ps.take i):=λf hf=>hP f (mem_of_mem_take hf);obtain⟨w',n,hw',bn,hle⟩:=hW.at hp;have bt:=hw'.tot pt;refine⟨_,rfl,_,rfl,r,ap,tot (ps.take i),p,_,n,rfl,er,sH.fq fp,(Jr pt).pos,hP p mem,bt,bn,(),λa1 H1 s1 e1=>?_⟩;refine⟨sH.trans s1,a1,_,rfl,?_⟩;have ee:ps.take (i+1)=ps.take i++[p]:=by rw[take_add_one,hp];rfl
  have et:tot (ps.take (i+1))=Mq.jJ (tot (ps.take i)) p:=by
   rw[ee];unfold tot;rw[foldl_append];rfl
  rw[et];exact Fq.of e1
 ·rintro σ H' ⟨sH,r,y,rfl,er⟩;refine⟨_,rfl,?_⟩;refine z r H' sH ?_;rw[hl,take_length] at er;exact er
theorem R12:FZ CX0 1 Z.f12 Z.d12 ["self","number"] (wH Z.K Z.c_Held):=by
 refine F12.ok9 So λ_ _ _ s H _ Q E hr h=>?_;obtain⟨x,k,rfl,hx,q⟩:=h;refine⟨_,(aD (bS (xS rfl mc_OhmError cI (aA (pv 0) (aA (pv 1) aC)))) (aF (Kw (pv 0) (pv 1) rfl))),?_⟩;refine⟨_,rfl,_,rfl,x,Z.c_Held,Z.c_OhmError,Z.f12,none,_,rfl,hx,qIH,?_⟩;refine⟨_,rfl,_,rfl,x,Z.c_Held,Z.c_OhmError,Z.f12,rfl,hx,qIH,qHn,λdx hdx=>?_⟩;have nx:dx≠x:=λz=>by rw[z,hx] at hdx;cases hdx
 refine q dx _ hdx nx (λb' o e nb=>?_) aB ?_
 ·rw[aR nb,aR (λz=>by rw[z,hdx] at e;cases e)];exact e
 ·rw[aR nx,aB]
theorem Y13:DZ 2 Z.f13 Z.d13 ["thing"] (Fm Z.K) "is_fraction":=by
 refine⟨?_,F13.b1 _ (by intros;rfl),F13.kp,m13⟩
 refine F13.ok9 qm9 λ_ _ _ s H _ Q E hr h=>?_;obtain⟨v,o,rfl,hz,q⟩:=h;refine⟨_,(aD (bX (PW.pt (tL (gZ (fE (nX (i:=0) rfl (Or.inl rfl) bl.isi n_tuple rfl rfl PyProof.Rows.boot_tuple))) (rM (aY iX (bO bV rfl n_len PySem.boot_len (aA (pv 0) aC)) aG (bA _))))) (aF (aV jE)) bC)
  (aD (bX (PW.pt (tL (gZ (fE (d9 Y3 hr rfl (aA (aT bL (pv 0) aG (λ_ _=>rfl)) aC)))) (rM (gZ (fE (d9 Y3 hr rfl (aA (aT bL (pv 0) aG (λ_ _=>rfl)) aC))))))) (aF (aV jE)) bC)
  (aF (aV (nU (gH Qh (aT bL (pv 0) aG (λ_ _=>rfl)) aG (bA _)) (pC (gH dP (d9 Y4 hr rfl (aA (aT bL (pv 0) aG (λ_ _=>rfl)) (aA (aT bL (pv 0) aG (λ_ _=>rfl)) aC))) aG (bA _)))))))),?_⟩
 cases hz with
 |fr fa hp=>
  refine⟨_,_,true,rfl,.tup fa,rfl,_,rfl,gQ ⟨_,rfl,_,_,rfl,.inr fa,rfl,_,rfl,gQ ?_⟩⟩;refine fA rfl fa ⟨_,rfl,.inl ⟨_,rfl,_,rfl,gQ (cT rfl fa ⟨_,rfl,.inl ⟨_,rfl,_,rfl,gQ ?_⟩⟩)⟩⟩;have h1:=hp.pos;refine cT rfl fa ⟨_,_,rfl,rfl,_,rfl,ifT (decide_eq_true ()) (fA rfl fa (cT rfl fa ⟨_,_,rfl,rfl,?_⟩))⟩;rw[hp.one];exact q
 |ty h n=>exact⟨_,_,false,rfl,h,n,_,rfl,gB q⟩
 |len h=>exact⟨_,_,true,rfl,.tup h,rfl,_,rfl,gQ ⟨_,rfl,_,_,rfl,.inr h,rfl,_,rfl,gB q⟩⟩
 |n0 h ty n=>
  refine⟨_,_,true,rfl,.tup h,rfl,_,rfl,gQ ⟨_,rfl,_,_,rfl,.inr h,rfl,_,rfl,gQ ?_⟩⟩;exact⟨_,rfl,_,_,0,_,rfl,rfl,h,rfl,_,rfl,.inr ⟨_,ty,n,_,rfl,gB q⟩⟩
 |n1 h ty n=>
  refine⟨_,_,true,rfl,.tup h,rfl,_,rfl,gQ ⟨_,rfl,_,_,rfl,.inr h,rfl,_,rfl,gQ ?_⟩⟩;exact⟨_,rfl,_,_,0,_,rfl,rfl,h,rfl,_,rfl,.inl ⟨_,rfl,_,rfl,gQ ⟨_,rfl,_,_,1,_,rfl,rfl,h,rfl,_,rfl,.inr ⟨_,ty,n,_,rfl,gB q⟩⟩⟩⟩
 |fb fa c=>
  refine⟨_,_,true,rfl,.tup fa,rfl,_,rfl,gQ ⟨_,rfl,_,_,rfl,.inr fa,rfl,_,rfl,gQ ?_⟩⟩;refine fA rfl fa ⟨_,rfl,.inl ⟨_,rfl,_,rfl,gQ (cT rfl fa ⟨_,rfl,.inl ⟨_,rfl,_,rfl,gQ ?_⟩⟩)⟩⟩;rcases c with c | ⟨c,d⟩
  ·exact cT rfl fa ⟨_,_,rfl,rfl,_,rfl,ifF (decide_eq_false ()) q⟩
  ·refine cT rfl fa ⟨_,_,rfl,rfl,_,rfl,ifT (decide_eq_true c) (fA rfl fa (cT rfl fa ⟨_,_,rfl,rfl,?_⟩))⟩;rw[decide_eq_false (λe=>d (by injection e))];exact q
theorem R14:FZ CX0 1 Z.f14 Z.d14 ["self","start","goal","size"] (uU (kd3 Z.c_Piece Z.c_Push Z.c_Hold)):=by
 refine F14.ok9 Uj λ_ _ _ s H _ Q E hr h=>?_;obtain⟨x,dx,k,s,g,z,rfl,hx,q⟩:=h;refine⟨_,(aD (xV (pv 0) (pv 1) rfl) (aD (xV (pv 0) (pv 2) rfl) (aF (xV (pv 0) (pv 3) rfl)))),?_⟩;have l1:=iA ("start":Str) s [];have l2:=iA ("goal":Str) g (iZ "start" s []);simp only[length_nil] at l1;refine⟨_,rfl,_,rfl,x,(kd3 Z.c_Piece Z.c_Push Z.c_Hold) k,dx,[],rfl,hx,T.cl k,T.nS k,(by show 0 < 1000;decide),?_⟩;refine⟨_,rfl,_,rfl,x,(kd3 Z.c_Piece Z.c_Push Z.c_Hold) k,dx,_,rfl,aB,T.cl k,T.nG k,(),?_⟩;refine⟨_,rfl,_,rfl,x,(kd3 Z.c_Piece Z.c_Push Z.c_Hold) k,dx,_,rfl,aB,T.cl k,T.nZ k,(),?_⟩;rw[qC,qC];exact q
theorem R15:FZ CX0 1 Z.f15 Z.d15 ["self"] (jW Kd.pc):=by
 refine F15.ok9 Nr λ_ _ _ s H _ Q E hr h=>?_;obtain⟨x,rfl,q⟩:=h;exact⟨_,(aF (aV aX)),q⟩
theorem R16:FZ CX0 1 Z.f16 Z.d16 ["self"] (jW Kd.pu):=by
 refine F16.ok9 Nj λ_ _ _ s H _ Q E hr h=>?_;obtain⟨x,rfl,q⟩:=h;exact⟨_,(aF (aV aX)),q⟩
theorem R17:FZ CX0 1 Z.f17 Z.d17 ["self"] (jW Kd.ho):=by
 refine F17.ok9 Nm λ_ _ _ s H _ Q E hr h=>?_;obtain⟨x,rfl,q⟩:=h;exact⟨_,(aF (aV aX)),q⟩
theorem GW:∀k:Kd,aK Z.P Z.w Z.K Z.mg ZB CX0 1 (kd3 Z.f15 Z.f16 Z.f17 k) (kd3 Z.d15 Z.d16 Z.d17 k) ["self"] (jW k):=kE (R15) (R16) (R17)
theorem bW:∀k:Kd,aL Z.K (kd3 Z.d15 Z.d16 Z.d17 k) ["self"] []:=kE (b15) (b16) (b17)
theorem mW:∀k:Kd,gE Z.K (kd3 Z.c_Piece Z.c_Push Z.c_Hold k) ("word") (kd3 Z.f15 Z.f16 Z.f17 k):=kE (⟨a15_0,i15,F15.kp⟩) (⟨a16_0,i16,F16.kp⟩) (⟨a17_0,i17,F17.kp⟩)
theorem R18:FZ CX0 1 Z.f18 Z.d18 ["self"] (oC Kd.pc):=by
 refine F18.ok9 Hr λ_ _ _ s H _ Q E hr h=>?_;obtain⟨x,rfl,q⟩:=h;exact⟨_,(aF (aV jE)),q⟩
theorem R19:FZ CX0 1 Z.f19 Z.d19 ["self"] (oC Kd.pu):=by
 refine F19.ok9 Id λ_ _ _ s H _ Q E hr h=>?_;obtain⟨x,rfl,q⟩:=h;exact⟨_,(aF (aV jE)),q⟩
theorem R20:FZ CX0 1 Z.f20 Z.d20 ["self"] (oC Kd.ho):=by
 refine F20.ok9 Hf λcdv A outer s H vs Q E hr h=>?_;obtain⟨x,rfl,q⟩:=h;exact⟨_,(aF (aV jE)),q⟩
theorem GJ:∀k:Kd,aK Z.P Z.w Z.K Z.mg ZB CX0 1 (kd3 Z.f18 Z.f19 Z.f20 k) (kd3 Z.d18 Z.d19 Z.d20 k) ["self"] (oC k):=kE (R18) (R19) (R20)
theorem bJ:∀k:Kd,aL Z.K (kd3 Z.d18 Z.d19 Z.d20 k) ["self"] []:=kE (b18) (b19) (b20)
theorem mJ:∀k:Kd,gE Z.K (kd3 Z.c_Piece Z.c_Push Z.c_Hold k) ("joins") (kd3 Z.f18 Z.f19 Z.f20 k):=kE (⟨a18_0,i18,F18.kp⟩) (⟨a19_0,i19,F19.kp⟩) (⟨a20_0,i20,F20.kp⟩)
theorem R21:FZ CX0 2 Z.f21 Z.d21 ["self"] (uL (kd3 Z.c_Piece Z.c_Push Z.c_Hold)):=by
 refine F21.ok9 Vl λ_ _ _ s H _ Q E hr h=>?_;obtain⟨x,k,s,g,z,rfl,⟨dx,hx⟩,q⟩:=h;refine⟨_,(aF (aV (cQ (aA (gC (pv 0) T.cl mW GW hr bW .nil aM) (aA (cS (pv 0) rfl) (aA (cS (pv 0) rfl) (aA (cS (pv 0) rfl) aC))))))),?_⟩;refine⟨_,rfl,k,x,dx,_,rfl,hx,(fM _ _ _ ∅ ∅ ∅),_,rfl,?_⟩;refine⟨_,rfl,x,(kd3 Z.c_Piece Z.c_Push Z.c_Hold) k,dx,_,_,rfl,hx,T.cl k,T.nS k,dS _ _ _,?_⟩;refine⟨_,rfl,x,(kd3 Z.c_Piece Z.c_Push Z.c_Hold) k,dx,_,_,rfl,hx,T.cl k,T.nG k,eQ _ _ _,?_⟩;refine⟨_,rfl,x,(kd3 Z.c_Piece Z.c_Push Z.c_Hold) k,dx,_,_,rfl,hx,T.cl k,T.nZ k,gV _ _ _,?_⟩;exact⟨zl9 4,q⟩
theorem mT:∀k:Kd,gE Z.K (kd3 Z.c_Piece Z.c_Push Z.c_Hold k) ("told") Z.f21:=kE (⟨a21_0,i21,F21.kp⟩) (⟨a21_1,i21,F21.kp⟩) (⟨a21_2,i21,F21.kp⟩)
theorem Y22:DZ 3 Z.f22 Z.d22 ["told"] (mS Z.K (kd3 Z.c_Piece Z.c_Push Z.c_Hold)) "row_of":=by
 refine⟨?_,F22.b1 _ (by intros;rfl),F22.kp,m22⟩
 refine F22.ok9 Jf λ_ _ _ s H _ Q E hr h=>?_;obtain⟨t,v,s,g,z,rfl,hT,k,rfl,q⟩:=h;refine⟨_,(aD (aQ (i:=1) Jf.nd rfl (Or.inl rfl) (aT bL (pv 0) aG (λ_ _=>rfl)))
  (aD (bX (PW.pt (kZ (fE (nX (i:=1) rfl (Or.inl rfl) bl.isi n_str rfl rfl PyProof.Rows.boot_str)) (iS (aY dP (pv 1) aX (bA _))))) (aF (aV (pY (MK .pc) R14 hr rfl (T.mK .pc) b14 .nil aM (aA (aT bL (pv 0) aG (λ_ _=>rfl)) (aA (aT bL (pv 0) aG (λ_ _=>rfl)) (aA (aT bL (pv 0) aG (λ_ _=>rfl)) aC)))))) bC)
  (aD (bX (PW.pt (kZ (fE (nX (i:=1) rfl (Or.inl rfl) bl.isi n_str rfl rfl PyProof.Rows.boot_str)) (iS (aY dP (pv 1) aX (bA _))))) (aF (aV (pY (MK .pu) R14 hr rfl (T.mK .pu) b14 .nil aM (aA (aT bL (pv 0) aG (λ_ _=>rfl)) (aA (aT bL (pv 0) aG (λ_ _=>rfl)) (aA (aT bL (pv 0) aG (λ_ _=>rfl)) aC)))))) bC)
  (aD (bX (PW.pt (kZ (fE (nX (i:=1) rfl (Or.inl rfl) bl.isi n_str rfl rfl PyProof.Rows.boot_str)) (iS (aY dP (pv 1) aX (bA _))))) (aF (aV (pY (MK .ho) R14 hr rfl (T.mK .ho) b14 .nil aM (aA (aT bL (pv 0) aG (λ_ _=>rfl)) (aA (aT bL (pv 0) aG (λ_ _=>rfl)) (aA (aT bL (pv 0) aG (λ_ _=>rfl)) aC)))))) bC)
  (aF jH))))),?_⟩
 cases k
 ·refine qj7 (λ_ _=>False) (λX _=>?_) (λ_ _ h=>h.elim);refine⟨_,rfl,t,_,0,_,rfl,rfl,hT,rfl,?_⟩;exact⟨_,_,true,rfl,.of (.str _),rfl,_,rfl,gB ⟨_,rfl,rfl,_,rfl,ifT (dY .pc .pc) ⟨_,rfl,t,_,1,s,rfl,rfl,hT,rfl,_,rfl,t,_,2,g,rfl,rfl,hT,rfl,_,rfl,t,_,3,z,rfl,rfl,hT,rfl,λx dx h1 h2 ne=>⟨x,dx,.pc,s,g,z,rfl,aB,rfl,by rw[qC];exact q x _ (Rw.new h1 h2 ne) h1 ⟨dx,aB⟩⟩⟩⟩⟩
 ·refine qg9 (λ_ _=>False) (λX _=>?_) (λ_ _ h=>h.elim);refine⟨_,rfl,t,_,0,_,rfl,rfl,hT,rfl,?_⟩;exact⟨_,_,true,rfl,.of (.str _),rfl,_,rfl,gB ⟨_,rfl,rfl,_,rfl,ifF (dY .pu .pc) (⟨_,_,true,rfl,.of (.str _),rfl,_,rfl,gB ⟨_,rfl,rfl,_,rfl,ifT (dY .pu .pu) ⟨_,rfl,t,_,1,s,rfl,rfl,hT,rfl,_,rfl,t,_,2,g,rfl,rfl,hT,rfl,_,rfl,t,_,3,z,rfl,rfl,hT,rfl,λx dx h1 h2 ne=>⟨x,dx,.pu,s,g,z,rfl,aB,rfl,by rw[qC];exact q x _ (Rw.new h1 h2 ne) h1 ⟨dx,aB⟩⟩⟩⟩⟩)⟩⟩
 ·refine qk6 (λ_ _=>False) (λX _=>?_) (λ_ _ h=>h.elim);refine⟨_,rfl,t,_,0,_,rfl,rfl,hT,rfl,?_⟩;exact⟨_,_,true,rfl,.of (.str _),rfl,_,rfl,gB ⟨_,rfl,rfl,_,rfl,ifF (dY .ho .pc) (⟨_,_,true,rfl,.of (.str _),rfl,_,rfl,gB ⟨_,rfl,rfl,_,rfl,ifF (dY .ho .pu) (⟨_,_,true,rfl,.of (.str _),rfl,_,rfl,gB ⟨_,rfl,rfl,_,rfl,ifT (dY .ho .ho) ⟨_,rfl,t,_,1,s,rfl,rfl,hT,rfl,_,rfl,t,_,2,g,rfl,rfl,hT,rfl,_,rfl,t,_,3,z,rfl,rfl,hT,rfl,λx dx h1 h2 ne=>⟨x,dx,.ho,s,g,z,rfl,aB,rfl,by rw[qC];exact q x _ (Rw.new h1 h2 ne) h1 ⟨dx,aB⟩⟩⟩⟩⟩)⟩⟩)⟩⟩
theorem X1:D9 Z.P Z.w Z.K Z.mg ZB 2 Z.f13 Z.d13 ["thing"] (Iw Z.K) "is_fraction":=⟨Dm Y13.G,Y13.b,F13.kp,m13⟩
theorem Y23:DZ 3 Z.f23 Z.d23 ["thing"] (qf6 Z.K) "is_piece_size":=by
 refine⟨?_,F23.b1 _ (by intros;rfl),F23.kp,m23⟩
 refine F23.ok9 qr1 λ_ _ _ s H _ Q E hr h=>?_;obtain⟨a,p,n,rfl,fa,hp,h0,hb,hn,q⟩:=h;have r1:=hr.mono (show 1<=2 by lia);refine⟨_,(aF (aV (nU (d9 X1 hr rfl (aA (pv 0) aC)) (pC (d9 Y5 r1 rfl (aA (dG (v:=.ref Z.aN) rfl mv_NOUGHT rfl) (aA (pv 0) aC))))))),?_⟩;refine⟨_,rfl,a,p,rfl,fa,hp,_,rfl,gB ⟨_,rfl,Z.aN,a,_,p,1,n,rfl,fN _,fa,⟨show (0:Nat) < 2 ^ 1 by decide,show (1:Nat) < 2 ^ 1 by decide⟩,hb,(),?_⟩⟩;rw[decide_eq_true (show (0:Int)*p.2 < p.1*1 by lia)];exact q
theorem Y24:DZ 2 Z.f24 Z.d24 ["thing","bound"] (Ss Z.K) "is_number_below":=by
 refine⟨?_,F24.b2 _ _ (by intros;rfl),F24.kp,m24⟩
 refine F24.ok9 qs3 λ_ _ _ s H _ Q E hr h=>?_;obtain⟨x,b',rfl,hx,q⟩:=h;refine⟨_,(aF (aV (nU (d9 Y3 hr rfl (aA (pv 0) aC)) (nU (gH Qh (pv 0) aG (bA _)) (pC (gH wU (pv 0) (pv 1) (bA _))))))),?_⟩;rcases hx with ⟨i,rfl⟩ | hw
 ·have q:Q (.bl (decide (0<=i/\i < b'))) H:=q;refine⟨_,rfl,_,rfl,.inl ⟨i,rfl,_,rfl,gB ⟨_,rfl,_,_,rfl,rfl,_,rfl,?_⟩⟩⟩
  by_cases h0:0<=i
  ·refine L2.ifT (decide_eq_true h0) ⟨_,rfl,_,rfl,_,_,rfl,rfl,?_⟩;show Q (.bl (decide (i < b'))) H;have e:decide (0<=i/\i < b')=decide (i < b'):=by simp[h0]
   rw[<- e];exact q
  ·have e:decide (0<=i/\i < b')=false:=decide_eq_false λz=>h0 z.1;rw[e] at q;exact L2.ifF (decide_eq_false h0) q
 ·rw[qj8 hw] at q;obtain⟨t,h1,h2⟩:=hw;exact⟨_,rfl,_,rfl,.inr ⟨t,h1,h2,_,rfl,gQ q⟩⟩
theorem Y25:DZ 4 Z.f25 Z.d25 ["word","size"] (qe4 Z.K) "refuse_size":=by
 refine⟨?_,F25.b2 _ _ (by intros;rfl),F25.kp,m25⟩
 refine F25.ok9 qr4 λ_ _ _ s H _ Q E hr h=>?_;obtain⟨k,z,p,rfl,fz,hp,h0,hb,q⟩:=h;have r2:=hr.mono (show 2<=3 by lia);refine⟨_,(aD (bX (gZ (fE (d9 X1 r2 rfl (aA (pv 1) aC)))) (aF jH) bC)
  (aF (bX (PW.pt (kZ (aY dP (pv 0) aX (bA _)) (iS (gZ (fE (d9 Y23 hr rfl (aA (pv 1) aC))))))) (aF jH) bC))),?_⟩
 refine⟨_,rfl,z,p,rfl,fz,hp,_,rfl,gQ ?_⟩
 cases k
 ·exact⟨_,rfl,rfl,_,rfl,ifT (dY .pc .pc) ⟨_,rfl,z,p,_,rfl,fz,hp,h0 rfl,hb,(),_,rfl,gQ q⟩⟩
 ·exact⟨_,rfl,rfl,_,rfl,ifF (dY .pu .pc) (gQ q)⟩
 ·exact⟨_,rfl,rfl,_,rfl,ifF (dY .ho .pc) (gQ q)⟩
theorem R26:FZ (CX1 Z.P Z.w) 3 Z.f26 Z.d26 ["some","many"] (wX Z.K Z.c_NoPoint):=by
 refine F26.okX qs4 (λvs H Q E h=>?_) λcdv A outer s H vs Q E hr h=>?_
 ·obtain⟨_,_,_,rfl,_⟩:=h;rfl
 obtain⟨l,xs,m,rfl,hl,h100,hA,q,qE⟩:=h;refine⟨_,(aF (bX (gZ (fE (bO (Qx rfl) rfl n_all PyProof.Rows.boot_all (aA (dZ (nl:=1) (fr:=[1]) (Nc:=["point","many"]) (cl:=[("many",s.heap.objs.size+1)]) rfl ⟨rfl,rfl,∅,∅,λx c h=>h,dR rfl,rfl,λi n h=>match i,h with | 0,h=>by cases h;exact⟨1,rfl,rfl,rfl,rfl,.inl rfl⟩ | k+1,h=>by rw[show 1+(k+1)=k+2 by lia] at h;cases h⟩
    (cE (pv 0)) (λ_ _ _ _ _=>(aZ (i:=0) yM rfl (Or.inl rfl))) (λ_ _ _ _ _=>eX)
    (λ_ _ _ _ _=>(d9 Y24 hr rfl (aA (pv 0) (aA (pv 1) aC))))) aC)))) (aF (vA cK dC rfl rfl mc_NoPoint x1_NoPoint (aA aX aC))) bC)),?_⟩
 refine⟨_,rfl,l,rfl,⟨_,hl⟩,λD hD=>?_⟩;have sD:=aE hD (.lst []);refine dL (xs:=xs) (λk zs H'=>aS H H'/\H' D=some (.lst zs)/\zs=((xs.take k).map (cV m)).map V.bl) ⟨sD,aB,rfl⟩ (λk zs H' h=>h.2.1) (λk zs H' _ h=>h.1.seq hl) ?_ ?_
 ·rintro k zs x H1 hx ⟨s1,e1,rfl⟩ C hC;have hk:k < xs.length:=(List.getElem?_eq_some_iff.mp hx).1;refine⟨dU.1,dU.2,gB ?_⟩;refine⟨_,rfl,_,rfl,x,m,rfl,(hA x (mem_of_getElem? hx)).same s1,e1,bN (by rw[length_map,length_map,length_take];lia),hC _ _ ⟨s1.change hD,aB,?_⟩⟩;rw[take_add_one,hx,map_append,map_append];rfl
 ·rintro zs H1 ⟨s1,e1,rfl⟩;rw[take_length] at e1;have ea:(xs.map (cV m)).all id=xs.all (cV m):=by rw[all_map];rfl
  refine⟨D,_,rfl,SqL.of e1,_,rfl,?_⟩;rw[ea]
  cases c:xs.all (cV m) with
  |true=>exact L2.ifF rfl (q c _ s1)
  |false=>exact L2.ifT rfl ⟨zl9 1,qE c _ s1⟩
theorem R27:FZ CX0 2 Z.f27 Z.d27 ["self","many"] (Co Z.c_Net):=by
 refine F27.ok9 Wu λ_ _ _ s H _ Q E hr h=>?_;obtain⟨n,dx,m,rfl,hn,h1,h20,q⟩:=h;refine⟨_,(aD (bX (PW.pt (tL (gZ (fE (d9 Y3 hr rfl (aA (pv 1) aC)))) (tL (aY wU (pv 1) aG (bA _)) (rM (aY xU (pv 1) (dG (v:=.int 20) rfl mv_MOST_POINTS ⟨_,rfl⟩) (bA _)))))) (aF jH) bC)
  (aD (xV (pv 0) (pv 1) rfl)
  (aF (xV (pv 0) (bU aC) rfl)))),?_⟩
 refine⟨_,rfl,_,rfl,.inl ⟨m,rfl,_,rfl,gQ ⟨_,rfl,_,_,rfl,rfl,_,rfl,ifF (decide_eq_false ()) ⟨_,rfl,_,_,rfl,rfl,_,rfl,ifF (decide_eq_false ()) ?_⟩⟩⟩⟩;refine⟨_,rfl,_,rfl,n,Z.c_Net,dx,[],rfl,hn,NTx.cl,NTx.nP,(by show 0 < 1000;decide),?_⟩;refine⟨zl9 0,λl hl=>?_⟩;have nl:n≠l:=λz=>by subst z;rw[aB] at hl;cases hl
 have hl0:H l=none:=by rw[aR (Ne.symm nl)] at hl;exact hl
 have l1:=iA ("point_count":Str) (.int m) [];simp only[length_nil] at l1;refine⟨_,rfl,n,Z.c_Net,dx,iZ "point_count" (.int m) [],rfl,by rw[aR nl];exact aB,NTx.cl,NTx.nK,(),?_⟩;refine q l _ hl0 (λb o e hb=>?_) aB (by rw[aR (Ne.symm nl)];exact aB);rw[aR hb,aR (bK e hl0),aR hb];exact e
theorem R28:FZ CX0 1 Z.f28 Z.d28 ["self"] (jF Z.c_Net Z.K):=by
 refine F28.ok9 qe2 λ_ _ _ s H _ Q E hr h=>?_;obtain⟨n,l,m,ds,rfl,⟨⟨dx,hn⟩,ts,hl,hr'⟩,q⟩:=h;exact⟨_,(aF (aV (cS (pv 0) rfl))),_,rfl,n,Z.c_Net,dx,_,_,rfl,hn,NTx.cl,NTx.nP,En _ _,q⟩
theorem X2:D9 Z.P Z.w Z.K Z.mg ZB 3 Z.f26 Z.d26 ["some","many"] (qd1 Z.K) "refuse_points":=⟨qk1 R26,b26,F26.kp,m26⟩
theorem R29:FZ CX0 5 Z.f29 Z.d29 ["self","row"] (Im Z.c_Net Z.K (kd3 Z.c_Piece Z.c_Push Z.c_Hold)):=by
 refine F29.ok9 Yo λ_ _ _ s H _ Q E hr h=>?_;obtain⟨n,l,x,z,m,ds,k,i,j,p,rfl,⟨⟨dx,hn⟩,ts,hl,hR⟩,rw,fz,⟨i0,i1,j0,j1,lp,h0,bp⟩,h40,q⟩:=h;have r2:=hr.mono (show 2<=4 by lia);have r3:=hr.mono (show 3<=4 by lia);refine⟨_,(aD (aQ (i:=2) Yo.nd rfl (Or.inl rfl) (gC (f:=λ_=>Z.f21) (fd:=λ_=>Z.d21) (sp:=λ_=>uL (kd3 Z.c_Piece Z.c_Push Z.c_Hold)) (pv 1) T.cl mT (λ_=>R21) r2 (λ_=>b21) .nil aM))
  (aD (bS (d9 X2 r3 rfl (aA (bU (aA (aT bL (pv 2) aG (λ_ _=>rfl)) (aA (aT bL (pv 2) aG (λ_ _=>rfl)) aC))) (aA (cS (pv 0) rfl) aC))))
  (aD (bS (d9 Y25 hr rfl (aA (aT bL (pv 2) aG (λ_ _=>rfl)) (aA (aT bL (pv 2) aG (λ_ _=>rfl)) aC))))
  (aD (bX (aY Qh (bO bV rfl n_len PySem.boot_len (aA (cS (pv 0) rfl) aC)) (dG (v:=.int 40) rfl mv_MOST_ROWS ⟨_,rfl⟩) (bA _)) (aF jH) bC)
  (aD (bS (oU PySem.F.plainAttrs_list PySem.F.slot_list_append PySem.F.type_list_append eY (cS (pv 0) rfl) (aA (pv 2) aC)))
  (aF (aV (bB lU (bO bV rfl n_len PySem.boot_len (aA (cS (pv 0) rfl) aC)) aG)))))))),?_⟩
 obtain⟨dr,hx⟩:=id rw;have len:=hR.length;refine⟨_,rfl,k,x,dr,_,rfl,hx,(fM _ _ _ ∅ ∅ ∅),x,k,_,_,_,rfl,rw,λt ht=>?_⟩;have st:=aE ht (.tup [.str k.wd,.int i,.int j,.ref z]);have et:SqT Z.K (upd H t (.tup [.str k.wd,.int i,.int j,.ref z])) t [.str k.wd,.int i,.int j,.ref z]:=SqT.of aB;generalize upd H t (.tup [.str k.wd,.int i,.int j,.ref z])=H1a at st et ⊢;have hn1:=st _ _ hn;have hl1:=st _ _ hl;refine⟨_,rfl,t,_,1,_,rfl,rfl,et,rfl,_,rfl,t,_,2,_,rfl,rfl,et,rfl,zl9 2,λlq hlq=>?_⟩;have sq:=aE hlq (.lst [.int i,.int j]);have eq:upd H1a lq (.lst [.int i,.int j]) lq=some (.lst [.int i,.int j]):=aB;generalize upd H1a lq (.lst [.int i,.int j])=H1b at sq eq ⊢;have hnb:=sq _ _ hn1;refine⟨_,rfl,n,Z.c_Net,dx,_,_,rfl,hnb,NTx.cl,NTx.nP,En _ _,lq,i,j,m,rfl,SqL.of eq,i0,i1,j0,j1,λH1 sc=>?_⟩;have sqc:=sq.trans sc;have st:=st.trans sqc;have et:=sqc.seqT et;have hn1:=sqc _ _ hn1;have hl1:=sqc _ _ hl1;refine⟨_,rfl,t,_,0,_,rfl,rfl,et,rfl,_,rfl,t,_,3,_,rfl,rfl,et,rfl,k,z,p,rfl,st.fq fz,lp,h0,bp,?_⟩;refine⟨_,rfl,n,Z.c_Net,dx,_,_,rfl,hn1,NTx.cl,NTx.nK,kS _ _,l,ts,rfl,.inl (SqL.of hl1),_,_,rfl,rfl,_,rfl,ifF (decide_eq_false ()) ?_⟩;refine⟨_,rfl,n,Z.c_Net,dx,_,_,rfl,hn1,NTx.cl,NTx.nK,kS _ _,.inl ⟨rfl,_,SqL.of hl1⟩,_,rfl,l,ts,.ref t,rfl,rfl,hl1,bN (),?_⟩;have nn:n≠l:=jP hn1 hl1 (λz=>by cases z);have hn2:upd H1 l (.lst (ts++[.ref t])) n=some (.ins Z.c_Net dx (qV m l)):=by rw[aR nn];exact hn1
 have hl2:upd H1 l (.lst (ts++[.ref t])) l=some (.lst (ts++[.ref t])):=aB;refine⟨_,rfl,n,Z.c_Net,dx,_,_,rfl,hn2,NTx.cl,NTx.nK,kS _ _,l,_,rfl,.inl (SqL.of hl2),_,_,rfl,rfl,?_⟩;show Q (.int (((ts++[V.ref t]).length:Int) - 1)) _;rw[List.length_append,length_singleton,len,show (((ds.length+1:Nat):Int) - 1)=(ds.length:Int) by lia];refine q _ (st.x.write) ⟨⟨dx,hn2⟩,_,hl2,Rts.upd hl1 ((hR.same st).app (.cons et (st.fq fz) .nil))⟩
theorem R30:FZ CX0 4 Z.f30 Z.d30 ["self"] (lQ Z.c_Net Z.K (kd3 Z.c_Piece Z.c_Push Z.c_Hold)):=by
 refine F30.ok9 qf8 λ_ _ _ s H _ Q E hr h=>?_;obtain⟨n,l,m,ds,rfl,⟨⟨dx,hn⟩,ts,hl,hR⟩,h100,q⟩:=h;refine⟨_,(aF (aV (dZ (nl:=1) (fr:=[]) (Nc:=["told"]) (cl:=[]) rfl ⟨rfl,rfl,∅,∅,λx c h=>(by cases h),dR rfl,rfl,λi n h=>(by simp at h)⟩
    (cE (cS (pv 0) rfl)) (λ_ _ _ _ _=>(aZ (i:=0) Vh rfl (Or.inl rfl))) (λ_ _ _ _ _=>eX)
    (λ_ _ _ _ _=>(d9 Y22 hr rfl (aA (pv 0) aC)))))),?_⟩
 have len:=hR.length;refine⟨_,rfl,n,Z.c_Net,dx,_,_,rfl,hn,NTx.cl,NTx.nK,kS _ _,l,rfl,⟨_,SqL.of hl⟩,λD hD=>?_⟩;have sD:=aE hD (.lst []);refine dL (xs:=ts) (λi zs H'=>aS H H'/\H' D=some (.lst zs)/\gX (kd3 Z.c_Piece Z.c_Push Z.c_Hold) Z.K H' zs (ds.take i)) ⟨sD,aB,.nil⟩ (λi zs H' h=>h.2.1) (λi zs H' _ h=>h.1.seq (SqL.of hl)) ?_ ?_
 ·rintro i zs x H1 hx ⟨s1,e1,R1⟩ C hC;have hi:i < ds.length:=by
   have:=(List.getElem?_eq_some_iff.mp hx).1;lia
  obtain⟨⟨k,u,v,p⟩,hd⟩:∃d,ds[i]?=some d:=⟨_,getElem?_eq_getElem hi⟩
  obtain⟨t,z,et,ht,fz⟩:=hR.at hd;have ex:x=.ref t:=by rw[et] at hx;exact(Option.some.inj hx).symm
  subst ex;have lz:=R1.length;rw[length_take] at lz;refine⟨dU.1,dU.2,gB ?_⟩;refine⟨_,rfl,t,_,_,_,_,rfl,s1.seqT ht,k,rfl,λy H2 s2 ny rw=>?_⟩;have e2:=s2 _ _ e1;refine⟨e2,bN (),hC _ _ ⟨(s1.trans s2).change hD,aB,?_⟩⟩;rw[take_add_one,hd];exact gX.upd e2 ((R1.same s2).app (.cons rw ((s1.trans s2).fq fz) .nil))
 ·rintro zs H1 ⟨s1,e1,R1⟩;rw[len,take_length] at R1;exact q D zs H1 s1 hD e1 R1
theorem Y31:DZ 1 Z.f31 Z.d31 ["marks","row"] (pV Z.K (kd3 Z.c_Piece Z.c_Push Z.c_Hold)) "joined":=by
 refine⟨?_,F31.b2 _ _ (by intros;rfl),F31.kp,m31⟩
 refine F31.ok9 vD λ_ _ _ s H _ Q E hr h=>?_;obtain⟨a,x,ms,k,s0,g0,z,rfl,hS,rw,hs,hg,h100,q⟩:=h;refine⟨_,(aD (aQ (i:=2) vD.nd rfl (Or.inr rfl) (aT bM (pv 0) (cS (pv 1) rfl) (λ_ _=>rfl)))
  (aD (aQ (i:=3) vD.nd rfl (Or.inr rfl) (aT bM (pv 0) (cS (pv 1) rfl) (λ_ _=>rfl)))
  (aF (aV (dZ (nl:=1) (fr:=[3,2]) (Nc:=["mark","lost","kept"]) (cl:=[("lost",s.heap.objs.size+2),("kept",s.heap.objs.size+1)]) rfl ⟨rfl,rfl,∅,∅,(fC rfl (fC rfl (qX))),dR rfl,rfl,λi n h=>match i,h with | 0,h=>by cases h;exact⟨3,rfl,rfl,rfl,rfl,.inl rfl⟩ | 1,h=>by cases h;exact⟨2,rfl,rfl,rfl,rfl,.inl rfl⟩ | k+2,h=>by rw[show 1+(k+2)=k+3 by lia] at h;cases h⟩
    (cE (pv 0)) (λ_ _ _ _ _=>(aZ (i:=0) pT rfl (Or.inl rfl))) (λ_ _ _ _ _=>eX)
    (λ_ _ _ _ _=>(pW (aY dP (pv 0) (pv 1) (bA _)) (pv 2) (pv 0)))))))),?_⟩
 obtain⟨dx,hx⟩:=id rw;have gi:∀{j:Nat},j < ms.length->atI (ms.map V.int) (j:Int)=some (.int (ms.getD j 0)):=λh=>bQ (by rw[getElem?_map,getElem?_eq_getElem h,getD_eq_getElem?_getD,getElem?_eq_getElem h];rfl);refine⟨_,rfl,_,rfl,x,(kd3 Z.c_Piece Z.c_Push Z.c_Hold) _,_,_,_,rfl,hx,T.cl _,T.nS _,dS _ _ _,a,_,_,_,rfl,rfl,hS,gi hs,?_⟩;refine⟨_,rfl,_,rfl,x,(kd3 Z.c_Piece Z.c_Push Z.c_Hold) _,_,_,_,rfl,hx,T.cl _,T.nG _,eQ _ _ _,a,_,_,_,rfl,rfl,hS,gi hg,?_⟩;refine⟨_,rfl,a,rfl,⟨_,hS⟩,λD hD=>?_⟩;have sD:=aE hD (.lst []);refine dL (xs:=ms.map V.int) (λi zs H'=>aS H H'/\H' D=some (.lst zs)/\zs=((jn ms s0 g0).take i).map V.int) ⟨sD,aB,rfl⟩ (λi zs H' h=>h.2.1) (λi zs H' _ h=>h.1.seq hS) ?_ ?_
 ·rintro i zs x H1 hx' ⟨s1,e1,rfl⟩ C hC;rw[getElem?_map] at hx';obtain⟨c,hc,rfl⟩:=Option.map_eq_some_iff.mp hx';have hi:i < ms.length:=(List.getElem?_eq_some_iff.mp hc).1;have ej:(jn ms s0 g0)[i]?=some (if c=ms.getD g0 0 then ms.getD s0 0 else c):=by unfold jn;rw[getElem?_map,hc];rfl
  have lj:(jn ms s0 g0).length=ms.length:=by unfold jn;rw[length_map]
  refine⟨dU.1,dU.2,gB ?_⟩;refine⟨_,rfl,_,rfl,rfl,_,rfl,?_⟩
  by_cases h:c=ms.getD g0 0
  ·rw[if_pos h] at ej;refine ifT (decide_eq_true (by rw[h])) ⟨_,rfl,e1,bN (by rw[length_map,length_take];lia),hC _ _ ⟨s1.change hD,aB,?_⟩⟩;rw[take_add_one,ej,map_append];rfl
  ·rw[if_neg h] at ej;refine ifF (decide_eq_false (λz=>h (by injection z))) ⟨_,rfl,e1,bN (by rw[length_map,length_take];lia),hC _ _ ⟨s1.change hD,aB,?_⟩⟩;rw[take_add_one,ej,map_append];rfl
 ·rintro zs H1 ⟨s1,e1,rfl⟩;have lj:(jn ms s0 g0).length=ms.length:=by unfold jn;rw[length_map]
  rw[length_map,<- lj,take_length] at e1;exact q D H1 s1 hD e1
theorem X3:gE Z.K Z.c_Net "many" Z.f28:=⟨a28_0,i28,F28.kp⟩
theorem X4:gE Z.K Z.c_Net "rows" Z.f30:=⟨a30_0,i30,F30.kp⟩
theorem Y32:DZ 5 Z.f32 Z.d32 ["net"] (Bg Z.c_Net Z.K) "marks_of":=by
 refine⟨?_,F32.b1 _ (by intros;rfl),F32.kp,m32⟩
 refine F32.ok9 uW λ_ _ _ s H _ Q E hr h=>?_;obtain⟨n,l,m,ds,rfl,nt,pt,hm,h100,q⟩:=h;have r1:=hr.mono (show 1<=4 by lia);refine⟨_,(aD (aQ (i:=1) uW.nd rfl (Or.inl rfl) (iT rfl rfl n_list rfl n_range (aA (dE (pv 0) NTx.cl X3 R28 r1 b28 .nil aM) aC)))
  (aD (dQ PassesOwn.never rfl (cE (dE (pv 0) NTx.cl X4 R30 hr b30 .nil aM)) (aZ (i:=2) uW.nd rfl (Or.inl rfl))
   (aF (bX (fE (gC (pv 2) T.cl mJ GJ r1 bJ .nil aM)) (aF (aQ (i:=1) uW.nd rfl (Or.inl rfl) (d9 Y31 r1 rfl (aA (pv 1) (aA (pv 2) aC))))) bC)))
  (aF (aV (pv 1))))),?_⟩
 obtain⟨dx,hn⟩:=nt.ob;refine⟨_,rfl,n,dx,_,rfl,hn,cY _ _ ∅ ∅,n,l,_,ds,rfl,nt,m,rfl,(),λD hD=>?_⟩;have sD:=aE hD (.lst ((List.range m).map λ(i:Nat)=>V.int (i:Int)));have eD:upd H D (.lst ((List.range m).map λ(i:Nat)=>V.int (i:Int))) D=some (.lst ((mks m (ds.take 0)).map V.int)):=by
  rw[aB];show some (HO.lst _)=some (HO.lst ((pK m).map V.int));unfold pK;rw[map_map];rfl
 generalize upd H D (.lst ((List.range m).map λ(i:Nat)=>V.int (i:Int)))=H1 at sD eD ⊢;refine⟨_,rfl,n,dx,_,rfl,sD _ _ hn,cY _ _ ∅ ∅,n,l,_,ds,rfl,nt.same sD,h100,λa xs H2 s2 na ea Rb=>?_⟩;have lxs:=Rb.length;refine⟨a,rfl,⟨_,SqL.of ea⟩,?_⟩;refine dX (xs:=xs) (λi σ H'=>aS H2 H'/\∃(c:Addr) (z:Option V),σ=[some (.ref n),some (.ref c),z]/\H c=none/\H' c=some (.lst ((mks m (ds.take i)).map V.int))) ⟨aS.refl _,D,none,rfl,hD,s2 _ _ eD⟩ (λi σ H' _ h=>h.1.seq (SqL.of ea)) ?_ ?_
 ·rintro i x σ H3 hx ⟨s3,c,z,rfl,nc,ec⟩;have hi:i < ds.length:=by
   have:=(List.getElem?_eq_some_iff.mp hx).1;lia
  obtain⟨⟨k,u,v,p⟩,hd⟩:∃d,ds[i]?=some d:=⟨_,getElem?_eq_getElem hi⟩
  obtain⟨y,z',ey,rw,fz⟩:=Rb.at hd;have ex:x=.ref y:=by rw[ey] at hx;exact(Option.some.inj hx).symm
  subst ex;have rw3:=rw.same s3;obtain⟨dr,hy⟩:=id rw3;have et:ds.take (i+1)=ds.take i++[(k,u,v,p)]:=by rw[take_add_one,hd];rfl
  obtain⟨u0,u1,v0,v1⟩:dF (m:Int) u v:=pt _ (mem_of_getElem? hd);refine⟨_,rfl,k,y,dr,_,rfl,hy,(fM _ _ _ ∅ ∅ ∅),_,rfl,_,rfl,?_⟩
  by_cases hk:k=.pu
  ·refine ifF (decide_eq_false (λz=>z hk)) ⟨s3,c,_,rfl,nc,?_⟩;rw[et,kA];unfold gR;rw[if_pos hk];exact ec
  ·refine ifT (decide_eq_true hk) ⟨_,rfl,_,rfl,c,y,mks m (ds.take i),k,u.toNat,v.toNat,.ref z',rfl,SqL.of ec,?_,by rw[gG];lia,by rw[gG];lia,by rw[gG];lia,λc' H4 s4 nc' ec'=>⟨s3.trans s4,c',_,rfl,?_,?_⟩⟩
   ·rw[show ((u.toNat:Nat):Int)=u by lia,show ((v.toNat:Nat):Int)=v by lia];exact rw3
   ·exact((sD.trans s2).trans s3).free nc'
   ·rw[et,kA];unfold gR;rw[if_neg hk];exact ec'
 ·rintro σ H3 ⟨s3,c,z,rfl,nc,ec⟩;rw[show ds.take xs.length=ds by rw[lxs,take_length]] at ec;exact⟨_,rfl,q c H3 ((sD.trans s2).trans s3) nc ec⟩
theorem Y33:DZ 6 Z.f33 Z.d33 ["net"] (Cb Z.c_Net Z.K) "floating":=by
 refine⟨?_,F33.b1 _ (by intros;rfl),F33.kp,m33⟩
 refine F33.ok9 Kr λ_ _ _ s H _ Q E hr h=>?_;obtain⟨n,l,m,ds,rfl,nt,pt,h1,hm,h100,q⟩:=h;refine⟨_,(aD (aQ (i:=1) Kr.nd rfl (Or.inr rfl) (d9 Y32 hr rfl (aA (pv 0) aC)))
  (aF (aV (dZ (nl:=2) (fr:=[1]) (Nc:=["point","mark","marks"]) (cl:=[("marks",s.heap.objs.size+1)]) (g:=(Ef Z.K 2 (jA (iF 0) (jA (iF 1) Eh)))) rfl ⟨rfl,rfl,∅,∅,λx c h=>h,dR rfl,rfl,λi n h=>match i,h with | 0,h=>by cases h;exact⟨1,rfl,rfl,rfl,rfl,.inl rfl⟩ | k+1,h=>by rw[show 2+(k+1)=k+3 by lia] at h;cases h⟩
    (rB rfl n_enumerate rfl (aA (pv 1) aC)) (λ_ _ _ _ _=>(iJ rfl (bZ (aZ (i:=0) iN rfl (Or.inl rfl)) (bZ (aZ (i:=1) iN rfl (Or.inl rfl)) gF)))) (λ_ _ _ _ _=>(jN (aY iX (pv 1) (aT (iE (K:=Z.K) rfl) (pv 2) aG (λ_ _=>rfl)) (bA _))))
    (λ_ _ _ _ _=>(pv 0)))))),?_⟩
 refine⟨_,rfl,n,l,m,ds,rfl,nt,pt,hm,h100,λM H1 s1 nM eM=>?_⟩;have mlen:=gG m ds;have hS:SqL Z.K H1 M ((mks m ds).map V.int):=SqL.of eM;refine⟨_,rfl,M,rfl,⟨_,hS⟩,λD hD=>?_⟩;have sD:=aE hD (.lst []);refine sM (xs:=(mks m ds).map V.int) (λi zs H'=>aS H1 H'/\H' D=some (.lst zs)/\zs=(((List.range i).filter λp=>decide (mk m ds p≠mk m ds 0)).map λ(p:Nat)=>V.int (p:Int))) ⟨sD,aB,rfl⟩ (λi zs H' h=>h.2.1) (λi zs H' _ h=>h.1.seq hS) ?_ ?_
 ·rintro i zs x H2 T2 hx ⟨s2,e2,rfl⟩ hT C hC;rw[getElem?_map] at hx;obtain⟨c,hc,rfl⟩:=Option.map_eq_some_iff.mp hx;have hi:i < m:=by have:=(List.getElem?_eq_some_iff.mp hc).1;lia
  have ec:c=mk m ds i:=by unfold mk;rw[getD_eq_getElem?_getD,hc];rfl
  have g0:atI ((mks m ds).map V.int) 0=some (.int (mk m ds 0)):=bQ (j:=0) (by unfold mk;rw[getElem?_map,getElem?_eq_getElem (),getD_eq_getElem?_getD,getElem?_eq_getElem ()];rfl);have ll:(((List.range i).filter λp=>decide (mk m ds p≠mk m ds 0)).map λ(p:Nat)=>V.int (p:Int)).length<=20:=by
   rw[length_map];have:=length_filter_le (λp=>decide (mk m ds p≠mk m ds 0)) (List.range i);rw[length_range] at this;lia
  have sT:=aE hT (.tup [.int (i:Int),.int c]);refine⟨T2,_,rfl,SqT.of aB,rfl,_,_,rfl,_,_,rfl,rfl,jL.1,jL.2,?_⟩;generalize upd H2 T2 (.tup [.int (i:Int),.int c])=H3 at sT ⊢;have s3:=s2.trans sT;have e3:=sT _ _ e2;refine⟨_,rfl,_,rfl,M,_,_,_,rfl,rfl,s3.seq hS,g0,rfl,_,rfl,?_⟩;subst ec
  by_cases h:mk m ds i=mk m ds 0
  ·refine ifF (by rw[h];simp) (hC _ _ ⟨s3,e3,?_⟩);rw[range_succ,filter_append,filter_cons_of_neg (by simp[h])];simp
  ·refine ifT (by simp[h]) ⟨_,rfl,e3,bN (),hC _ _ ⟨s3.change hD,aB,?_⟩⟩;rw[range_succ,filter_append,filter_cons_of_pos (by simp[h]),map_append];rfl
 ·rintro zs H2 ⟨s2,e2,rfl⟩;refine q D H2 (s1.trans s2) (s1.free hD) ?_;rw[length_map,mlen] at e2;rw[e2];unfold eU;rw[map_map];rfl
theorem Y34:DZ 1 Z.f34 Z.d34 ["rows","numbers","point"] (Bk Z.K (kd3 Z.c_Piece Z.c_Push Z.c_Hold)) "steps_from":=by
 refine⟨?_,F34.b3 _ _ _ (by intros;rfl),F34.kp,m34⟩
 refine F34.ok9 uE λ_ _ _ s H _ Q E hr h=>?_;obtain⟨a,b,xs,ds,es,p,rfl,hA,Rb,hB,hE,h100,q⟩:=h;refine⟨_,(aD (aQ (i:=3) uE.nd rfl (Or.inl rfl) (bU aC))
  (aD (dQ PassesOwn.never rfl (cE (pv 1)) (aZ (i:=4) uE.nd rfl (Or.inl rfl))
   (aD (aQ (i:=5) uE.nd rfl (Or.inl rfl) (aT bM (pv 0) (pv 4) (λ_ _=>rfl)))
  (aF (bX (aY dP (cS (pv 5) rfl) (pv 2) (bA _)) (aF (bS (oU PySem.F.plainAttrs_list PySem.F.slot_list_append PySem.F.type_list_append eY (pv 3) (aA (cQ (aA (cQ (aA (pv 4) (aA aG aC))) (aA (cS (pv 5) rfl) aC))) aC)))) (aF (bX (aY dP (cS (pv 5) rfl) (pv 2) (bA _)) (aF (bS (oU PySem.F.plainAttrs_list PySem.F.slot_list_append PySem.F.type_list_append eY (pv 3) (aA (cQ (aA (cQ (aA (pv 4) (aA (Ag sQ aG) aC))) (aA (cS (pv 5) rfl) aC))) aC)))) bC))))))
  (aF (aV (pv 3))))),?_⟩
 refine⟨zl9 0,λl hl=>?_⟩;have s1:=aE hl (.lst []);have e1:upd H l (.lst []) l=some (.lst []):=aB;generalize upd H l (.lst [])=H1 at s1 e1 ⊢;refine⟨_,rfl,b,rfl,⟨_,s1.seq hB⟩,?_⟩;refine dX (xs:=es.map λ(e:Br)=>V.int ((e.1:Nat):Int)) (λi σ H'=>aS H H'/\∃(ys:List V) (z4 z5:Option V),σ=[some (.ref a),some (.ref b),some (.int (p:Int)),some (.ref l),z4,z5]/\H' l=some (.lst ys)/\Sds Z.K H' ys (stF (es.take i) p)) ⟨s1,[],none,none,rfl,e1,.nil⟩ (λi σ H' _ h=>h.1.seq hB) ?_ ?_
 ·rintro i x σ H2 hx ⟨s2,ys,z4,z5,rfl,e2,S2⟩;rw[getElem?_map] at hx;obtain⟨e,he,rfl⟩:=Option.map_eq_some_iff.mp hx;have hi:i < es.length:=(List.getElem?_eq_some_iff.mp he).1;obtain⟨⟨k,u,v,q'⟩,hd,eu,ev⟩:=hE e (mem_of_getElem? he);have eu:u=(e.2.1:Int):=eu;have ev:v=(e.2.2:Int):=ev;subst eu;subst ev;obtain⟨y,z,ey,rw0,fz⟩:=Rb.at hd;have rw2:=rw0.same s2;obtain⟨dx,hx2⟩:=id rw2;have at_:atI xs (e.1:Int)=some (.ref y):=bQ ey;have ly:ys.length<=es.length:=by
   have h1:=S2.length;have h2:(stF (es.take i) p).length<=(es.take i).length:=length_filterMap_le _ _;rw[length_take] at h2;lia
  refine⟨_,rfl,_,rfl,a,xs,_,_,rfl,rfl,s2.seq hA,at_,?_⟩;refine⟨_,rfl,y,(kd3 Z.c_Piece Z.c_Push Z.c_Hold) _,_,_,_,rfl,hx2,T.cl _,T.nS _,dS _ _ _,_,rfl,rfl,_,rfl,?_⟩
  by_cases c1:e.2.1=p
  ·have tk:stF (es.take (i+1)) p=stF (es.take i) p++[((e.1,1),e.2.2)]:=by
    unfold stF;rw[take_add_one,he,filterMap_append];show _++[e].filterMap _=_;rw[filterMap_cons,if_pos c1];rfl
   refine ifT (decide_eq_true (by rw[c1])) ?_;refine⟨_,rfl,.inl ⟨rfl,_,SqL.of e2⟩,_,rfl,zl9 2,λu hu'=>?_⟩;have su:=aE hu' (.tup [.int (e.1:Int),.int (1)]);have eu:SqT Z.K (upd H2 u (.tup [.int (e.1:Int),.int (1)])) u [.int (e.1:Int),.int (1)]:=SqT.of aB;generalize upd H2 u (.tup [.int (e.1:Int),.int (1)])=H3 at su eu ⊢;obtain⟨dx3,hx3⟩:=id (rw2.same su);refine⟨_,rfl,y,(kd3 Z.c_Piece Z.c_Push Z.c_Hold) _,_,_,_,rfl,hx3,T.cl _,T.nG _,eQ _ _ _,zl9 2,λt ht=>?_⟩;rw[show (k,(e.2.1:Int),(e.2.2:Int),q').2.2.1=(e.2.2:Int) from rfl];have st:=aE ht (.tup [.ref u,.int (e.2.2:Int)]);have et:SqT Z.K (upd H3 t (.tup [.ref u,.int (e.2.2:Int)])) t [.ref u,.int (e.2.2:Int)]:=SqT.of aB;generalize upd H3 t (.tup [.ref u,.int (e.2.2:Int)])=H4 at st et ⊢;have s24:=su.trans st;have e4:=s24 _ _ e2;refine⟨l,_,_,rfl,rfl,e4,bN (),⟨(s2.trans s24).change hl,_,_,_,rfl,aB,?_⟩⟩;rw[tk];exact Sds.upd e4 ((S2.same s24).app (.cons et (st.seqT eu) .nil))
  ·refine ifF (decide_eq_false (λz=>c1 (by have:(e.2.1:Int)=(p:Int):=(by injection z);lia))) ?_;refine⟨_,rfl,y,(kd3 Z.c_Piece Z.c_Push Z.c_Hold) _,_,_,_,rfl,hx2,T.cl _,T.nG _,eQ _ _ _,_,rfl,rfl,_,rfl,?_⟩
   by_cases c2:e.2.2=p
   ·have tk:stF (es.take (i+1)) p=stF (es.take i) p++[((e.1,-1),e.2.1)]:=by
     unfold stF;rw[take_add_one,he,filterMap_append];show _++[e].filterMap _=_;rw[filterMap_cons,if_neg c1,if_pos c2];rfl
    refine ifT (decide_eq_true (by rw[c2])) ?_;refine⟨_,rfl,.inl ⟨rfl,_,SqL.of e2⟩,_,rfl,_,rfl,zl9 2,λu hu'=>?_⟩;have su:=aE hu' (.tup [.int (e.1:Int),.int (-1)]);have eu:SqT Z.K (upd H2 u (.tup [.int (e.1:Int),.int (-1)])) u [.int (e.1:Int),.int (-1)]:=SqT.of aB;generalize upd H2 u (.tup [.int (e.1:Int),.int (-1)])=H3 at su eu ⊢;obtain⟨dx3,hx3⟩:=id (rw2.same su);refine⟨_,rfl,y,(kd3 Z.c_Piece Z.c_Push Z.c_Hold) _,_,_,_,rfl,hx3,T.cl _,T.nS _,dS _ _ _,zl9 2,λt ht=>?_⟩;rw[show (k,(e.2.1:Int),(e.2.2:Int),q').2.1=(e.2.1:Int) from rfl];have st:=aE ht (.tup [.ref u,.int (e.2.1:Int)]);have et:SqT Z.K (upd H3 t (.tup [.ref u,.int (e.2.1:Int)])) t [.ref u,.int (e.2.1:Int)]:=SqT.of aB;generalize upd H3 t (.tup [.ref u,.int (e.2.1:Int)])=H4 at st et ⊢;have s24:=su.trans st;have e4:=s24 _ _ e2;refine⟨l,_,_,rfl,rfl,e4,bN (),⟨(s2.trans s24).change hl,_,_,_,rfl,aB,?_⟩⟩;rw[tk];exact Sds.upd e4 ((S2.same s24).app (.cons et (st.seqT eu) .nil))
   ·have tk:stF (es.take (i+1)) p=stF (es.take i) p:=by
     unfold stF;rw[take_add_one,he,filterMap_append];show _++[e].filterMap _=_;rw[filterMap_cons,if_neg c1,if_neg c2];simp
    refine ifF (decide_eq_false (λz=>c2 (by have:(e.2.2:Int)=(p:Int):=(by injection z);lia))) ⟨s2,ys,_,_,rfl,e2,?_⟩;rw[tk];exact S2
 rintro σ H2 ⟨s2,ys,z4,z5,rfl,e2,S2⟩;rw[length_map,take_length] at S2;exact⟨_,rfl,q l ys H2 s2 hl e2 S2⟩
theorem Y35:DZ 2 Z.f35 Z.d35 ["rows","numbers","begin","end"] (Sb Z.K (kd3 Z.c_Piece Z.c_Push Z.c_Hold)) "way_along":=by
 refine⟨?_,F35.b4 _ _ _ _ (by intros;rfl),F35.kp,m35⟩
 refine F35.ok9 Dj λ_ _ _ s H _ Q E hr h=>?_;obtain⟨a,b,xs,ds,es,m,f,t,rfl,hA,Rb,hB,hE,h100,hm,h20,hf,qN,qS⟩:=h;refine⟨_,(aD (aQ (i:=4) Dj.nd rfl (Or.inl rfl) (Ij (mP (pv 2) (bU aC) Iu) rfl rfl ⋯ ∅))
  (aD (aQ (i:=5) Dj.nd rfl (Or.inl rfl) (bU (aA (pv 2) aC)))
  (aD (xW PassesOwn.never (aY xU (bO bV rfl n_len PySem.boot_len (aA (pv 5) aC)) aG (bA _))
   (aD (aQ (i:=6) Dj.nd rfl (Or.inl rfl) (qa4 PySem.F.plainAttrs_list PySem.F.slot_list_pop PySem.F.type_list_pop qe9 (pv 5)))
   (aF (dQ PassesOwn.never rfl (cE (d9 Y34 hr rfl (aA (pv 0) (aA (pv 1) (aA (pv 6) aC))))) (aZ (i:=7) Dj.nd rfl (Or.inl rfl))
    (aF (bX (nC (zM (lW hr) (aT bL (pv 7) aG (λ_ _=>rfl)) (pv 4)))
     (aD (Um (lW hr) (pv 4) (aT bL (pv 7) aG (λ_ _=>rfl)) (bB jS (iR (lW hr) (pv 4) (pv 6) (λ_ _=>rfl)) (bU (aA (aT bL (pv 7) aG (λ_ _=>rfl)) aC))) rfl)
     (aF (bS (oU PySem.F.plainAttrs_list PySem.F.slot_list_append PySem.F.type_list_append eY (pv 5) (aA (aT bL (pv 7) aG (λ_ _=>rfl)) aC)))))
     bC))))))
  (aF (aV (Sc (lW hr) (pv 4) (pv 3) ⟨rfl,rfl,rfl,rfl⟩)))))),?_⟩
 refine λD hD=>?_;have sD:=aE hD (.dK []);have eD:upd H D (.dK []) D=some (.dK []):=aB;generalize upd H D (.dK [])=H1 at sD eD ⊢;refine⟨_,rfl,zl9 0,λL hL=>?_⟩;have nLD:L≠D:=Ne.symm (bK eD hL);have nL:H L=none:=sD.free hL;have sL:=aE hL (.lst []);have eL:upd H1 L (.lst []) L=some (.lst []):=aB;generalize upd H1 L (.lst [])=H2 at sL eL ⊢;refine⟨sL _ _ eD,[((Sum.inl (f:Int):Key),V.ref L)],rfl,by show 1<=15;decide,?_⟩;have s3:aS H (upd H2 D (.dK (jQ [] [((Sum.inl (f:Int):Key),V.ref L)]))):=(sD.trans sL).change hD;have e3:upd H2 D (.dK (jQ [] [((Sum.inl (f:Int):Key),V.ref L)])) D=some (.dK [((Sum.inl (f:Int):Key),V.ref L)]):=aB;have eL3:upd H2 D (.dK (jQ [] [((Sum.inl (f:Int):Key),V.ref L)])) L=some (.lst []):=by rw[aR nLD];exact eL
 generalize upd H2 D (.dK (jQ [] [((Sum.inl (f:Int):Key),V.ref L)]))=H3 at s3 e3 eL3 ⊢;refine⟨_,rfl,zl9 1,λW hW=>?_⟩;have nLW:L≠W:=bK eL3 hW;have nDW:D≠W:=bK e3 hW;have nW:H W=none:=s3.free hW;have sW:=aE hW (.lst [.int (f:Int)]);have eW:upd H3 W (.lst [.int (f:Int)]) W=some (.lst [.int (f:Int)]):=aB;generalize upd H3 W (.lst [.int (f:Int)])=H4 at sW eW ⊢;have s4:=s3.trans sW;have w4:Wys Z.K H W H4 [((Sum.inl (f:Int):Key),V.ref L)] (cF es f 0).1:=.cons nL nLW (sW _ _ eL3) .nil .nil;refine xE (λσ H'=>aS H H'/\∃(i:Nat) (kvs:List (Key × V)) (z6 z7:Option V),σ=[some (.ref a),some (.ref b),some (.int (f:Int)),some (.int (t:Int)),some (.ref D),some (.ref W),z6,z7]/\H' D=some (.dK kvs)/\H' W=some (.lst ((cF es f i).2.map λ(p:Nat)=>V.int (p:Int)))/\Wys Z.K H W H' kvs (cF es f i).1/\i<=40) muW ⟨s4,0,_,none,none,rfl,sW _ _ e3,eW,w4,()⟩ ?_ ?_
 ·rintro σ H5 ⟨s5,i,kvs,z6,z7,rfl,e5,q5,w5,hi⟩;have lk:=w5.length;have wi:=jM es f i;have le20:=Rs hm hf wi.nd wi.pt;refine⟨_,rfl,W,_,rfl,.inl (SqL.of q5),_,_,rfl,rfl,_,rfl,?_⟩
  by_cases hq:(cF es f i).2=[]
  ·-- it ends
   rw[hq] at q5;refine ifF (by rw[hq];rfl) ?_;have e60:=Ui hq ();refine⟨_,rfl,D,rfl,.inl ⟨kvs,.inl e5⟩,_,rfl,_,jK.k (k:=Sum.inl (t:Int)) e5,?_⟩
   by_cases c:t∈cC (cF es f i).1
   ·obtain⟨l,ys,st,ev,eg,nl,_,hl,f'⟩:=w5.some_ c;rw[ev];refine qS st ?_ l ys H5 s5 nl hl f';unfold lM;rw[e60];exact eg
   ·rw[(w5.none_ c).1];refine qN ?_ H5 s5;unfold lM;rw[e60];exact rO c
  ·have mu0:=Od (a:=some (.ref a)) (b:=some (.ref b)) (c:=some (.int (f:Int))) (d:=some (.int (t:Int))) (e:=z6) (f:=z7) e5 q5;have hi39:i+muF (cF es f i)<=39:=by
    rcases sY hm hf h20 i with z | z
    ·exact absurd z hq
    ·exact z
   have stp:cF es f (i+1)=(stF es ((cF es f i).2.getLastD 0)).foldl (inF ((cF es f i).2.getLastD 0)) ((cF es f i).1,(cF es f i).2.dropLast):=by
    show lY es (cF es f i)=_;unfold lY;rw[if_neg hq]
   have gR:=Jw hm hf h20 wi hq;have gR:muF (cF es f (i+1))+1<=muF (cF es f i):=gR;have wj0:=vL wi hq;have pk:=wj0.kp;obtain⟨ml1,ml2⟩:=Og hq;generalize hp:(cF es f i).2.getLastD 0=p at *
   have ll:0 < ((cF es f i).2.map λ(p:Nat)=>V.int (p:Int)).length:=by rw[length_map];exact length_pos_iff.mpr hq
   refine ifT (by show decide (0 < ((((cF es f i).2.map λ(p:Nat)=>V.int (p:Int)).length:Nat):Int))=true;exact decide_eq_true ()) ?_;refine⟨_,rfl,.inl ⟨rfl,_,SqL.of q5⟩,W,_,_,rfl,rfl,q5,ml1,?_⟩;rw[ml2];have s6:aS H (upd H5 W (.lst ((cF es f i).2.dropLast.map λ(p:Nat)=>V.int (p:Int)))):=s5.change nW;have e6:upd H5 W (.lst ((cF es f i).2.dropLast.map λ(p:Nat)=>V.int (p:Int))) D=some (.dK kvs):=by rw[aR nDW];exact e5
   have q6:upd H5 W (.lst ((cF es f i).2.dropLast.map λ(p:Nat)=>V.int (p:Int))) W=some (.lst ((cF es f i).2.dropLast.map λ(p:Nat)=>V.int (p:Int))):=aB;have w6:=w5.updW (o:=.lst ((cF es f i).2.dropLast.map λ(p:Nat)=>V.int (p:Int))) q5;generalize upd H5 W (.lst ((cF es f i).2.dropLast.map λ(p:Nat)=>V.int (p:Int)))=H6 at s6 e6 q6 w6 ⊢;refine⟨_,rfl,_,rfl,_,rfl,a,b,xs,ds,es,p,rfl,s6.seq hA,Rb.same s6,s6.seq hB,hE,h100,λl ys H7 s7 nl el S7=>?_⟩;have s07:=s6.trans s7;have nlW:l≠W:=Ne.symm (bK q6 nl);have nlD:l≠D:=Ne.symm (bK e6 nl);have nlH:H l=none:=s6.free nl;have lys:=S7.length;refine⟨l,rfl,⟨_,SqL.of el⟩,?_⟩;refine dX (xs:=ys) (λj σ H'=>aS H H'/\H' l=some (.lst ys)/\Sds Z.K H' ys (stF es p)/\∃(kvs:List (Key × V)) (z7:Option V),σ=[some (.ref a),some (.ref b),some (.int (f:Int)),some (.int (t:Int)),some (.ref D),some (.ref W),some (.int (p:Int)),z7]/\H' D=some (.dK kvs)/\H' W=some (.lst ((((stF es p).take j).foldl (inF p) ((cF es f i).1,(cF es f i).2.dropLast)).2.map λ(p:Nat)=>V.int (p:Int)))/\Wys Z.K H W H' kvs (((stF es p).take j).foldl (inF p) ((cF es f i).1,(cF es f i).2.dropLast)).1) ⟨s07,el,S7,kvs,z7,rfl,s7 _ _ e6,s7 _ _ q6,w6.same s7⟩ (λj σ H' _ h=>SqL.of h.2.1) ?_ ?_
   ·rintro j x σ H8 hx ⟨s8,el8,S8,kv8,z7',rfl,e8,q8,w8⟩;obtain⟨tt,u,s,rfl,es',hT,hU⟩:=S8.get hx;have hj:j < (stF es p).length:=(List.getElem?_eq_some_iff.mp es').1;have gs:qO es s.1 p s.2:=mE (mem_of_getElem? es');have wj:=Ca ((stF es p).take j) [] wj0 λz hz=>mE (mem_of_mem_take hz);have fold1:((stF es p).take (j+1)).foldl (inF p) ((cF es f i).1,(cF es f i).2.dropLast)=inF p (((stF es p).take j).foldl (inF p) ((cF es f i).1,(cF es f i).2.dropLast)) s:=by
     rw[take_add_one,es',foldl_append];rfl
    rw[fold1];have wj':=Jg wj gs;have le8:=Rs hm hf wj.nd wj.pt;have lS:=Ze hm hf h20 wj0 (j:=j) (T:=stF es p) (λz hz=>mE hz);have mb:=Ed hq;generalize ((stF es p).take j).foldl (inF p) ((cF es f i).1,(cF es f i).2.dropLast)=S at q8 w8 wj wj' le8 lS ⊢;have lS2:S.2.length<=100:=by lia
    have lk8:=w8.length;obtain⟨⟨sn,sw⟩,sx⟩:=s;have hT:SqT Z.K H8 tt [.ref u,.int (sx:Int)]:=hT;refine⟨_,rfl,tt,_,1,_,rfl,rfl,hT,rfl,_,rfl,D,_,rfl,jK.k (k:=Sum.inl (sx:Int)) e8,_,rfl,?_⟩
    by_cases c:sx∈cC S.1
    ·refine ifF (by rw[w8.isSome,decide_eq_true c];rfl) ⟨s8,el8,S8,kv8,_,rfl,e8,?_,?_⟩
     ·show H8 W=some (.lst ((inF p S ((sn,sw),sx)).2.map λ(p:Nat)=>V.int (p:Int)));unfold inF;rw[if_pos c];exact q8
     ·show Wys Z.K H W H8 kv8 (inF p S ((sn,sw),sx)).1;unfold inF;rw[if_pos c];exact w8
    ·refine ifT (by rw[w8.isSome,decide_eq_false c];rfl) ?_;obtain⟨ap,xp,sp,ev,eg,nap,nwp,hap,fp⟩:=w8.some_ wj.kp;have lsp:=fp.length;have lsp2:sp.length<=20:=by
      obtain⟨pts,pt1,pt2⟩:=wj.pt p sp (gL eg);exact qc3 hm hf h20 wj.nd wj.pt pt1 pt2
     refine⟨_,rfl,_,rfl,D,.ref ap,rfl,(by have:=jK.k (k:=Sum.inl (p:Int)) e8;rw[ev] at this;exact this),?_⟩;refine⟨_,rfl,tt,_,0,_,rfl,rfl,hT,rfl,zl9 1,λL1 hL1=>?_⟩;have s9:=aE hL1 (.lst [.ref u]);have e9:upd H8 L1 (.lst [.ref u]) L1=some (.lst [.ref u]):=aB;generalize upd H8 L1 (.lst [.ref u])=H9 at s9 e9 ⊢;refine⟨ap,L1,_,_,rfl,rfl,s9 _ _ hap,e9,by rw[sizeLine_eq];simp only[length_cons,length_nil];lia,λC hC=>?_⟩;have nC8:H8 C=none:=s9.free hC;have sA:=aE hC (.lst (xp++[.ref u]));have eA:upd H9 C (.lst (xp++[.ref u])) C=some (.lst (xp++[.ref u])):=aB;generalize upd H9 C (.lst (xp++[.ref u]))=HA at sA eA ⊢;have s8A:=s9.trans sA;have nCW:C≠W:=Ne.symm (bK q8 nC8);have nCD:C≠D:=Ne.symm (bK e8 nC8);have eDA:=s8A _ _ e8;refine⟨_,rfl,_,rfl,tt,_,1,_,rfl,rfl,s8A.seqT hT,rfl,D,_,rfl,Ow.k (k:=Sum.inl (sx:Int)) eDA (by rw[sizeLine_eq];lia),?_⟩;have put:mZ kv8 (Sum.inl (sx:Int)) (.ref C)=kv8++[(Sum.inl (sx:Int),.ref C)]:=by unfold mZ;rw[if_neg (by rw[(w8.none_ c).2];simp)]
     rw[put];have eB:upd HA D (.dK (kv8++[(Sum.inl (sx:Int),.ref C)])) D=some (.dK (kv8++[(Sum.inl (sx:Int),.ref C)])):=aB;have qB:upd HA D (.dK (kv8++[(Sum.inl (sx:Int),.ref C)])) W=some (.lst (S.2.map λ(p:Nat)=>V.int (p:Int))):=by rw[aR (Ne.symm nDW)];exact s8A _ _ q8
     have sB:aS H (upd HA D (.dK (kv8++[(Sum.inl (sx:Int),.ref C)]))):=(s8.trans s8A).change hD;have wB:Wys Z.K H W (upd HA D (.dK (kv8++[(Sum.inl (sx:Int),.ref C)]))) (kv8++[(Sum.inl (sx:Int),.ref C)]) (S.1++[(sx,sp++[(sn,sw)])]):=
      Wys.snoc (s8.free nC8) nCW (by rw[aR nCD];exact eA) (((fp.same s8A).app (.cons (s8A.seqT hU) .nil)).updD eDA) ((w8.same s8A).updD eDA)
     have elB:upd HA D (.dK (kv8++[(Sum.inl (sx:Int),.ref C)])) l=some (.lst ys):=by rw[aR nlD];exact s8A _ _ el8
     have SB:=(S8.same s8A).updD (o:=.dK (kv8++[(Sum.inl (sx:Int),.ref C)])) eDA;have hTB:=SqT.updD (o:=.dK (kv8++[(Sum.inl (sx:Int),.ref C)])) (s8A.seqT hT) eDA;generalize upd HA D (.dK (kv8++[(Sum.inl (sx:Int),.ref C)]))=HB at eB qB sB wB elB SB hTB ⊢;refine⟨_,rfl,.inl ⟨rfl,_,SqL.of qB⟩,_,rfl,tt,_,1,_,rfl,rfl,hTB,rfl,W,_,_,rfl,rfl,qB,bN (by rw[length_map];lia),?_⟩;have inE:inF p S ((sn,sw),sx)=(S.1++[(sx,sp++[(sn,sw)])],S.2++[sx]):=by
      unfold inF;rw[if_neg c,eg];rfl
     rw[inE];refine⟨sB.change nW,by rw[aR nlW];exact elB,SB.upd qB,_,_,rfl,by rw[aR nDW];exact eB,?_,wB.updW qB⟩;rw[aB,map_append];rfl
   ·rintro σ H8 ⟨s8,el8,S8,kv8,z7',rfl,e8,q8,w8⟩;rw[lys,take_length,<- stp] at q8 w8;have lk8:=w8.length;refine⟨⟨s8,i+1,kv8,_,_,rfl,e8,q8,w8,()⟩,?_⟩;rw[mu0,Od e8 q8,length_map,length_map,lk,lk8];unfold muF at gR;lia
 ·rintro σ H Q Q' mono ⟨v,h1,p',ys,h2,h3,i,j,h4,h5,k,h6,h7⟩;exact⟨v,h1,p',ys,h2,h3,i,j,h4,h5,k,h6,mono _ _ h7⟩
theorem Y36:DZ 5 Z.f36 (W.fnOf ("rings") ("rings") (eJ iI) (cU iI) (aI iI) (.ref Z.T36) Z.kV36 Z.dc36 Z.pm36 Z.an36 Z.cd36 Z.ct36) ["net","words"] (Ch Z.c_Net Z.K) "rings":=by
 refine⟨?_,b36,F36.kp,m36⟩
 refine F36.ok9 jO λ_ _ _ s H _ Q E hr h=>?_;obtain⟨n,l,v,m,ds,W,rfl,nt,pt,h20,h40,hW,q⟩:=h;have r1:=hr.mono (show 1<=4 by lia);have r2:=hr.mono (show 2<=4 by lia);refine⟨_,(aD (aQ (i:=2) jO.nd rfl (Or.inl rfl) (pW (nC (Bj (pv 1))) (dG (v:=.ref Z.aJ) rfl mv_JOINING_WORDS rfl) (pv 1)))
  (aD (aQ (i:=3) jO.nd rfl (Or.inl rfl) (dE (pv 0) NTx.cl X4 R30 hr b30 .nil aM))
  (aD (aQ (i:=4) jO.nd rfl (Or.inl rfl) (bU aC))
  (aD (aQ (i:=5) jO.nd rfl (Or.inl rfl) (bU aC))
  (aD (dQ PassesOwn.never rfl (rB rfl n_enumerate rfl (aA (pv 3) aC)) (iJ rfl (bZ (aZ (i:=6) jO.nd rfl (Or.inl rfl)) (bZ (aZ (i:=7) jO.nd rfl (Or.inl rfl)) gF)))
   (aF (bX (aY Lx (gC (pv 7) T.cl mW GW r1 bW .nil aM) (pv 2) rfl) (aD (aQ (i:=8) jO.nd rfl (Or.inl rfl) (d9 Y35 r2 rfl (aA (pv 3) (aA (pv 4) (aA (cS (pv 7) rfl) (aA (cS (pv 7) rfl) aC))))))
  (aF (bX (nC (Bj (pv 8))) (aF (bS (oU PySem.F.plainAttrs_list PySem.F.slot_list_append PySem.F.type_list_append eY (pv 4) (aA (pv 6) aC)))) (aF (bS (oU PySem.F.plainAttrs_list PySem.F.slot_list_append PySem.F.type_list_append eY (pv 5) (aA (bB jS (bU (aA (cQ (aA (pv 6) (aA aG aC))) aC)) (pv 8)) aC))))))) bC)))
  (aF (aV (pv 5)))))))),?_⟩
 refine rJ (λσ' H'=>H'=H/\∃wv,σ'=[some (.ref n),some v,some wv,none,none,none,none,none,none]/\WdA Z.K H wv W) (λX hX=>?_) ?_
 ·cases hW with
  |non=>exact⟨_,rfl,_,rfl,ifT rfl (hX _ _ ⟨rfl,_,rfl,Z.aJ,_,rfl,.inr (fJ0 H),rfl,qm1⟩)⟩
  | @seq a ws h Z.f36=>exact⟨_,rfl,_,rfl,ifF rfl ⟨_,rfl,hX _ _ ⟨rfl,_,rfl,a,_,rfl,.inl h,Z.f36,λ_=>rfl⟩⟩⟩
 rintro σ' H' ⟨hH',wv,rfl,hw⟩;subst hH';obtain⟨dx,hn⟩:=nt.ob;refine⟨_,rfl,n,dx,_,rfl,hn,cY _ _ ∅ ∅,n,l,_,ds,rfl,nt,(),λa xs H1 s1 na ea Rb=>?_⟩;have lxs:=Rb.length;refine⟨zl9 0,λB hB=>?_⟩;have nB:H' B=none:=s1.free hB;have sB:=aE hB (.lst []);have eB:upd H1 B (.lst []) B=some (.lst []):=aB;generalize upd H1 B (.lst [])=H2 at sB eB ⊢;refine⟨zl9 0,λF36 hF=>?_⟩;have nF:H' F36=none:=(s1.trans sB).free hF;have nBF:B≠F36:=bK eB hF;have sF:=aE hF (.lst []);have eF:upd H2 F36 (.lst []) F36=some (.lst []):=aB;generalize upd H2 F36 (.lst [])=H3 at sF eF ⊢;have s3:=s1.trans (sB.trans sF);have ea3:=(sB.trans sF) _ _ ea;have naB:a≠B:=bK ea hB;have naF:a≠F36:=bK (sB _ _ ea) hF;have sk:=vI ds;have slt:=Kf pt;have s13:=sB.trans sF;refine⟨_,rfl,a,rfl,⟨_,SqL.of ea3⟩,?_⟩;have nB1:H1 B=none:=hB;have nF1:H1 F36=none:=sB.free hF;refine Dc (xs:=xs) (λi σ HH=>aS H1 HH/\∃(us:List V) (z6 z7 z8:Option V),σ=[some (.ref n),some v,some wv,some (.ref a),some (.ref B),some (.ref F36),z6,z7,z8]/\HH B=some (.lst ((bY W (skl ds) i).1.map λ(e:Br)=>V.int ((e.1:Nat):Int)))/\HH F36=some (.lst us)/\Rgs Z.K H' HH us ((bY W (skl ds) i).2.map (·.2))/\∀x∈us,x≠.ref F36/\x≠.ref B) ⟨s13,[],none,none,none,rfl,sF _ _ eB,eF,.nil,λx hx=>(by cases hx)⟩ (λi σ HH _ h=>h.1.seq (SqL.of ea)) ?_ ?_
 ·rintro i x σ H4 T2 hx ⟨s4,us,z6,z7,z8,rfl,eB4,eF4,G4,nx4⟩ hT;have hi:i < ds.length:=by
   have:=(List.getElem?_eq_some_iff.mp hx).1;lia
  obtain⟨⟨k0,u,v0,p0⟩,hd⟩:∃d,ds[i]?=some d:=⟨_,getElem?_eq_getElem hi⟩
  obtain⟨y,z,ey,rw0,fz0⟩:=Rb.at hd;have ex:x=.ref y:=by rw[ey] at hx;exact(Option.some.inj hx).symm
  subst ex;obtain⟨u0,u1,v1,v2⟩:dF (m:Int) u v0:=pt _ (mem_of_getElem? hd);obtain⟨uN,rfl⟩:∃n:Nat,u=(n:Int):=⟨u.toNat,()⟩
  obtain⟨vN,rfl⟩:∃n:Nat,v0=(n:Int):=⟨v0.toNat,()⟩
  have skd:(skl ds)[i]?=some (k0,uN,vN):=by
   have:=Xr hd
   rwa [show ((k0,(uN:Int),(vN:Int),p0):RD).2.1.toNat=uN from Int.toNat_natCast uN,show ((k0,(uN:Int),(vN:Int),p0):RD).2.2.1.toNat=vN from Int.toNat_natCast vN] at this
  have ri:=kN (W:=W) slt i ();have bo:=Vu pt ri;have bl':=Rh (W:=W) (sk:=skl ds) i;have gl:=G4.l;rw[length_map] at gl;have rl:=ri.rl;have succ:=gJ (W:=W) skd;generalize bY W (skl ds) i=S at eB4 G4 ri bo bl' gl rl succ;have sT:=aE hT (.tup [.int (i:Int),.ref y]);refine⟨T2,_,rfl,SqT.of aB,rfl,_,_,rfl,_,_,rfl,rfl,?_⟩;have nT1:H1 T2=none:=s4.free hT;generalize upd H4 T2 (.tup [.int (i:Int),.ref y])=H5 at sT ⊢;have s5:=s4.trans sT;have eB5:=sT _ _ eB4;have eF5:=sT _ _ eF4;have G5:=G4.same sT;obtain⟨dr,hy⟩:=id (rw0.same s5);obtain⟨pw,ws,ew,hws,fl,hinv⟩:=hw.same (s1.trans s5);refine⟨_,rfl,k0,y,dr,_,rfl,hy,(fM _ _ _ ∅ ∅ ∅),_,rfl,_,rfl,pw,ws,ew,hws,rfl,fl,_,rfl,?_⟩;have hin:inV (.str k0.wd) ws=W k0:=hinv k0
  by_cases hk:W k0=true
  ·refine ifT (by show (if false=true then _ else inV (V.str k0.wd) ws)=true;rw[if_neg ∅,hin];exact hk) ?_;refine⟨_,rfl,_,rfl,_,rfl,y,(kd3 Z.c_Piece Z.c_Push Z.c_Hold) _,_,_,_,rfl,hy,T.cl _,T.nG _,eQ _ _ _,_,rfl,y,(kd3 Z.c_Piece Z.c_Push Z.c_Hold) _,_,_,_,rfl,hy,T.cl _,T.nS _,dS _ _ _,a,B,xs,ds,S.1,m,vN,uN,rfl,s5.seq (SqL.of ea),Rb.same s5,SqL.of eB5,bo,(),ri.pt,h20,(),λhnone H6 s6=>?_,λst hst l' ys H6 s6 nl el S6=>?_⟩
   ·refine⟨_,rfl,_,rfl,ifT rfl ?_⟩;have eB6:=s6 _ _ eB5;have s06:=s5.trans s6;refine⟨_,rfl,.inl ⟨rfl,_,SqL.of eB6⟩,_,rfl,B,_,_,rfl,rfl,eB6,bN (by rw[length_map];lia),?_⟩;have eS:fV W S i (k0,uN,vN)=(S.1++[(i,uN,vN)],S.2):=by
     unfold fV;rw[if_pos hk,hnone]
    rw[succ,eS];refine⟨s06.change nB1,us,_,_,_,rfl,?_,by rw[aR (Ne.symm nBF)];exact s6 _ _ eF5,(G5.same s6).updO eB6 (λx hx=>(nx4 x hx).2),nx4⟩;rw[aB,map_append];rfl
   ·refine⟨_,rfl,_,rfl,ifF rfl ?_⟩;have eF6:=s6 _ _ eF5;have s06:=s5.trans s6;refine⟨_,rfl,.inl ⟨rfl,_,SqL.of eF6⟩,_,rfl,zl9 2,λt ht=>?_⟩;have st7:=aE ht (.tup [.int (i:Int),.int 1]);have et:SqT Z.K (upd H6 t (.tup [.int (i:Int),.int 1])) t [.int (i:Int),.int 1]:=SqT.of aB;generalize upd H6 t (.tup [.int (i:Int),.int 1])=H7 at st7 et ⊢;refine⟨zl9 1,λL1 hL1=>?_⟩;have s8:=aE hL1 (.lst [.ref t]);have e8:upd H7 L1 (.lst [.ref t]) L1=some (.lst [.ref t]):=aB;generalize upd H7 L1 (.lst [.ref t])=H8 at s8 e8 ⊢;have lst':=yZ ri.pt (show vN < m by lia) hst;have lys:=S6.length;refine⟨_,rfl,L1,l',_,_,rfl,rfl,e8,(st7.trans s8) _ _ el,by rw[sizeLine_eq];simp only[length_cons,length_nil];lia,λC hC=>?_⟩;have nC8:H8 C=none:=hC;have s9:=aE hC (.lst ([.ref t]++ys));have e9:upd H8 C (.lst ([.ref t]++ys)) C=some (.lst ([.ref t]++ys)):=aB;generalize upd H8 C (.lst ([.ref t]++ys))=H9 at s9 e9 ⊢;have s69:=st7.trans (s8.trans s9);have eF9:=s69 _ _ eF6;have s09:=s06.trans s69;have nCF:C≠F36:=Ne.symm (bK ((st7.trans s8) _ _ eF6) nC8);have nCB:C≠B:=Ne.symm (bK ((st7.trans s8) _ _ (s6 _ _ eB5)) nC8);refine⟨F36,_,_,rfl,rfl,eF9,bN (),?_⟩;have eS:fV W S i (k0,uN,vN)=(S.1,S.2++[(i,(i,1) :: st)]):=by
     unfold fV;rw[if_pos hk,hst]
    rw[succ,eS];have SC:Sts Z.K H9 ([.ref t]++ys) ((i,1) :: st):=.cons ((s8.trans s9).seqT et) (S6.same s69);refine⟨s09.change nF1,us++[.ref C],_,_,_,rfl,by rw[aR nBF];exact s69 _ _ (s6 _ _ eB5),aB,?_,λx hx=>?_⟩
    ·rw[map_append];have G9:=((G5.same s6).same s69).snoc (((s1.trans s06).trans (st7.trans s8)).free nC8) e9 SC;refine G9.updO eF9 λx hx=>?_;rcases mem_append.mp hx with z | z
     ·exact(nx4 x z).1
     ·have:x=.ref C:=by simpa using z
      rw[this];exact λz=>nCF (by injection z)
    ·rcases mem_append.mp hx with z | z
     ·exact nx4 x z
     ·have:x=.ref C:=by simpa using z
      rw[this];exact⟨λz=>nCF (by injection z),λz=>nCB (by injection z)⟩
  ·refine ifF (by show (if false=true then _ else inV (V.str k0.wd) ws)=false;rw[if_neg ∅,hin];simpa using hk) ?_;have eS:fV W S i (k0,uN,vN)=S:=by
    unfold fV;rw[if_neg hk]
   rw[succ,eS];exact⟨s5,us,_,_,_,rfl,eB5,eF5,G5,nx4⟩
 rintro σ H4 ⟨s4,us,z6,z7,z8,rfl,eB4,eF4,G4,nx4⟩;rw[lxs] at G4;exact⟨_,rfl,q F36 us H4 (s1.trans s4) nF eF4 G4 λx hx=>(nx4 x hx).1⟩
theorem X5:cA [.int 1] ([.int 1 Z.tk6]):=.cons ⟨_,rfl⟩ .nil
theorem Y37:DZ 5 Z.f37 Z.d37 ["net","ring"] (Fc Z.c_Net Z.K) "ring_sum":=by
 refine⟨?_,F37.b2 _ _ (by intros;rfl),F37.kp,m37⟩
 refine F37.ok9 Ry λcdv A outer s H vs Q E hr h=>?_;obtain⟨n,l,b,m,ds,xs,st,rfl,nt,h100,hK,hB,hS,h21,hst,q⟩:=h;have r2:=hr.mono (show 2<=4 by lia);have r3:=hr.mono (show 3<=4 by lia);refine⟨_,(aD (aQ (i:=2) Ry.nd rfl (Or.inr rfl) (dE (pv 0) NTx.cl X4 R30 hr b30 .nil aM))
  (aF (aV (aH Y11.G hr rfl m11 F11.kp Y11.b .nil aM (aA (dZ (nl:=2) (fr:=[2]) (Nc:=["number","way","rows"]) (cl:=[("rows",s.heap.objs.size+1)]) (g:=(Ef Z.K 2 (jA (iF 0) (jA (iF 1) Eh)))) rfl ⟨rfl,rfl,∅,∅,λx c h=>h,dR rfl,rfl,λi n h=>match i,h with | 0,h=>by cases h;exact⟨2,rfl,rfl,rfl,rfl,.inl rfl⟩ | k+1,h=>by rw[show 2+(k+1)=k+3 by lia] at h;cases h⟩
    (cE (pv 1)) (λ_ _ _ _ _=>(iJ rfl (bZ (aZ (i:=0) iW rfl (Or.inl rfl)) (bZ (aZ (i:=1) iW rfl (Or.inl rfl)) gF)))) (λ_ _ _ _ _=>eX)
    (λ_ _ _ _ _=>(aH Y9.G r3 rfl m9 F9.kp Y9.b .nil aM (aA (aH Y6.G r2 rfl m6 F6.kp bd6 X5 aM (aA (pv 1) aC)) (aA (We (K:=Z.K) rfl (aT (iE (K:=Z.K) rfl) (pv 2) (pv 0) (λ_ _=>rfl)) rfl) aC))))) aC))))),?_⟩
 obtain⟨dx,hn⟩:=nt.ob;refine⟨_,rfl,n,dx,_,rfl,hn,cY _ _ ∅ ∅,n,l,_,ds,rfl,nt,h100,λa ys H1 s1 na ea Rb=>?_⟩;have lx:=hS.length;refine⟨_,rfl,b,rfl,⟨_,s1.seq hB⟩,λD hD=>?_⟩;have sD:=aE hD (.lst []);refine dL (xs:=xs) (λi zs H'=>aS H1 H'/\H' D=some (.lst zs)/\Fqs Z.K H' zs ((st.take i).map (fX ds))) ⟨sD,aB,.nil⟩ (λi zs H' h=>h.2.1) (λi zs H' _ h=>(s1.trans h.1).seq hB) ?_ ?_
 ·rintro i zs x H2 hx ⟨s2,e2,F2⟩ C hC;obtain⟨tt,s,rfl,es,hT⟩:=(hS.same (s1.trans s2)).get hx;have hi:i < st.length:=(List.getElem?_eq_some_iff.mp es).1;obtain⟨hlt,hw⟩:=hst s (mem_of_getElem? es);have hd:ds[s.1]?=some ds[s.1]:=getElem?_eq_getElem hlt;obtain⟨y,z,ey,rw0,fz⟩:=Rb.at hd;obtain⟨dr,hy⟩:=id (rw0.same s2);have at_:atI ys (s.1:Int)=some (.ref y):=bQ ey;obtain⟨er,lw,bw⟩:=Xu hw;obtain⟨lp,bp⟩:=hK _ (mem_of_getElem? hd);have lz:=F2.length;rw[length_map,length_take] at lz;refine⟨tt,_,rfl,hT,rfl,_,_,rfl,_,_,rfl,rfl,jL.1,jL.2,gB ?_⟩;refine⟨_,rfl,s.2,1,1,rfl,∅,by show (1:Nat) < 2 ^ 1;decide,(),λu H3 s3 e3=>?_⟩;rw[er] at e3;refine⟨_,rfl,_,rfl,a,ys,_,_,rfl,rfl,SqL.of ((s2.trans s3) _ _ ea),at_,?_⟩;obtain⟨dr3,hy3⟩:=id (rw0.same (s2.trans s3));refine⟨y,(kd3 Z.c_Piece Z.c_Push Z.c_Hold) _,_,_,_,rfl,hy3,T.cl _,T.nZ _,gV _ _ _,u,z,(s.2,1),_,1,30,rfl,Fq.of e3,(s2.trans s3).fq fz,lw.pos,lp.pos,bw,bp,(),λv H4 s4 e4=>?_⟩;have s24:=s3.trans s4;have e24:=s24 _ _ e2;refine⟨e24,bN (),hC _ _ ⟨(s2.trans s24).change hD,aB,?_⟩⟩;have ee:(st.take (i+1)).map (fX ds)=(st.take i).map (fX ds)++[tN (s.2,1) ds[s.1].2.2.2]:=by
   rw[take_add_one,es,map_append];show _++[fX ds s]=_;unfold fX;rw[er,getD_eq_getElem?_getD,hd];rfl
  rw[ee];exact((F2.same s24).app (.cons (Fq.of e4) .nil)).upd e24
 rintro zs H2 ⟨s2,e2,F2⟩;rw[lx,take_length] at F2;refine⟨D,zs,_,41*st.length,rfl,SqL.of e2,F2,Lp hK hst,Es hK hst,(),λr H3 s3 f3=>q r H3 (s1.trans (s2.trans s3)) f3⟩
theorem Y38:DZ 4 Z.f38 Z.d38 ["line","column","amount"] (rA Z.K) "raise_at":=by
 refine⟨?_,F38.b3 _ _ _ (by intros;rfl),F38.kp,m38⟩
 refine F38.ok9 Vw λ_ _ _ s H _ Q E hr h=>?_;obtain⟨l,z,j,xs,ps,a,n,m,rfl,hl,hF,hj,p1,bp,fz,a1,ba,hn,q⟩:=h;refine⟨_,(aF (pJ (d9 Y8 hr rfl (aA (aT bM (pv 0) (pv 1) (λ_ _=>rfl)) (aA (pv 2) aC))) (tK (pv 0) (pv 1) kK))),?_⟩;have lx:=hF.length;obtain⟨u,eu,fu⟩:=hF.at (wY hj);refine⟨_,rfl,_,rfl,l,xs,_,_,rfl,rfl,SqL.of hl,bQ eu,_,rfl,u,z,_,a,n,m,rfl,fu,fz,p1,a1,bp,ba,hn,λv H1 s1 e1=>?_⟩;exact⟨_,rfl,_,rfl,l,xs,_,j,rfl,rfl,s1 _ _ hl,oK (),q v H1 s1 (Fq.of e1)⟩
theorem Y39:DZ 5 Z.f39 Z.d39 ["matrix","row","column","amount"] (uA Z.K (kd3 Z.c_Piece Z.c_Push Z.c_Hold)) "enter_stream":=by
 refine⟨?_,F39.b4 _ _ _ _ (by intros;rfl),F39.kp,m39⟩
 refine F39.ok9 Vg λ_ _ _ s H _ Q E hr h=>?_;obtain⟨D,x,z,zz,as,M,⟨k0,u,v,p⟩,w,n,k,c,a,rfl,mx,mb,rw,pt,hc,fz,la,ba,hn,q⟩:=h;have r3:=hr.mono (show 3<=4 by lia);refine⟨_,(aD (bS (aH Y38.G hr rfl m38 F38.kp Y38.b .nil aM (aA (aT bM (pv 0) (cS (pv 1) rfl) (λ_ _=>rfl)) (aA (pv 2) (aA (pv 3) aC)))))
  (aF (bS (aH Y38.G hr rfl m38 F38.kp Y38.b .nil aM (aA (aT bM (pv 0) (cS (pv 1) rfl) (λ_ _=>rfl)) (aA (pv 2) (aA (aH Y7.G r3 rfl m7 F7.kp Y7.b .nil aM (aA (dG (v:=.ref Z.aN) rfl mv_NOUGHT rfl) (aA (pv 3) aC))) aC))))))),?_⟩
 obtain⟨i0,i1,j0,j1⟩:dF (w:Int) u v:=pt;obtain⟨uN,rfl⟩:∃uN:Nat,u=(uN:Int):=⟨u.toNat,()⟩
 obtain⟨vN,rfl⟩:∃vN:Nat,v=(vN:Int):=⟨v.toNat,()⟩
 have hu':uN < w:=by lia
 have hv':vN < w:=by lia
 obtain⟨ln,bn,_⟩:=mX la ba;obtain⟨dx,hx⟩:=id rw;obtain⟨e1,m38,w1⟩:=mb.row hu';obtain⟨e2,l2,Y7.b⟩:=mb.at hu' hc;have lam:=mx.la;obtain⟨a1,ha1⟩:∃a1,as[uN]?=some a1:=⟨_,getElem?_eq_getElem (by rw[lam,mb.h];exact hu')⟩
 obtain⟨xs,hxs,hF⟩:=mx.r uN a1 _ ha1 e1;have at1:atI (as.map V.ref) (uN:Int)=some (.ref a1):=bQ (by rw[getElem?_map,ha1];rfl);refine⟨_,rfl,_,rfl,x,(kd3 Z.c_Piece Z.c_Push Z.c_Hold) _,_,_,_,rfl,hx,T.cl _,T.nS _,dS _ _ _,D,_,_,_,rfl,rfl,SqL.of mx.d,at1,_,rfl,_,rfl,a1,z,c,xs,_,a,n,k,rfl,hxs,hF,by rw[w1];exact hc,l2.pos,Y7.b,fz,la.pos,ba,(),λv1 H1 s1 f1=>?_⟩;obtain⟨mx2,sx2⟩:=mx.set (j:=c) ha1 e1 hxs hF s1 f1;have mb2:=mb.rz hu' hc la ba;generalize upd H1 a1 (.lst (xs.set c (.ref v1)))=H2 at mx2 sx2 ⊢;have mx2:Mx Z.K H2 D as (rz M uN c a):=mx2;have ls:=mx.lsts;have fz2:Fq Z.K H2 z a:=sx2.seqT ls fz;obtain⟨dx2,hx2⟩:=id (sx2.rw ls rw);obtain⟨e3,m3,w3⟩:=mb2.row hv';obtain⟨e4,l4,b4⟩:=mb2.at hv' hc;obtain⟨a2,ha2⟩:∃a2,as[vN]?=some a2:=⟨_,getElem?_eq_getElem (by rw[lam,mb.h];exact hv')⟩
 obtain⟨xs2,hxs2,hF2⟩:=mx2.r vN a2 _ ha2 e3;have at2:atI (as.map V.ref) (vN:Int)=some (.ref a2):=bQ (by rw[getElem?_map,ha2];rfl);have b01:Mq.Bd 1 (0,1):=⟨show (0:Nat) < 2 ^ 1 by decide,show (1:Nat) < 2 ^ 1 by decide⟩
 refine⟨_,rfl,_,rfl,x,(kd3 Z.c_Piece Z.c_Push Z.c_Hold) _,_,_,_,rfl,hx2,T.cl _,T.nG _,eQ _ _ _,D,_,_,_,rfl,rfl,SqL.of mx2.d,at2,_,rfl,_,rfl,Z.aN,z,(0,1),a,1,k,rfl,fN _,fz2,∅,la.pos,b01,ba,(),λv3 H3 s3 e5=>?_⟩;refine⟨a2,v3,c,xs2,_,_,n+k+1,k+2,rfl,s3 _ _ hxs2,hF2.same s3,by rw[w3];exact hc,l4.pos,b4,Fq.of e5,ln.pos,bn,(),λv4 H4 s4 f4=>?_⟩;obtain⟨mx3,sx3⟩:=(mx2.same s3).set (j:=c) ha2 e3 (s3 _ _ hxs2) (hF2.same s3) s4 f4;exact q _ (sx2.trans (s3.sx.trans sx3)) mx3
theorem Y40:DZ 6 Z.f40 Z.d40 ["matrix","row"] (wR Z.K (kd3 Z.c_Piece Z.c_Push Z.c_Hold)) "enter_piece":=by
 refine⟨?_,F40.b2 _ _ (by intros;rfl),F40.kp,m40⟩
 refine F40.ok9 Ew λ_ _ _ s H _ Q E hr h=>?_;obtain⟨D,x,zz,as,M,⟨k0,u,v,p⟩,w,n,k,rfl,mx,mb,rw,fp,pt,lp,p0,bp,hn,q⟩:=h;have r3:=hr.mono (show 3<=5 by lia);refine⟨_,(aD (aQ (i:=2) Ew.nd rfl (Or.inl rfl) (d9 Y10 r3 rfl (aA (dG (v:=.ref Z.aO) rfl mv_ONE rfl) (aA (cS (pv 1) rfl) aC))))
  (aD (bS (d9 Y39 hr rfl (aA (pv 0) (aA (pv 1) (aA (cS (pv 1) rfl) (aA (pv 2) aC))))))
  (aF (bS (d9 Y39 hr rfl (aA (pv 0) (aA (pv 1) (aA (cS (pv 1) rfl) (aA (d9 Y7 r3 rfl (aA (dG (v:=.ref Z.aN) rfl mv_NOUGHT rfl) (aA (pv 2) aC))) aC))))))))),?_⟩
 have lp:Mq.Low p:=lp;have p0:0 < p.1:=p0;have bp:Mq.Bd k p:=bp;have fp:Fq Z.K H zz p:=fp;obtain⟨i0,i1,j0,j1⟩:dF (w:Int) u v:=pt;obtain⟨uN,rfl⟩:∃uN:Nat,u=(uN:Int):=⟨u.toNat,()⟩
 obtain⟨vN,rfl⟩:∃vN:Nat,v=(vN:Int):=⟨v.toNat,()⟩
 obtain⟨ls,bs,_⟩:=Ex lp p0 bp;obtain⟨ln,bn,_⟩:=mX ls bs;have pt':dF (w:Int) (uN:Int) (vN:Int):=⟨i0,i1,j0,j1⟩
 obtain⟨dx,hx⟩:=id rw;refine⟨_,rfl,x,(kd3 Z.c_Piece Z.c_Push Z.c_Hold) _,_,_,_,rfl,hx,T.cl _,T.nZ _,gV _ _ _,Z.aO,zz,(1,1),p,1,k,rfl,fO _,fp,h11,lp.pos,p0,gW,bp,(),λs' H1 s1 e1=>?_⟩;have fs:Fq Z.K H1 s' (tV (1,1) p):=Fq.of e1;have rw1:=rw.same s1;obtain⟨dx1,hx1⟩:=id rw1;have mx1:=mx.same s1;refine⟨_,rfl,_,rfl,_,rfl,x,(kd3 Z.c_Piece Z.c_Push Z.c_Hold) _,_,_,_,rfl,hx1,T.cl _,T.nS _,dS _ _ _,_,rfl,D,x,s',_,as,M,(k0,(uN:Int),(vN:Int),p),w,n,k+1,uN,_,rfl,mx1,mb,rw1,pt',(),fs,ls,bs,(),λH2 sx2 mx2=>?_⟩;have lst:=mx1.lsts;have fs2:Fq Z.K H2 s' (tV (1,1) p):=sx2.seqT lst fs;have rw2:=sx2.rw lst rw1;obtain⟨dx2,hx2⟩:=id rw2;obtain⟨mb2,_⟩:=Do (d:=(k0,(uN:Int),(vN:Int),p)) mb pt' (c:=uN) () ls bs;have b01:Mq.Bd 1 (0,1):=⟨show (0:Nat) < 2 ^ 1 by decide,show (1:Nat) < 2 ^ 1 by decide⟩
 refine⟨_,rfl,_,rfl,_,rfl,x,(kd3 Z.c_Piece Z.c_Push Z.c_Hold) _,_,_,_,rfl,hx2,T.cl _,T.nG _,eQ _ _ _,_,rfl,Z.aN,s',(0,1),_,1,k+1,rfl,fN _,fs2,∅,ls.pos,b01,bs,(),λv3 H3 s3 e3=>?_⟩;refine⟨D,x,v3,_,as,_,(k0,(uN:Int),(vN:Int),p),w,n+2*(k+1)+4,k+3,vN,_,rfl,mx2.same s3,mb2,rw2.same s3,pt',(),Fq.of e3,ln,bn,(),λH4 sx4 mx4=>?_⟩;exact q H4 (s1.sx.trans (sx2.trans (s3.sx.trans sx4))) mx4
theorem Y41:DZ 5 Z.f41 Z.d41 ["right","row"] (rC Z.K (kd3 Z.c_Piece Z.c_Push Z.c_Hold)) "enter_push":=by
 refine⟨?_,F41.b2 _ _ (by intros;rfl),F41.kp,m41⟩
 refine F41.ok9 Ol λ_ _ _ s H _ Q E hr h=>?_;obtain⟨R,x,zz,ys,rs,⟨k0,u,v,p⟩,w,n,k,rfl,eR,hF,lb,rw,fp,pt,lp,bp,hn,q⟩:=h;have r3:=hr.mono (show 3<=4 by lia);refine⟨_,(aD (bS (d9 Y38 hr rfl (aA (pv 0) (aA (cS (pv 1) rfl) (aA (d9 Y7 r3 rfl (aA (dG (v:=.ref Z.aN) rfl mv_NOUGHT rfl) (aA (cS (pv 1) rfl) aC))) aC)))))
  (aF (bS (d9 Y38 hr rfl (aA (pv 0) (aA (cS (pv 1) rfl) (aA (cS (pv 1) rfl) aC))))))),?_⟩
 have lp:Mq.Low p:=lp;have bp:Mq.Bd k p:=bp;have fp:Fq Z.K H zz p:=fp;obtain⟨i0,i1,j0,j1⟩:dF (w:Int) u v:=pt;obtain⟨uN,rfl⟩:∃uN:Nat,u=(uN:Int):=⟨u.toNat,()⟩
 obtain⟨vN,rfl⟩:∃vN:Nat,v=(vN:Int):=⟨v.toNat,()⟩
 obtain⟨ln,bn,_⟩:=mX lp bp;obtain⟨dx,hx⟩:=id rw;obtain⟨_,l1,b1⟩:=lb.at (j:=uN) ();have b01:Mq.Bd 1 (0,1):=⟨show (0:Nat) < 2 ^ 1 by decide,show (1:Nat) < 2 ^ 1 by decide⟩
 refine⟨_,rfl,_,rfl,x,(kd3 Z.c_Piece Z.c_Push Z.c_Hold) _,_,_,_,rfl,hx,T.cl _,T.nS _,dS _ _ _,_,rfl,x,(kd3 Z.c_Piece Z.c_Push Z.c_Hold) _,_,_,_,rfl,hx,T.cl _,T.nZ _,gV _ _ _,Z.aN,zz,(0,1),p,1,k,rfl,fN _,fp,∅,lp.pos,b01,bp,(),λv1 H1 s1 e1=>?_⟩;refine⟨R,v1,uN,ys,rs,_,n,k+2,rfl,s1 _ _ eR,hF.same s1,by rw[lb.w];lia,l1.pos,b1,Fq.of e1,ln.pos,bn,(),λv2 H2 s2 f2=>?_⟩;have s12:=s1.trans s2;have eR2:=s12 _ _ eR;have F3:=(Fqs.set f2 uN (hF.same s12)).upd (o:=.lst (ys.set uN (.ref v2))) eR2;have e3:upd H2 R (.lst (ys.set uN (.ref v2))) R=some (.lst (ys.set uN (.ref v2))):=aB;have sx3:SX [R] H (upd H2 R (.lst (ys.set uN (.ref v2)))):=s12.sx.write ⋯;have fp3:Fq Z.K (upd H2 R (.lst (ys.set uN (.ref v2)))) zz p:=SqT.upd (s12.fq fp) eR2;have rw3:=(rw.same s12).upd (o:=.lst (ys.set uN (.ref v2))) eR2;generalize upd H2 R (.lst (ys.set uN (.ref v2)))=H3 at F3 e3 sx3 fp3 rw3 ⊢;have lb3:=lb.rz (j:=uN) () ln bn;have F3:Fqs Z.K H3 (ys.set uN (.ref v2)) (rzl rs uN (Mq.minus (0,1) p)):=F3;obtain⟨_,l4,b4⟩:=lb3.at (j:=vN) ();obtain⟨dx3,hx3⟩:=id rw3;refine⟨_,rfl,_,rfl,x,(kd3 Z.c_Piece Z.c_Push Z.c_Hold) _,_,_,_,rfl,hx3,T.cl _,T.nG _,eQ _ _ _,_,rfl,x,(kd3 Z.c_Piece Z.c_Push Z.c_Hold) _,_,_,_,rfl,hx3,T.cl _,T.nZ _,gV _ _ _,R,zz,vN,_,_,p,n+(k+2)+1,k,rfl,e3,F3,by rw[lb3.w];lia,l4.pos,b4,fp3,lp.pos,bp,(),λv5 H5 s5 f5=>?_⟩;refine q _ _ (sx3.trans (s5.sx.write ⋯)) aB ?_;exact(Fqs.set f5 vN (F3.same s5)).upd (s5 _ _ e3)
theorem Y42:DZ 6 Z.f42 Z.d42 ["matrix","right","row","column"] (wC Z.K (kd3 Z.c_Piece Z.c_Push Z.c_Hold)) "enter_hold":=by
 refine⟨?_,F42.b4 _ _ _ _ (by intros;rfl),F42.kp,m42⟩
 refine F42.ok9 Pj λ_ _ _ s H _ Q E hr h=>?_;obtain⟨D,R,x,zz,as,M,ys,rs,⟨k0,u,v,p⟩,w,n,c,rfl,mx,mb,eR,hFR,lr,nRD,nRa,rw,fp,pt,hc,hn,q⟩:=h;have r3:=hr.mono (show 3<=5 by lia);have r4:=hr.mono (show 4<=5 by lia);refine⟨_,(aD (bS (aH Y39.G hr rfl m39 F39.kp Y39.b .nil aM (aA (pv 0) (aA (pv 2) (aA (pv 3) (aA (dG (v:=.ref Z.aO) rfl mv_ONE rfl) aC))))))
  (aD (bS (aH Y38.G r4 rfl m38 F38.kp Y38.b .nil aM (aA (aT bM (pv 0) (pv 3) (λ_ _=>rfl)) (aA (cS (pv 2) rfl) (aA (dG (v:=.ref Z.aO) rfl mv_ONE rfl) aC)))))
  (aD (bS (aH Y38.G r4 rfl m38 F38.kp Y38.b .nil aM (aA (aT bM (pv 0) (pv 3) (λ_ _=>rfl)) (aA (cS (pv 2) rfl) (aA (aH Y7.G r3 rfl m7 F7.kp Y7.b .nil aM (aA (dG (v:=.ref Z.aN) rfl mv_NOUGHT rfl) (aA (dG (v:=.ref Z.aO) rfl mv_ONE rfl) aC))) aC)))))
  (aF (pJ (cS (pv 2) rfl) (tK (pv 1) (pv 3) kK)))))),?_⟩
 have fp:Fq Z.K H zz p:=fp;obtain⟨i0,i1,j0,j1⟩:dF (w:Int) u v:=pt;obtain⟨uN,rfl⟩:∃uN:Nat,u=(uN:Int):=⟨u.toNat,()⟩
 obtain⟨vN,rfl⟩:∃vN:Nat,v=(vN:Int):=⟨v.toNat,()⟩
 have pt':dF (w:Int) (uN:Int) (vN:Int):=⟨i0,i1,j0,j1⟩
 obtain⟨ln,bn,_⟩:=mX hV gW;have lam:=mx.la;refine⟨_,rfl,_,rfl,_,rfl,D,x,Z.aO,_,as,M,(k0,(uN:Int),(vN:Int),p),w,n,1,c,(1,1),rfl,mx,mb,rw,pt',hc,fO _,hV,gW,(),λH1 sx1 mx1=>?_⟩;have lst:=mx.lsts;have rw1:=sx1.rw lst rw;have fp1:Fq Z.K H1 zz p:=sx1.seqT lst fp;have eR1:=sx1 _ _ eR nRa;have FR1:=SX.fqs lst sx1 hFR;obtain⟨mb1,_⟩:=Do (d:=(k0,(uN:Int),(vN:Int),p)) mb pt' hc hV gW;generalize hM1:en M (k0,(uN:Int),(vN:Int),p) c (1,1)=M1 at mx1 mb1;obtain⟨ac,hac⟩:∃ac,as[c]?=some ac:=⟨_,getElem?_eq_getElem (by rw[lam,mb.h];exact hc)⟩
 have atc:atI (as.map V.ref) (c:Int)=some (.ref ac):=bQ (by rw[getElem?_map,hac];rfl);obtain⟨e1,m39,w1⟩:=mb1.row hc;obtain⟨_,l2,Y38.b⟩:=mb1.at hc (j:=uN) ();obtain⟨xs,hxs,hF⟩:=mx1.r c ac _ hac e1;obtain⟨dx1,hx1⟩:=id rw1;refine⟨_,rfl,_,rfl,D,_,_,_,rfl,rfl,SqL.of mx1.d,atc,_,rfl,x,(kd3 Z.c_Piece Z.c_Push Z.c_Hold) _,_,_,_,rfl,hx1,T.cl _,T.nS _,dS _ _ _,ac,Z.aO,uN,xs,_,(1,1),n+2*1+4,1,rfl,hxs,hF,by rw[w1];lia,l2.pos,Y38.b,fO _,h11,gW,(),λv1 H2 s2 f2=>?_⟩;obtain⟨mx3,sx3⟩:=mx1.set (j:=uN) hac e1 hxs hF s2 f2;have lst1:=mx1.lsts;generalize upd H2 ac (.lst (xs.set uN (.ref v1)))=H3 at mx3 sx3 ⊢;have mb3:=mb1.rz hc (j:=uN) () hV gW;have mx3:Mx Z.K H3 D as (rz M1 c uN (1,1)):=mx3;have rw3:=sx3.rw lst1 rw1;have fp3:Fq Z.K H3 zz p:=sx3.seqT lst1 fp1;have eR3:=sx3 _ _ eR1 nRa;have FR3:=SX.fqs lst1 sx3 FR1;generalize hM3:rz M1 c uN (1,1)=M3 at mx3 mb3;obtain⟨e3,m7,w3⟩:=mb3.row hc;obtain⟨_,l4,b4⟩:=mb3.at hc (j:=vN) ();obtain⟨xs3,hxs3,hF3⟩:=mx3.r c ac _ hac e3;obtain⟨dx3,hx3⟩:=id rw3;refine⟨_,rfl,_,rfl,D,_,_,_,rfl,rfl,SqL.of mx3.d,atc,_,rfl,x,(kd3 Z.c_Piece Z.c_Push Z.c_Hold) _,_,_,_,rfl,hx3,T.cl _,T.nG _,eQ _ _ _,Z.aN,Z.aO,(0,1),(1,1),1,1,rfl,fN _,fO _,∅,h11,⟨show (0:Nat) < 2 ^ 1 by decide,show (1:Nat) < 2 ^ 1 by decide⟩,gW,(),λv4 H4 s4 e4=>?_⟩;refine⟨ac,v4,vN,xs3,_,_,n+2*1+4+1+1,1+2,rfl,s4 _ _ hxs3,hF3.same s4,by rw[w3];lia,l4.pos,b4,Fq.of e4,ln.pos,bn,(),λv5 H5 s5 f5=>?_⟩;obtain⟨mx6,sx6⟩:=(mx3.same s4).set (j:=vN) hac e3 (s4 _ _ hxs3) (hF3.same s4) s5 f5;have sx36:=(aS.sx (as:=as) s4).trans sx6;have lst3:=mx3.lsts;generalize upd H5 ac (.lst (xs3.set vN (.ref v5)))=H6 at mx6 sx6 sx36 ⊢;have mx6:Mx Z.K H6 D as (rz M3 c vN (Mq.minus (0,1) (1,1))):=mx6;have rw6:=sx36.rw lst3 rw3;have fp6:Fq Z.K H6 zz p:=sx36.seqT lst3 fp3;have eR6:=sx36 _ _ eR3 nRa;have FR6:=SX.fqs lst3 sx36 FR3;obtain⟨dx6,hx6⟩:=id rw6;have ly:=FR6.length;refine⟨_,rfl,x,(kd3 Z.c_Piece Z.c_Push Z.c_Hold) _,_,_,_,rfl,hx6,T.cl _,T.nZ _,gV _ _ _,_,rfl,_,rfl,R,ys,_,c,rfl,rfl,eR6,oK (),?_⟩;have eM:hM M (k0,(uN:Int),(vN:Int),p) c=rz M3 c vN (Mq.minus (0,1) (1,1)):=by rw[<- hM3,<- hM1];rfl
 have mx7:=mx6.other (o:=.lst (ys.set c (.ref zz))) eR6 nRD nRa;rw[<- eM] at mx7;refine q _ _ ?_ mx7 aB ((Fqs.set fp6 c FR6).upd eR6);refine SX.write (SX.mono (sx1.trans (sx3.trans sx36)) λx hx=>mem_cons_of_mem _ hx) ⋯
theorem Y43:DZ 7 Z.f43 Z.d43 ["net"] (Bo Z.c_Net Z.K) "equations":=by
 refine⟨?_,F43.b1 _ (by intros;rfl),F43.kp,m43⟩
 refine F43.ok9 pS λ_ _ _ s H _ Q E hr h=>?_;obtain⟨n,l,m,kb,ds,rfl,nt,hK,hm1,hm20,h40,hbig,q⟩:=h;have r1:=hr.mono (show 1<=6 by lia);have r4:=hr.mono (show 4<=6 by lia);have r5:=hr.mono (show 5<=6 by lia);refine⟨_,(aD (aQ (i:=1) pS.nd rfl (Or.inl rfl) (dE (pv 0) NTx.cl X4 R30 r4 b30 .nil aM))
  (aD (aQ (i:=2) pS.nd rfl (Or.inl rfl) (dE (pv 0) NTx.cl X3 R28 r1 b28 .nil aM))
  (aD (aQ (i:=3) pS.nd rfl (Or.inr rfl) (bB gD (pv 2) (bO bV rfl n_len PySem.boot_len (aA (dZ (nl:=1) (fr:=[]) (Nc:=["row"]) (cl:=[]) rfl ⟨rfl,rfl,∅,∅,λx c h=>(by cases h),dR rfl,rfl,λi n h=>(by simp at h)⟩
    (cE (pv 1)) (λ_ _ _ _ _=>(aZ (i:=0) Gv rfl (Or.inl rfl))) (λ_ _ _ _ _=>(jN (aY dP (gC (pv 0) T.cl mW GW r1 bW .nil aM) aX (bA _))))
    (λ_ _ _ _ _=>(pv 0))) aC))))
  (aD (nY (i:=4) (nl:=1) (fr:=[3]) (Nc:=["line","width"]) (cl:=[("width",s.heap.objs.size+1)]) pS.nd rfl rfl rfl ⟨rfl,rfl,∅,∅,λx c h=>h,dR rfl,rfl,λi n h=>match i,h with | 0,h=>by cases h;exact⟨3,rfl,rfl,rfl,rfl,.inl rfl⟩ | k+1,h=>by rw[show 1+(k+1)=k+2 by lia] at h;cases h⟩
    (eZ rfl n_range (aA (pv 3) aC)) (λ_ _ _ _ _=>(aZ (i:=0) yR rfl (Or.inl rfl))) (λ_ _ _ _ _=>eX)
    (λ_ _ _ _ _=>(bB yC (bU (aA (dG (v:=.ref Z.aN) rfl mv_NOUGHT rfl) aC)) (pv 1))) rfl)
  (aD (aQ (i:=5) pS.nd rfl (Or.inl rfl) (bB yC (bU (aA (dG (v:=.ref Z.aN) rfl mv_NOUGHT rfl) aC)) (pv 3)))
  (aD (aQ (i:=6) pS.nd rfl (Or.inl rfl) (pv 2))
  (aD (dQ PassesOwn.never rfl (cE (pv 1)) (aZ (i:=7) pS.nd rfl (Or.inl rfl))
   (aF (bX (aY dP (gC (pv 7) T.cl mW GW r1 bW .nil aM) aX (bA _)) (aF (bS (d9 Y40 hr rfl (aA (pv 4) (aA (pv 7) aC))))) (aF (bX (aY dP (gC (pv 7) T.cl mW GW r1 bW .nil aM) aX (bA _)) (aF (bS (d9 Y41 r5 rfl (aA (pv 5) (aA (pv 7) aC))))) (aD (bS (d9 Y42 hr rfl (aA (pv 4) (aA (pv 5) (aA (pv 7) (aA (pv 6) aC))))))
  (aF (Pl (i:=6) pS.nd rfl (Or.inl rfl) aG Qr))))))))
  (aF (aV (cQ (aA (dZ (nl:=1) (fr:=[]) (Nc:=["line"]) (cl:=[]) rfl ⟨rfl,rfl,∅,∅,λx c h=>(by cases h),dR rfl,rfl,λi n h=>(by simp at h)⟩
    (cE (jG kY (pv 4) (iV aG) qR)) (λ_ _ _ _ _=>(aZ (i:=0) Xo rfl (Or.inl rfl))) (λ_ _ _ _ _=>eX)
    (λ_ _ _ _ _=>(jG (Lc (K:=Z.K) rfl) (pv 0) (iV aG) qR))) (aA (jG kY (pv 5) (iV aG) qR) aC)))))))))))),?_⟩
 obtain⟨dx,hn⟩:=nt.ob;refine⟨_,rfl,n,dx,_,rfl,hn,cY _ _ ∅ ∅,n,l,_,ds,rfl,nt,(),λa xs H1 s1 na ea Rb=>?_⟩;have lxs:=Rb.length;obtain⟨dx1,hn1⟩:=(nt.same s1).ob;refine⟨_,rfl,n,dx1,_,rfl,hn1,cY _ _ ∅ ∅,n,l,_,ds,rfl,nt.same s1,?_⟩;refine⟨_,rfl,_,rfl,a,rfl,⟨_,SqL.of ea⟩,λC0 hC0=>?_⟩;have sC0:=aE hC0 (.lst []);refine dL (xs:=xs) (λi zs H'=>aS H1 H'/\H' C0=some (.lst zs)/\zs.length=cX (ds.take i)) ⟨sC0,aB,rfl⟩ (λi zs H' h=>h.2.1) (λi zs H' _ h=>h.1.seq (SqL.of ea)) ?_ ?_
 ·rintro i zs x H2 hx ⟨s2,e2,lz⟩ C hC;have hi:i < ds.length:=by
   have:=(List.getElem?_eq_some_iff.mp hx).1;lia
  obtain⟨⟨k0,u,v,p⟩,hd⟩:∃d,ds[i]?=some d:=⟨_,getElem?_eq_getElem hi⟩
  obtain⟨y,z,ey,rw,fz⟩:=Rb.at hd;have ex:x=.ref y:=by rw[ey] at hx;exact(Option.some.inj hx).symm
  subst ex;obtain⟨dr,hy⟩:=id (rw.same s2);have et:ds.take (i+1)=ds.take i++[(k0,u,v,p)]:=by rw[take_add_one,hd];rfl
  have lh:=Qt (ds:=ds) i;have lh2:cX ds<=ds.length:=length_filter_le _ _;refine⟨dU.1,dU.2,?_⟩;refine⟨_,rfl,k0,y,dr,_,rfl,hy,(fM _ _ _ ∅ ∅ ∅),_,rfl,rfl,_,rfl,?_⟩
  by_cases hk:k0=.ho
  ·refine ifT (by show decide (V.str k0.wd=V.str Kd.ho.wd)=true;rw[dY];exact decide_eq_true hk) ⟨_,rfl,e2,bN (),hC _ _ ⟨s2.change hC0,aB,?_⟩⟩;rw[et,mC,List.length_append,lz];show _+1=_+dB k0;unfold dB;rw[if_pos hk]
  ·refine ifF (by show decide (V.str k0.wd=V.str Kd.ho.wd)=false;rw[dY];exact decide_eq_false hk) (hC _ _ ⟨s2,e2,?_⟩);rw[et,mC,lz];show _=_+dB k0;unfold dB;rw[if_neg hk];rfl
 rintro zs0 H2 ⟨s2,e2,lz0⟩;rw[lxs,take_length] at lz0;refine⟨C0,zs0,rfl,.inl (SqL.of e2),_,_,rfl,rfl,?_⟩;obtain⟨W,hW⟩:∃W:Nat,W=m+cX ds:=⟨_,rfl⟩
 have lh2:cX ds<=ds.length:=length_filter_le _ _;have eW:(m:Int)+(zs0.length:Int)=(W:Int):=by rw[lz0,hW];lia
 show kO _ _ _ [some (.ref n),some (.ref a),some (.int (m:Int)),some (.int ((m:Int)+(zs0.length:Int))),none,none,none,none] H2;rw[eW];have hW60:W<=60:=by lia
 have hmW:m<=W:=by lia
 have s12:=s2;clear e2 sC0;refine⟨_,rfl,(W:Int),rfl,(),(),λD hD=>?_⟩;rw[Int.toNat_natCast];have sD:=aE hD (.lst []);refine kU (n:=W) (λi zs H'=>aS H2 H'/\H' D=some (.lst zs)/\∃as:List Addr,zs=as.map V.ref/\as.length=i/\as.Nodup/\D∉as/\(∀b∈as,H2 b=none)/\∀b∈as,H' b=some (.lst (replicate W (.ref Z.aN)))) ⟨sD,aB,[],rfl,rfl,nodup_nil,⋯,(λb hb=>by cases hb),(λb hb=>by cases hb)⟩ (λi zs H' h=>h.2.1) ?_ ?_
 ·rintro i zs H3 hi ⟨s3,e3,as,rfl,la,nd,nD,fr,al⟩ C hC;refine⟨dU.1,dU.2,gB ?_⟩;refine⟨zl9 1,λl1 hl1=>?_⟩;have s4:=aE hl1 (.lst [.ref Z.aN]);have e4:upd H3 l1 (.lst [.ref Z.aN]) l1=some (.lst [.ref Z.aN]):=aB;generalize upd H3 l1 (.lst [.ref Z.aN])=H4 at s4 e4 ⊢;refine⟨_,rfl,l1,(W:Int),[.ref Z.aN],rfl,rfl,e4,(),(),?_,λb hb=>?_⟩
  ·rw[Int.toNat_natCast,sizeLine_eq];simp only[length_cons,length_nil];lia
  rw[Int.toNat_natCast,qU];have s5:=aE hb (.lst (replicate W (.ref Z.aN)));have e5:upd H4 b (.lst (replicate W (.ref Z.aN))) b=some (.lst (replicate W (.ref Z.aN))):=aB;generalize upd H4 b (.lst (replicate W (.ref Z.aN)))=H5 at s5 e5 ⊢;have s35:=s4.trans s5;have e35:=s35 _ _ e3;have nbD:b≠D:=Ne.symm (bK (s4 _ _ e3) hb);have nba:b∉as:=λz=>by rw[s4 _ _ (al b z)] at hb;cases hb
  refine⟨e35,bN (by rw[length_map];lia),hC _ _ ⟨(s3.trans s35).change hD,aB,as++[b],by rw[map_append];rfl,by rw[List.length_append,la];rfl,?_,?_,λc hc=>?_,λc hc=>?_⟩⟩
  ·rw[nodup_append];refine⟨nd,⋯,λx hx y hy z=>?_⟩;have:y=b:=by simpa using hy
   exact nba (by rw[<- this,<- z];exact hx)
  ·intro z;rcases mem_append.mp z with z | z
   ·exact nD z
   ·have:D=b:=by simpa using z
    exact nbD this.symm
  ·rcases mem_append.mp hc with z | z
   ·exact fr c z
   ·have:c=b:=by simpa using z
    rw[this];exact(s3.trans s4).free hb
  ·rcases mem_append.mp hc with z | z
   ·rw[aR (λy=>nD (by rw[<- y];exact z))];exact s35 _ _ (al c z)
   ·have:c=b:=by simpa using z
    rw[this,aR nbD];exact e5
 rintro zs3 H3 ⟨s3,e3,as,rfl,la,nd,nD,fr,al⟩;have mx3:Mx Z.K H3 D as (replicate W (replicate W (0,1))):=⟨e3,nd,nD,by rw[la,length_replicate],λi b ps h1 h2=>by
  rw[eq_of_mem_replicate (mem_of_getElem? h2)];exact⟨_,al b (mem_of_getElem? h1),kD (fN _) W⟩⟩
 have nDH:H2 D=none:=hD;refine⟨zl9 1,λl1 hl1=>?_⟩;have s4:=aE hl1 (.lst [.ref Z.aN]);have e4:upd H3 l1 (.lst [.ref Z.aN]) l1=some (.lst [.ref Z.aN]):=aB;generalize upd H3 l1 (.lst [.ref Z.aN])=H4 at s4 e4 ⊢;refine⟨_,rfl,l1,(W:Int),[.ref Z.aN],rfl,rfl,e4,(),(),?_,λR hR=>?_⟩
 ·rw[Int.toNat_natCast,sizeLine_eq];simp only[length_cons,length_nil];lia
 rw[Int.toNat_natCast,qU];have s5:=aE hR (.lst (replicate W (.ref Z.aN)));have e5:upd H4 R (.lst (replicate W (.ref Z.aN))) R=some (.lst (replicate W (.ref Z.aN))):=aB;generalize upd H4 R (.lst (replicate W (.ref Z.aN)))=H5 at s5 e5 ⊢;have s25:=s3.trans (s4.trans s5);have nRH:H2 R=none:=(s3.trans s4).free hR;have nRD:R≠D:=Ne.symm (bK ((s4) _ _ mx3.d) hR);have nRa:R∉as:=λz=>by rw[s4 _ _ (al R z)] at hR;cases hR
 have mx5:=(mx3.same s4).same s5;have allN:∀b∈R :: as,H2 b=none:=λb hb=>by
  rcases mem_cons.mp hb with z | z
  ·rw[z];exact nRH
  ·exact fr b z
 have F5:Fqs Z.K H5 (replicate W (.ref Z.aN)) (replicate W (0,1)):=kD (fN _) W;refine⟨_,rfl,?_⟩;have eaH:=s12 _ _ ea;have Rb2:=Rb.same s12;refine⟨_,rfl,a,rfl,⟨_,SqL.of (s25 _ _ eaH)⟩,?_⟩;refine dX (xs:=xs) (λi σ H'=>aS H2 H'/\∃(M:List (List Mq.Q2)) (ys:List V) (rs:List Mq.Q2) (z7:Option V),σ=[some (.ref n),some (.ref a),some (.int (m:Int)),some (.int (W:Int)),some (.ref D),some (.ref R),some (.int ((m+cX (ds.take i):Nat):Int)),z7]/\Mx Z.K H' D as M/\MxB M W W (jR kb i+1)/\H' R=some (.lst ys)/\Fqs Z.K H' ys rs/\LnB rs W (jR kb i+1)/\(∀x y,Mq.val (iU M x y)=eqM m (ds.take i) x y)/\∀x,Mq.val (rs.getD x (0,1))=eqR m (ds.take i) x) ⟨s25,_,_,_,none,rfl,mx5,Wa W,e5,F5,Av W,λx y=>by rw[Tw,Mq.tS];rfl,λx=>by rw[rG,Mq.tS];rfl⟩ (λi σ H' _ h=>h.1.seq (SqL.of eaH)) ?_ ?_
 ·rintro i x σ H6 hx ⟨s6,M,ys,rs,z7,rfl,mx,mb,eR,FR,lb,vM,vR⟩;have hi:i < ds.length:=by
   have:=(List.getElem?_eq_some_iff.mp hx).1;lia
  obtain⟨⟨k0,u,v,p⟩,hd⟩:∃d,ds[i]?=some d:=⟨_,getElem?_eq_getElem hi⟩
  obtain⟨y,z,ey,rw0,fz0⟩:=Rb2.at hd;have ex:x=.ref y:=by rw[ey] at hx;exact(Option.some.inj hx).symm
  subst ex;obtain⟨rd,bp⟩:=hK i _ hd;have lp:Mq.Low p:=rd.2.2.2.2.1;have bp:Mq.Bd (kb i) p:=bp;have ptm:dF (m:Int) u v:=⟨rd.1,rd.2.1,rd.2.2.1,rd.2.2.2.1⟩
  have ptW:dF (W:Int) u v:=⟨rd.1,by have:=rd.2.1;show u < (W:Int);have h2:u < (m:Int):=this;lia,rd.2.2.1,by have h2:v < (m:Int):=rd.2.2.2.1;show v < (W:Int);lia⟩
  have rw6:=rw0.same s6;have fz6:Fq Z.K H6 z p:=s6.fq fz0;obtain⟨dr,hy⟩:=id rw6;have et:ds.take (i+1)=ds.take i++[(k0,u,v,p)]:=by rw[take_add_one,hd];rfl
  have hh:=Qt (ds:=ds) (i+1);rw[et,mC] at hh;have hh:cX (ds.take i)+dB k0<=cX ds:=hh;have eN:jR kb (i+1)+1=(jR kb i+1)+(4*kb i+20):=by show jR kb i+(4*kb i+20)+1=_;lia
  have leN:jR kb i+(4*kb i+20)<=jR kb ds.length:=zH kb (i:=i+1) hi;have eM:∀x y,eqM m (ds.take (i+1)) x y=eqM m (ds.take i) x y+cM (k0,u,v,p) (m+cX (ds.take i)) x y:=λx y=>by rw[et,Dt]
  have eRr:∀x,eqR m (ds.take (i+1)) x=eqR m (ds.take i) x+cR (k0,u,v,p) (m+cX (ds.take i)) x:=λx=>by rw[et,Ec]
  have eH:cX (ds.take (i+1))=cX (ds.take i)+dB k0:=by rw[et,mC]
  rw[eN,eH];have lst:=mx.lsts
  cases k0 with
  |pc=>
   have p0:0 < p.1:=rd.2.2.2.2.2.1 rfl;refine⟨_,rfl,Kd.pc,y,dr,_,rfl,hy,(fM _ _ _ ∅ ∅ ∅),_,rfl,rfl,_,rfl,ifT (by show decide (V.str Kd.pc.wd=V.str Kd.pc.wd)=true;rw[dY];rfl) ?_⟩;refine⟨_,rfl,_,rfl,D,y,z,as,M,(.pc,u,v,p),W,jR kb i+1,kb i,rfl,mx,mb,rw6,fz6,ptW,lp,p0,bp,(),λH7 sx7 mx7=>?_⟩;obtain⟨mb7,v7⟩:=qo5 (d:=(.pc,u,v,p)) (h:=m+cX (ds.take i)) mb ptm hmW rfl lp p0 bp;have eR7:=sx7 _ _ eR nRa;refine⟨SX.same s6 sx7 fr,_,ys,rs,_,rfl,mx7,mb7.mono (),eR7,SX.fqs lst sx7 FR,lb.mono (),λx y=>by rw[v7,vM,eM],λx=>?_⟩;rw[vR,eRr];show _=_+(0:Rat)
   rw[Rat.add_zero]
  |pu=>
   refine⟨_,rfl,Kd.pu,y,dr,_,rfl,hy,(fM _ _ _ ∅ ∅ ∅),_,rfl,rfl,_,rfl,ifF (by show decide (V.str Kd.pu.wd=V.str Kd.pc.wd)=false;rw[dY];rfl) ?_⟩;refine⟨_,rfl,Kd.pu,y,dr,_,rfl,hy,(fM _ _ _ ∅ ∅ ∅),_,rfl,rfl,_,rfl,ifT (by show decide (V.str Kd.pu.wd=V.str Kd.pu.wd)=true;rw[dY];rfl) ?_⟩;refine⟨_,rfl,_,rfl,R,y,z,ys,rs,(.pu,u,v,p),W,jR kb i+1,kb i,rfl,eR,FR,lb,rw6,fz6,ptW,lp,bp,(),λys' H7 sx7 eR7 F7=>?_⟩;obtain⟨lb7,v7⟩:=Yd (d:=(.pu,u,v,p)) (h:=m+cX (ds.take i)) lb ptm hmW rfl lp bp;have mx7:Mx Z.K H7 D as M:=⟨sx7 _ _ mx.d (by simp;exact Ne.symm nRD),mx.n,mx.nd,mx.la,λi' b ps h1 h2=>by
    obtain⟨ws,h,f⟩:=mx.r i' b ps h1 h2;refine⟨ws,sx7 _ _ h (by simp;exact λz=>nRa (by rw[<- z];exact mem_of_getElem? h1)),SX.fqs (as:=[R]) (λc hc=>?_) sx7 f⟩;have:c=R:=by simpa using hc
    exact⟨ys,by rw[this];exact eR⟩⟩
   refine⟨SX.same s6 sx7 (λc hc=>by have:c=R:=(by simpa using hc);rw[this];exact nRH),M,ys',_,_,rfl,mx7,mb.mono (),eR7,F7,lb7.mono (),λx y=>?_,λx=>by rw[v7,vR,eRr]⟩;rw[vM,eM];show _=_+(0:Rat)
   rw[Rat.add_zero]
  |ho=>
   have hc1:dB Kd.ho=1:=rfl;rw[hc1] at hh;have hcW:m+cX (ds.take i) < W:=by lia
   refine⟨_,rfl,Kd.ho,y,dr,_,rfl,hy,(fM _ _ _ ∅ ∅ ∅),_,rfl,rfl,_,rfl,ifF (by show decide (V.str Kd.ho.wd=V.str Kd.pc.wd)=false;rw[dY];rfl) ?_⟩;refine⟨_,rfl,Kd.ho,y,dr,_,rfl,hy,(fM _ _ _ ∅ ∅ ∅),_,rfl,rfl,_,rfl,ifF (by show decide (V.str Kd.ho.wd=V.str Kd.pu.wd)=false;rw[dY];rfl) ?_⟩;refine⟨_,rfl,_,rfl,_,rfl,_,rfl,D,R,y,z,as,M,ys,rs,(.ho,u,v,p),W,jR kb i+1,m+cX (ds.take i),rfl,mx,mb,eR,FR,lb.w,nRD,nRa,rw6,fz6,ptW,hcW,(),λys' H7 sx7 mx7 eR7 F7=>?_⟩;obtain⟨mb7,v7⟩:=qn0 (d:=(.ho,u,v,p)) mb ptm hmW hcW rfl;have z0:Mq.val (rs.getD (m+cX (ds.take i)) (0,1))=0:=by
    rw[vR];exact yU (m:=m) _ _ _ (λd hd'=>by
     obtain⟨i1,hi1⟩:=getElem?_of_mem (mem_of_mem_take hd');have:=(hK i1 d hi1).1;exact⟨this.1,this.2.1,this.2.2.1,this.2.2.2.1⟩) (Nat.le_refl _) (Nat.le_refl _)
   obtain⟨lb7,w7⟩:=qn6 (m:=m) (d:=(.ho,u,v,p)) lb hcW rfl lp bp z0;refine⟨_,rfl,_,_,rfl,rfl,?_⟩;refine⟨SX.same s6 sx7 allN,_,ys',_,some (.ref y),?_,mx7,mb7.mono (),eR7,F7,lb7.mono (),λx y=>by rw[v7,vM,eM],λx=>by rw[w7,vR,eRr]⟩;have e1:((m+cX (ds.take i):Nat):Int)+1=((m+(cX (ds.take i)+dB Kd.ho):Nat):Int):=by rw[hc1];lia
   rw[<- e1];rfl
 rintro σ H6 ⟨s6,M,ys,rs,z7,rfl,mx,mb,eR,FR,lb,vM,vR⟩;rw[lxs] at mb lb vM vR;rw[take_length] at vM vR;refine⟨_,rfl,1,rfl,D,_,rfl,SqL.of mx.d,λC hC=>?_⟩;rw[Kg];have s7:=aE hC (.lst ((as.map V.ref).drop 1));have e7:upd H6 C (.lst ((as.map V.ref).drop 1)) C=some (.lst ((as.map V.ref).drop 1)):=aB;generalize upd H6 C (.lst ((as.map V.ref).drop 1))=H7 at s7 e7 ⊢;have mx7:=mx.same s7;refine⟨C,rfl,⟨_,SqL.of e7⟩,λP hP=>?_⟩;have sP:=aE hP (.lst []);refine dL (xs:=(as.map V.ref).drop 1) (λi zs H'=>aS H7 H'/\H' P=some (.lst zs)/\Fms Z.K H7 H' zs (((M.drop 1).map (List.drop 1)).take i)/\∀x∈zs,x≠.ref P) ⟨sP,aB,⟨rfl,λi x ps h=>by simp at h⟩,λx hx=>by cases hx⟩ (λi zs H' h=>h.2.1) (λi zs H' _ h=>h.1.seq (SqL.of e7)) ?_ ?_
 ·rintro i zs x H8 hx ⟨s8,e8,fm,nP⟩ C' hC';rw[getElem?_drop,getElem?_map] at hx;obtain⟨b,hb,rfl⟩:=Option.map_eq_some_iff.mp hx;have bl':=(List.getElem?_eq_some_iff.mp hb).1;have hM1:1+i < M.length:=by rw[<- mx.la];exact bl'
  obtain⟨ws,hws,fws⟩:=(mx7.same s8).r (1+i) b M[1+i] hb (getElem?_eq_getElem hM1);have lz:=fm.l;rw[length_take,length_map,length_drop] at lz;have hM60:M.length<=60:=by rw[mb.h];exact hW60
  refine⟨dU.1,dU.2,gB ?_⟩;refine⟨_,rfl,1,rfl,b,_,rfl,SqL.of hws,λc hc=>?_⟩;rw[Kg];have s9:=aE hc (.lst (ws.drop 1));have e9:upd H8 c (.lst (ws.drop 1)) c=some (.lst (ws.drop 1)):=aB;generalize upd H8 c (.lst (ws.drop 1))=H9 at s9 e9 ⊢;have e89:=s9 _ _ e8;have ncP:c≠P:=Ne.symm (bK e8 hc);refine⟨e89,bN (),hC' _ _ ⟨(s8.trans s9).change hP,aB,⟨?_,λj y ps h1 h2=>?_⟩,λy hy=>?_⟩⟩
  ·rw[List.length_append,length_take,length_map,length_drop];simp only[length_cons,length_nil];lia
  ·have ee:((M.drop 1).map (List.drop 1))[i]?=some (M[1+i].drop 1):=by rw[getElem?_map,getElem?_drop,getElem?_eq_getElem hM1];rfl
   rw[take_add_one,ee] at h2
   by_cases hj:j < zs.length
   ·rw[getElem?_append_left hj] at h1;rw[getElem?_append_left (by rw[<- fm.l];exact hj)] at h2;obtain⟨a',xs',q1,q2,q3,q4⟩:=fm.r j y ps h1 h2;have na:a'≠P:=λz=>nP y (mem_of_getElem? h1) (by rw[q1,z]);exact⟨a',xs',q1,q2,by rw[aR na];exact s9 _ _ q3,(q4.same s9).upd e89⟩
   ·rw[getElem?_append_right ()] at h1;rw[getElem?_append_right (by rw[<- fm.l];lia),<- fm.l] at h2;have j0:j - zs.length=0:=by
     have:=(List.getElem?_eq_some_iff.mp h1).1;simp at this;lia
    rw[j0] at h1 h2;have h1:V.ref c=y:=by simpa using h1
    have h2:M[1+i].drop 1=ps:=by simpa using h2
    subst h1;rw[<- h2];exact⟨c,_,rfl,s8.free hc,by rw[aR ncP];exact e9,((Fqs.drop1 (fws.same s9))).upd e89⟩
  ·rcases mem_append.mp hy with z | z
   ·exact nP y z
   ·have:y=.ref c:=by simpa using z
    rw[this];exact λz=>ncP (by injection z)
 rintro us H8 ⟨s8,e8,fm,nP⟩;rw[show ((as.map V.ref).drop 1).length=((M.drop 1).map (List.drop 1)).length by rw[length_drop,length_map,length_map,length_drop,mx.la],take_length] at fm;have s78:=s7.trans s8;have eR8:=s78 _ _ eR;refine⟨_,rfl,1,rfl,R,_,rfl,SqL.of eR8,λr hr'=>?_⟩;rw[Kg];have s9:=aE hr' (.lst (ys.drop 1));have e9:upd H8 r (.lst (ys.drop 1)) r=some (.lst (ys.drop 1)):=aB;generalize upd H8 r (.lst (ys.drop 1))=H9 at s9 e9 ⊢;refine⟨zl9 2,λt ht=>?_⟩;have sT:=aE ht (.tup [.ref P,.ref r]);have s9T:=s9.trans sT;have s0:aS H (upd H9 t (.tup [.ref P,.ref r])):=s1.trans (s12.trans (s6.trans (s78.trans s9T)));have s07:aS H H7:=s1.trans (s12.trans (s6.trans s7));have fl:∀c,H7 c=none->H c=none:=λc h=>s07.free h;refine q t P r us (ys.drop 1) ((M.drop 1).map (List.drop 1)) (rs.drop 1) _ s0 aB (fl P hP) ((s07.trans s8).free hr') (s9T _ _ e8) (sT _ _ e9) ⟨fm.l,λi x ps h1 h2=>?_⟩ (Fqs.drop1 (FR.same (s78.trans s9T))) (λx hx=>⟨nP x hx,?_⟩) ⟨?_,?_,?_,?_⟩
 ·obtain⟨a',xs',q1,q2,q3,q4⟩:=fm.r i x ps h1 h2;exact⟨a',xs',q1,fl a' q2,s9T _ _ q3,q4.same s9T⟩
 ·intro z;obtain⟨i,hi⟩:=getElem?_of_mem hx;have il:i < ((M.drop 1).map (List.drop 1)).length:=by rw[<- fm.l];exact(List.getElem?_eq_some_iff.mp hi).1
  obtain⟨a',xs',q1,q2,q3,q4⟩:=fm.r i x _ hi (getElem?_eq_getElem il);rw[q1] at z;have:a'=r:=by injection z
  rw[<- this,q3] at hr'
  cases hr'
 ·have:=Tl mb
  rwa [show W - 1=m - 1+cX ds by lia] at this
 ·have:=Ny lb
  rwa [show W - 1=m - 1+cX ds by lia] at this
 ·intro i j;rw[Ll];exact vM _ _
 ·intro i;rw[vY];exact vR _
theorem Y44:DZ 2 Z.f44 Z.d44 ["some"] (Shp.Jy Z.K) "in_wholes":=by
 refine⟨?_,F44.b1 _ (by intros;rfl),F44.kp,m44⟩
 refine F44.ok9 Ug λ_ _ _ s H _ Q E hr h=>?_;obtain⟨a,xs,ps,n,rfl,hS,hF,hP,hB,h100,hn,q⟩:=h;refine⟨_,(aD (aQ (i:=1) Ug.nd rfl (Or.inr rfl) aG)
  (aD (dQ PassesOwn.never rfl (cE (pv 0)) (aZ (i:=2) Ug.nd rfl (Or.inl rfl))
   (aF (aQ (i:=1) Ug.nd rfl (Or.inr rfl) (bB cN (bB jC (pv 1) (d9 Y4 hr rfl (aA (pv 1) (aA (aT bL (pv 2) aG (λ_ _=>rfl)) aC)))) (aT bL (pv 2) aG (λ_ _=>rfl))))))
  (aF (aV (cQ (aA (dZ (nl:=1) (fr:=[1]) (Nc:=["one","bottom"]) (cl:=[("bottom",s.heap.objs.size+1)]) rfl ⟨rfl,rfl,∅,∅,λx c h=>h,dR rfl,rfl,λi n h=>match i,h with | 0,h=>by cases h;exact⟨1,rfl,rfl,rfl,rfl,.inl rfl⟩ | k+1,h=>by rw[show 1+(k+1)=k+2 by lia] at h;cases h⟩
    (cE (pv 0)) (λ_ _ _ _ _=>(aZ (i:=0) yO rfl (Or.inl rfl))) (λ_ _ _ _ _=>eX)
    (λ_ _ _ _ _=>(bB cN (aT (gP (K:=Z.K) rfl) (pv 0) aG (λ_ _=>rfl)) (bB jC (pv 1) (aT (gP (K:=Z.K) rfl) (pv 0) aG (λ_ _=>rfl)))))) (aA (pv 1) aC))))))),?_⟩
 have lx:=hF.length;refine⟨_,rfl,a,rfl,⟨_,hS⟩,?_⟩;refine dX (xs:=xs) (λi σ H'=>H'=H/\i<=ps.length/\∃z,σ=[some (.ref a),some (.int (dI (ps.take i))),z]) ⟨rfl,Nat.zero_le _,none,rfl⟩ (λi σ H' _ h=>by rw[h.1];exact hS) ?_ ?_
 ·rintro i x σ H' hx ⟨rfl,hi,z,rfl⟩;obtain⟨u,p,rfl,ep,fu⟩:=hF.get hx;have hi':i < ps.length:=(List.getElem?_eq_some_iff.mp ep).1;obtain⟨f1,f2,_⟩:=pB hP hB i hi;have mono:=Nat.mul_le_mul_left n hi;have hp:=hP p (mem_of_getElem? ep);have pb:=(hB p (mem_of_getElem? ep)).b;have g0:gc (dI (ps.take i)) p.2≠0:=by have:=Mq.vW (a:=dI (ps.take i)) (show p.2≠0 by lia);lia
  have gb:Mq.B n (gc (dI (ps.take i)) p.2):=by
   have:=Gi (t:=dI (ps.take i)) (show p.2≠0 by lia);rw[Ur ()] at this;exact pb.le this
  have qb:Mq.B (1+n*i) (Int.fdiv (dI (ps.take i)) (gc (dI (ps.take i)) p.2)):=by
   have d1:gc (dI (ps.take i)) p.2 ∣ dI (ps.take i):=by unfold gc;exact Int.gcd_dvd_left ..
   obtain⟨k,hk⟩:=d1;have:=Mq.iY g0 hk;rw[fK g0 hk];exact f2.le this
  refine⟨_,rfl,_,rfl,cT rfl fu ⟨_,_,rfl,gA g0 gb () (cT rfl fu (cO qb pb () () ?_))⟩⟩;refine⟨rfl,hi',some (.ref u),?_⟩;rw[Mq.oH ep];rfl
 rintro σ H' ⟨rfl,_,z,rfl⟩;rw[lx,take_length];obtain⟨f1,f2,f3⟩:=pB hP hB ps.length (Nat.le_refl _);rw[take_length] at f1 f2 f3;refine⟨_,rfl,a,rfl,⟨_,hS⟩,λD hD=>?_⟩;have sD:=aE hD (.lst []);refine dL (xs:=xs) (λi zs H1=>aS H' H1/\H1 D=some (.lst zs)/\zs=((ps.take i).map (yI (dI ps))).map V.int) ⟨sD,aB,rfl⟩ (λi zs H1 h=>h.2.1) (λi zs H1 _ h=>h.1.seq hS) ?_ ?_
 ·rintro i zs x H1 hx ⟨s1,e1,rfl⟩ C hC;obtain⟨u,p,rfl,ep,fu⟩:=hF.get hx;have hi':i < ps.length:=(List.getElem?_eq_some_iff.mp ep).1;have mem:=mem_of_getElem? ep;have hp:=hP p mem;obtain⟨k,hk⟩:=f3 p mem;have fu1:=s1.fq fu;have kb:Mq.B (1+n*ps.length) (Int.fdiv (dI ps) p.2):=by
   have e:=fK (show p.2≠0 by lia) (show dI ps=p.2*k by rw[hk,Int.mul_comm]);rw[e];refine f2.le ?_;rw[hk,Int.natAbs_mul];exact Nat.le_mul_of_pos_right _ ()
  refine⟨dU.1,dU.2,gB ?_⟩;refine fA rfl fu1 ⟨_,rfl,cT rfl fu1 (gA (show p.2≠0 by lia) (hB p mem).b () (cO (hB p mem).a kb () () ?_))⟩;refine⟨e1,bN (by rw[length_map,length_map,length_take];lia),hC _ _ ⟨s1.change hD,aB,?_⟩⟩;rw[take_add_one,ep,map_append,map_append];rfl
 rintro zs H1 ⟨s1,e1,rfl⟩;rw[lx,take_length] at e1;refine⟨_,rfl,zl9 2,λt ht=>?_⟩;have s2:=aE ht (.tup [.ref D,.int (dI ps)]);exact q t D _ (s1.trans s2) hD (SqT.of aB) (s2 _ _ e1)
theorem Y45:DZ 1 Z.f45 Z.d45 ["rows","rank","column"] (Shp.Qo Z.K) "pivot_place":=by
 refine⟨?_,F45.b3 _ _ _ (by intros;rfl),F45.kp,m45⟩
 refine F45.ok9 Yk λ_ _ _ s H _ Q E hr h=>?_;obtain⟨l,D,zs,R,r,c,m,w',rfl,hS,hI,hm,hw,hc,hr',h100,q1,q2⟩:=h;refine⟨_,(aD (dQ PassesOwn.never rfl (Me rfl n_range (aA (pv 1) (aA (bO bV rfl n_len PySem.boot_len (aA (pv 0) aC)) aC))) (aZ (i:=3) Yk.nd rfl (Or.inl rfl))
   (aF (bX (aY iX (aT bM (aT bM (pv 0) (pv 3) (λ_ _=>rfl)) (pv 2) (λ_ _=>rfl)) aG (bA _)) (aF (aV (pv 3))) bC)))
  (aF (aV xX))),?_⟩
 have lz:=hI.length;obtain⟨k,hk⟩:∃k,m=r+k:=⟨m - r,()⟩
 refine⟨_,rfl,_,rfl,l,zs,rfl,.inl hS,(r:Int),(zs.length:Int),rfl,⟨(),(),(),()⟩,?_⟩;rw[show ((zs.length:Int) - (r:Int)).toNat=k by lia];refine gU (lo:=(r:Int)) (n:=k) (λi σ H'=>H'=H/\(∀j,r<=j->j < r+i->Mq.ent R j c=0)/\∃z,σ=[some (.ref l),some (.int (r:Int)),some (.int (c:Int)),z]) ⟨rfl,λj h1 h2=>absurd h1 (),none,rfl⟩ ?_ ?_
 ·rintro i σ H' hi ⟨rfl,hz,z,rfl⟩;obtain⟨u,eu,nu,hu⟩:=hI.at (i:=r+i) ();have eu':atI zs ((r:Int)+(i:Int))=some (.ref u):=by have:=bQ eu;rwa [Int.natCast_add] at this
  have ec:=bQ (kW (l:=R.getD (r+i) []) (i:=c) (by rw[hw _ ()];exact hc));refine⟨_,rfl,_,rfl,l,zs,_,_,rfl,rfl,hS,eu',_,rfl,u,_,_,_,rfl,rfl,SqL.of hu,ec,rfl,_,rfl,jX (λe=>?_) (λe=>?_)⟩
  ·refine⟨_,rfl,?_⟩;have ne:Mq.ent R (r+i) c≠0:=λz=>by
    have z':(R.getD (r+i) []).getD c 0=0:=z;rw[z'] at e;simp at e
   have:=q1 (r+i) () () ne
   rwa [Int.natCast_add] at this
  ·refine⟨rfl,λj h1 h2=>?_,_,rfl⟩
   by_cases hj:j=r+i
   ·rw[hj];simp at e;exact e
   ·exact hz j h1 ()
 ·rintro σ H' ⟨rfl,hz,z,rfl⟩;exact q2 λi h1 h2=>hz i h1 ()
theorem Y46:DZ 1 Z.f46 Z.d46 ["row","upper","column","divisor"] (Shp.tJ Z.K) "cleared":=by
 refine⟨?_,F46.b4 _ _ _ _ (by intros;rfl),F46.kp,m46⟩
 refine F46.ok9 Rc λ_ _ _ s H _ Q E hr h=>?_;obtain⟨u,v,row,upper,c,n,dv,rfl,hu,hv,hl,h100,hc,hd,b1,b2,bd,hn,q⟩:=h;refine⟨_,(aD (aQ (i:=4) Rc.nd rfl (Or.inr rfl) (aT bM (pv 1) (pv 2) (λ_ _=>rfl)))
  (aD (aQ (i:=5) Rc.nd rfl (Or.inr rfl) (aT bM (pv 0) (pv 2) (λ_ _=>rfl)))
  (aF (aV (dZ (nl:=2) (fr:=[4,5,3]) (Nc:=["here","above","own","other","divisor"]) (cl:=[("own",s.heap.objs.size+2),("other",s.heap.objs.size+3),("divisor",s.heap.objs.size+1)]) (g:=(Ef Z.K 2 (jA (iF 0) (jA (iF 1) Eh)))) rfl ⟨rfl,rfl,∅,∅,(fC rfl (fC rfl (fC rfl (qX)))),dR rfl,rfl,λi n h=>match i,h with | 0,h=>by cases h;exact⟨4,rfl,rfl,rfl,rfl,.inl rfl⟩ | 1,h=>by cases h;exact⟨5,rfl,rfl,rfl,rfl,.inl rfl⟩ | 2,h=>by cases h;exact⟨3,rfl,rfl,rfl,rfl,.inl rfl⟩ | k+3,h=>by rw[show 2+(k+3)=k+5 by lia] at h;cases h⟩
    (Tt rfl n_zip rfl (aA (pv 0) (aA (pv 1) aC))) (λ_ _ _ _ _=>(iJ rfl (bZ (aZ (i:=0) eV rfl (Or.inl rfl)) (bZ (aZ (i:=1) eV rfl (Or.inl rfl)) gF)))) (λ_ _ _ _ _=>eX)
    (λ_ _ _ _ _=>(bB jC (bB lU (bB cN (pv 2) (pv 0)) (bB cN (pv 3) (pv 1))) (pv 4)))))))),?_⟩
 have e1:=bQ (kW (l:=upper) (i:=c) ());have e2:=bQ (kW (l:=row) (i:=c) ());refine⟨_,rfl,_,rfl,v,_,_,_,rfl,rfl,hv,e1,?_⟩;refine⟨_,rfl,_,rfl,u,_,_,_,rfl,rfl,hu,e2,?_⟩;refine⟨_,rfl,_,rfl,u,v,rfl,⟨_,hu⟩,⟨_,hv⟩,λD hD=>?_⟩;have sD:=aE hD (.lst []);refine Dv (xs:=row.map V.int) (ys:=upper.map V.int) (λi zs H'=>aS H H'/\H' D=some (.lst zs)/\zs=((gN upper row c dv).take i).map V.int) ⟨sD,aB,rfl⟩ (λi zs H' h=>h.2.1) (λi zs H' _ h=>⟨h.1.seq hu,h.1.seq hv⟩) ?_ ?_
 ·rintro i zs x y H1 T1 ex ey ⟨s1,e1',rfl⟩ hT C hC;have hi:i < row.length:=by have:=(List.getElem?_eq_some_iff.mp ex).1;simpa using this
  have ex':x=.int (row.getD i 0):=by rw[kW hi] at ex;cases ex;rfl
  have ey':y=.int (upper.getD i 0):=by rw[kW ()] at ey;cases ey;rfl
  subst ex' ey';have sT:=aE hT (.tup [.int (row.getD i 0),.int (upper.getD i 0)]);refine⟨T1,_,rfl,SqT.of aB,rfl,_,_,rfl,_,_,rfl,rfl,jL.1,jL.2,gB ?_⟩;have mm:Mq.B (n+n+1) (upper.getD c 0*row.getD i 0 - row.getD c 0*upper.getD i 0):=Mq.B.sub ((b2 c).mul (b1 i)) ((b1 c).mul (b2 i));refine⟨_,rfl,_,rfl,cO (b2 c) (b1 i) () () ⟨_,rfl,_,rfl,cO (b1 c) (b2 i) () () ⟨_,_,rfl,rfl,_,rfl,gA hd bd () ?_⟩⟩⟩;have ll:(gN upper row c dv).length=row.length:=by unfold gN;rw[length_zipWith];lia
  have eA:=sT _ _ e1';refine⟨eA,bN (by rw[length_map,length_take];lia),hC _ _ ⟨(s1.trans sT).change hD,aB,?_⟩⟩;have eg:(gN upper row c dv)[i]?=some (Int.fdiv (upper.getD c 0*row.getD i 0 - row.getD c 0*upper.getD i 0) dv):=by
   unfold gN;rw[getElem?_zipWith,mD hi,mD (show i < upper.length by lia)]
  rw[take_add_one,eg,map_append];rfl
 rintro zs H1 ⟨s1,e1',rfl⟩;have ll:(gN upper row c dv).length=row.length:=by unfold gN;rw[length_zipWith];lia
 rw[length_map,length_map,take_of_length_le (by rw[ll];lia)] at e1';exact q D H1 s1 hD e1'
theorem Y47:DZ 2 Z.f47 Z.d47 ["rows","rank","column","divisor"] (Shp.rN Z.K) "cleared_rows":=by
 refine⟨?_,F47.b4 _ _ _ _ (by intros;rfl),F47.kp,m47⟩
 refine F47.ok9 zU λ_ _ _ s H _ Q E hr h=>?_;obtain⟨l,D0,zs,R,r,c,m,w',n,dv,rfl,hS,hI,hm,hw,hc,hw100,hr',h100,hd,hB,bd,hn,q⟩:=h;refine⟨_,(aD (aQ (i:=4) zU.nd rfl (Or.inr rfl) (aT bM (pv 0) (pv 1) (λ_ _=>rfl)))
  (aF (aV (dZ (nl:=2) (fr:=[4,1,3,2]) (Nc:=["place","row","upper","rank","divisor","column"]) (cl:=[("upper",s.heap.objs.size+4),("rank",s.heap.objs.size+1),("divisor",s.heap.objs.size+3),("column",s.heap.objs.size+2)]) (g:=(Ef Z.K 2 (jA (iF 0) (jA (iF 1) Eh)))) rfl ⟨rfl,rfl,∅,∅,(fC rfl (fC rfl (fC rfl (fC rfl (qX))))),dR rfl,rfl,λi n h=>match i,h with | 0,h=>by cases h;exact⟨4,rfl,rfl,rfl,rfl,.inl rfl⟩ | 1,h=>by cases h;exact⟨1,rfl,rfl,rfl,rfl,.inl rfl⟩ | 2,h=>by cases h;exact⟨3,rfl,rfl,rfl,rfl,.inl rfl⟩ | 3,h=>by cases h;exact⟨2,rfl,rfl,rfl,rfl,.inl rfl⟩ | k+4,h=>by rw[show 2+(k+4)=k+6 by lia] at h;cases h⟩
    (rB rfl n_enumerate rfl (aA (pv 0) aC)) (λ_ _ _ _ _=>(iJ rfl (bZ (aZ (i:=0) dH rfl (Or.inl rfl)) (bZ (aZ (i:=1) dH rfl (Or.inl rfl)) gF)))) (λ_ _ _ _ _=>eX)
    (λ_ _ _ _ _=>(pW (aY dP (pv 0) (pv 3) (bA _)) (pv 1) (d9 Y46 hr rfl (aA (pv 1) (aA (pv 2) (aA (pv 5) (aA (pv 4) aC))))))))))),?_⟩
 have lz:=hI.length;obtain⟨v,ev,nv,hv⟩:=hI.at (i:=r) ();refine⟨_,rfl,_,rfl,l,zs,_,_,rfl,rfl,hS,bQ ev,?_⟩;refine⟨_,rfl,l,rfl,⟨_,hS⟩,λD hD=>?_⟩;have sD:=aE hD (.lst []);have ll:=Mq.Ki R r c dv;refine sM (xs:=zs) (λi ys H'=>aS H H'/\H' D=some (.lst ys)/\Imx D H' ys ((cJ R r c dv).take i)) ⟨sD,aB,.nil⟩ (λi ys H' h=>h.2.1) (λi ys H' _ h=>h.1.seq hS) ?_ ?_
 ·rintro i ys x H1 T1 ex ⟨s1,e1,I1⟩ hT C hC;have hi:i < m:=by have:=(List.getElem?_eq_some_iff.mp ex).1;lia
  obtain⟨u,eu,nu,hu⟩:=hI.at (i:=i) ();have exu:x=.ref u:=by rw[eu] at ex;cases ex;rfl
  subst exu;have lI:=I1.length;rw[length_take] at lI;have cg:=qT (R:=R) (i:=i) () r c dv;have cs:(cJ R r c dv).take (i+1)=(cJ R r c dv).take i++[(cJ R r c dv).getD i []]:=by
   rw[take_add_one,getD_eq_getElem?_getD,getElem?_eq_getElem (show i < (cJ R r c dv).length by lia)];rfl
  have sT:=aE hT (.tup [.int (i:Int),.ref u]);have uD:∀{x:Addr} {o:HO},H x=some o->x≠D:=λh z=>by rw[z,hD] at h;cases h
  refine⟨T1,_,rfl,SqT.of aB,rfl,_,_,rfl,_,_,rfl,rfl,jL.1,jL.2,gB ?_⟩;generalize upd H1 T1 (.tup [.int (i:Int),.ref u])=H2 at sT ⊢;have sA:=s1.trans sT;have eA:=sT _ _ e1;refine⟨_,rfl,_,rfl,rfl,_,rfl,jX (λe=>?_) (λe=>?_)⟩
  ·have ei:i=r:=by simp at e;lia
   refine⟨_,rfl,eA,bN (),hC _ _ ⟨sA.change hD,aB,?_⟩⟩;rw[cs,cg,if_pos ei];exact((I1.same sT).app (.cons (uD hu) (sA _ _ hu) .nil)).upd
  ·have ei:i≠r:=by simp at e;lia
   refine⟨_,rfl,_,rfl,_,rfl,_,rfl,u,v,R.getD i [],R.getD r [],c,n,dv,rfl,SqL.of (sA _ _ hu),SqL.of (sA _ _ hv),by rw[hw i hi,hw r hr'],by rw[hw i hi];exact hw100,by rw[hw i hi];exact hc,hd,λj=>hB i j,λj=>hB r j,bd,hn,λl3 H3 s3 n3 e3=>?_⟩;have eB:=s3 _ _ eA;have n3':l3≠D:=λz=>by rw[z,eA] at n3;cases n3
   refine⟨eB,bN (),hC _ _ ⟨(sA.trans s3).change hD,aB,?_⟩⟩;rw[cs,cg,if_neg ei];exact((I1.same (sT.trans s3)).app (.cons n3' e3 .nil)).upd
 rintro ys H1 ⟨s1,e1,I1⟩;rw[lz,take_of_length_le ()] at I1;exact q D ys H1 s1 hD e1 I1
theorem Y48:DZ 3 Z.f48 Z.d48 ["rows","width"] (Shp.uC Z.K) "eliminated":=by
 refine⟨?_,F48.b2 _ _ (by intros;rfl),F48.kp,m48⟩
 refine F48.ok9 iH λ_ _ _ s H _ Q E hr h=>?_;obtain⟨l,D0,zs,R,m,w',n,Pr,rfl,hS,hI,hm,hw,hmw,hw100,hB,hn1,hn,hm31,hPr,hSt,q⟩:=h;have r1:=hr.mono (show 1<=2 by lia);refine⟨_,(aD (aQ (i:=0) iH.nd rfl (Or.inl rfl) (kB lK rfl n_list PyProof.Rows.boot_list (aA (pv 0) aC)))
  (aD (aQ (i:=2) iH.nd rfl (Or.inl rfl) aG)
  (aD (aQ (i:=3) iH.nd rfl (Or.inl rfl) aG)
  (aD (aQ (i:=4) iH.nd rfl (Or.inl rfl) aG)
  (aD (dQ PassesOwn.never rfl (eZ rfl n_range (aA (pv 1) aC)) (aZ (i:=5) iH.nd rfl (Or.inl rfl))
   (aD (aQ (i:=6) iH.nd rfl (Or.inl rfl) (d9 Y45 r1 rfl (aA (pv 0) (aA (pv 2) (aA (pv 5) aC)))))
  (aD (bX (nC (Bj (pv 6))) (aF Dh) bC)
  (aD (bX (aY iX (pv 6) (pv 2) (bA _)) (aD (aQ (i:=7) iH.nd rfl (Or.inl rfl) (aT bM (pv 0) (pv 6) (λ_ _=>rfl)))
  (aD (pJ (aT bM (pv 0) (pv 2) (λ_ _=>rfl)) (tK (pv 0) (pv 6) kK))
  (aD (pJ (pv 7) (tK (pv 0) (pv 2) kK))
  (aF (aQ (i:=4) iH.nd rfl (Or.inl rfl) (Ag sQ (pv 4))))))) bC)
  (aD (aQ (i:=0) iH.nd rfl (Or.inl rfl) (d9 Y47 hr rfl (aA (pv 0) (aA (pv 2) (aA (pv 5) (aA (pv 3) aC))))))
  (aD (aQ (i:=3) iH.nd rfl (Or.inl rfl) (aT bM (aT bM (pv 0) (pv 2) (λ_ _=>rfl)) (pv 5) (λ_ _=>rfl)))
  (aF (Pl (i:=2) iH.nd rfl (Or.inl rfl) aG Qr))))))))
  (aF (aV (Ij (mP aX (pv 0) (mP aX (pv 2) (mP aX (pv 3) (mP aX (pv 4) Iu)))) rfl rfl ⋯ ∅)))))))),?_⟩
 refine⟨_,rfl,l,zs,rfl,.inl hS,λl0 hl0=>?_⟩;have s0:=aE hl0 (.lst zs);have e0:upd H l0 (.lst zs) l0=some (.lst zs):=aB;generalize upd H l0 (.lst zs)=H0 at s0 e0 ⊢;refine⟨_,rfl,(m:Int),rfl,(),(),?_⟩;rw[Int.toNat_natCast];have b1:Mq.B n 1:=by
  show 1 < 2 ^ n;exact Nat.one_lt_two_pow ()
 refine gU (lo:=0) (n:=m) (λi σ H'=>aS H H'/\∃(lR:Addr) (zs':List V) (R':List (List Int)) (rank:Nat) (pivot sign:Int) (z5 z6 z7:Option V),σ=[some (.ref lR),some (.int (m:Int)),some (.int (rank:Int)),some (.int pivot),some (.int sign),z5,z6,z7]/\H lR=none/\H' lR=some (.lst zs')/\Imx lR H' zs' R'/\SI m w' (Mq.at2 R) R' rank i pivot sign/\Mq.SB n m R' rank i pivot/\Pr R') ⟨s0,l0,zs,R,0,1,1,none,none,none,rfl,hl0,e0,(hI.other hl0).same s0,.start hm hw,.start hB,hPr⟩ ?_ ?_
 ·rintro i σ H1 hi ⟨s1,lR,zs',R',rank,pivot,sign,z5,z6,z7,rfl,nR,eR,I1,S1,sb,p1⟩;rw[Int.zero_add];obtain⟨bR,bP⟩:=sb.bd5 S1 hm31;obtain⟨A1,c1,B1,_⟩:=S1.bar;have rm:=B1.rm;have rc:=B1.rc;have dn:pivot≠0:=λz=>B1.dne (by rw[z];simp);clear B1;refine⟨_,rfl,_,rfl,_,rfl,lR,lR,zs',R',rank,i,m,w',rfl,SqL.of eR,I1,S1.len,S1.wid,(),rm,(),λp h1 h2 ne=>?_,λhz=>?_⟩
  ·refine⟨_,rfl,_,rfl,gQ ?_⟩;have hrm:rank < m:=by lia
   refine(λ(hrest:∀(sg:Int) (z:Option V) (Hx:Hp) (zs2:List V) (R2:List (List Int)),aS H Hx->Hx lR=some (.lst zs2)->Imx lR Hx zs2 R2->SI m w' (Mq.at2 R) R2 rank i pivot sg->Mq.ent R2 rank i≠0->Mq.SB n m R2 rank i pivot->Pr R2->W.KIN.Hid ((?T:Int->Option V->Hp->Prop) sg z Hx))=>?main) ?rest
   case main=>
    refine⟨_,rfl,_,rfl,rfl,_,rfl,jX (λe=>?c1) (λe=>?c2)⟩
    case c1=>
     have npr:p≠rank:=by simp at e;lia
     obtain⟨up,eup,nup,hup⟩:=I1.at (i:=p) (by rw[S1.len];lia);obtain⟨ur,eur,nur,hur⟩:=I1.at (i:=rank) (by rw[S1.len];lia);have lz:zs'.length=m:=I1.length.trans S1.len;refine⟨_,rfl,_,rfl,lR,zs',_,_,rfl,rfl,SqL.of eR,bQ eup,?_⟩;refine⟨_,rfl,_,rfl,lR,zs',_,_,rfl,rfl,SqL.of eR,bQ eur,_,rfl,_,rfl,lR,zs',_,p,rfl,rfl,eR,oK (),?_⟩;have e2:upd H1 lR (.lst (zs'.set p (.ref ur))) lR=some (.lst (zs'.set p (.ref ur))):=aB;have I2:=(Imx.set nur hur p I1).upd (o:=.lst (zs'.set p (.ref ur)));have s2:aS H (upd H1 lR (.lst (zs'.set p (.ref ur)))):=s1.change nR;have hup2:upd H1 lR (.lst (zs'.set p (.ref ur))) up=some (.lst ((R'.getD p []).map V.int)):=by rw[aR nup];exact hup
     generalize upd H1 lR (.lst (zs'.set p (.ref ur)))=H2 at e2 I2 s2 hup2 ⊢;refine⟨_,rfl,_,rfl,_,rfl,lR,_,_,rank,rfl,rfl,e2,oK (by rw[length_set];lia),?_⟩;have e3:upd H2 lR (.lst ((zs'.set p (.ref ur)).set rank (.ref up))) lR=some (.lst ((zs'.set p (.ref ur)).set rank (.ref up))):=aB;have I3:=(Imx.set nup hup2 rank I2).upd (o:=.lst ((zs'.set p (.ref ur)).set rank (.ref up)));have s3:aS H (upd H2 lR (.lst ((zs'.set p (.ref ur)).set rank (.ref up)))):=s2.change nR;generalize upd H2 lR (.lst ((zs'.set p (.ref ur)).set rank (.ref up)))=H3 at e3 I3 s3 ⊢;refine⟨_,rfl,_,rfl,?_⟩;show kO _ _ _ [some (.ref lR),some (.int (m:Int)),some (.int (rank:Int)),some (.int pivot),some (.int (-sign)),some (.int (i:Int)),some (.int (p:Int)),some (.ref up)] H3;have S3:=S1.swap (p:=p) () h2;have bR3:=sb.swap S1 (p:=p) () h2;have ne3:Mq.ent (fU R' p rank) rank i≠0:=by
      unfold Mq.ent;rw[Ap (by rw[S1.len];lia) (by rw[S1.len];lia)];have:Mq.sw p rank rank=p:=by unfold Mq.sw;rw[if_pos rfl]
      rw[this];exact ne
     have I3':Imx lR H3 ((zs'.set p (.ref ur)).set rank (.ref up)) (fU R' p rank):=I3;clear I3 hup2;have p3:=hSt.sw _ _ _ _ _ _ S1 (show rank < p by lia) h2 p1;generalize -sign=sg at S3 ⊢;generalize some (V.ref up)=zz at ⊢;exact(hrest sg zz H3 _ _ s3 e3 I3' S3 ne3 bR3 p3).out
    case c2=>
     have epr:p=rank:=by simp at e;lia
     show kO _ _ _ [some (.ref lR),some (.int (m:Int)),some (.int (rank:Int)),some (.int pivot),some (.int sign),some (.int (i:Int)),some (.int (p:Int)),z7] H1;exact(hrest sign z7 H1 _ _ s1 eR I1 S1 (by rw[<- epr];exact ne) sb p1).out
   case rest=>
   intro sg z Hx zs2 R2 sx ex Ix Sx nx bx px;refine⟨?_⟩;have bxx:=bx.bd5 Sx hm31;refine⟨_,rfl,_,rfl,_,rfl,_,rfl,lR,lR,zs2,R2,rank,i,m,w',bw n m,pivot,rfl,SqL.of ex,Ix,Sx.len,Sx.wid,(),hw100,hrm,(),dn,bxx.1,bxx.2,hn,λl3 zs3 H3 s3 n3 e3 I3=>?_⟩;have S3:=Sx.clear hrm () nx;have b3:=bx.clear Sx hrm () nx;obtain⟨u,eu,nu,hu⟩:=I3.at (i:=rank) (by rw[S3.len];lia);have ec:=bQ (kW (l:=(cJ R2 rank i pivot).getD rank []) (i:=i) (by rw[S3.wid _ hrm];lia));refine⟨_,rfl,_,rfl,l3,zs3,_,_,rfl,rfl,SqL.of e3,bQ eu,_,rfl,u,_,_,_,rfl,rfl,SqL.of hu,ec,?_⟩;refine⟨_,rfl,_,_,rfl,rfl,?_⟩;have ev:((cJ R2 rank i pivot).getD rank []).getD i 0=Mq.ent R2 rank i:=by rw[qT (by rw[Sx.len];lia),if_pos rfl];rfl
   refine⟨sx.trans s3,l3,zs3,_,rank+1,Mq.ent R2 rank i,sg,some (.int (i:Int)),some (.int (p:Int)),z,?_,sx.free n3,e3,I3,S3,b3,hSt.cl _ _ _ _ _ Sx hrm () nx px⟩;rw[ev];rfl
  ·refine⟨_,rfl,_,rfl,gB ?_⟩;exact⟨s1,lR,zs',R',rank,pivot,sign,_,_,_,rfl,nR,eR,I1,S1.skip hz,sb.skip hz,p1⟩
 ·rintro σ H1 ⟨s1,lR,zs',R',rank,pivot,sign,z5,z6,z7,rfl,nR,eR,I1,S1,sb,p1⟩;obtain⟨bR,bP⟩:=sb.bd5 S1 hm31;obtain⟨A1,c1,B1,_⟩:=S1.bar;have rm:=B1.rm;intro d hd;have nd:lR≠d:=λz=>by rw[z,hd] at eR;cases eR
  refine⟨_,rfl,_,rfl,_,rfl,_,rfl,aB,[(.inr "rows",.ref lR),(.inr "rank",.int (rank:Int)),(.inr "pivot",.int pivot),(.inr "sign",.int sign)],rfl,by show 4<=15;decide,?_⟩;have sd:aS H1 (upd (upd H1 d (.dK [])) d (Rq lR rank pivot sign)):=(aE hd _).change hd;exact q d lR zs' R' rank pivot sign _ (s1.trans sd) (s1.free hd) nR aB (sd _ _ eR) (I1.same sd) S1 bR bP p1
theorem Y49:DZ 5 Z.f49 Z.d49 ["matrix","right"] (Shp.sX Z.K) "solved":=by
 refine⟨?_,F49.b2 _ _ (by intros;rfl),F49.kp,m49⟩
 refine F49.ok9 rD λ_ _ _ s H _ Q E hr h=>?_;obtain⟨g,bR,D0,H00,us,bs,X,qs,k,n,rfl,hU,hX,hB,hQ,ql,qL,qB,xP,xB,x4,hk,hBd,hn1,hnb,hz0,q⟩:=h;have hu:=lW hr;have r3:=hr.mono (show 3<=4 by lia);have r2:=hr.mono (show 2<=4 by lia);refine⟨_,(aD (aQ (i:=2) rD.nd rfl (Or.inr rfl) (bO bV rfl n_len PySem.boot_len (aA (pv 0) aC)))
  (aD (nY (i:=3) (nl:=2) (fr:=[]) (Nc:=["row","side"]) (cl:=[]) (g:=(Ef Z.K 2 (jA (iF 0) (jA (iF 1) Eh)))) rD.nd rfl rfl rfl ⟨rfl,rfl,∅,∅,λx c h=>(by cases h),dR rfl,rfl,λi n h=>(by simp at h)⟩
    (Tt rfl n_zip rfl (aA (pv 0) (aA (pv 1) aC))) (λ_ _ _ _ _=>(iJ rfl (bZ (aZ (i:=0) tQ rfl (Or.inl rfl)) (bZ (aZ (i:=1) tQ rfl (Or.inl rfl)) gF)))) (λ_ _ _ _ _=>eX)
    (λ_ _ _ _ _=>(aT (gP (K:=Z.K) rfl) (d9 Y44 r2 rfl (aA (bB jS (pv 0) (bU (aA (pv 1) aC))) aC)) aG (λ_ _=>rfl))) rfl)
  (aD (aQ (i:=4) rD.nd rfl (Or.inr rfl) (d9 Y48 r3 rfl (aA (pv 3) (aA (pv 2) aC))))
  (aD (bX (aY wU (iR hu (pv 4) aX (λ_ _=>rfl)) (pv 2) (bA _)) (aF jH) bC)
  (aF (aV (dZ (nl:=1) (fr:=[2,4]) (Nc:=["row","many","end"]) (cl:=[("many",s.heap.objs.size+1),("end",s.heap.objs.size+2)]) rfl ⟨rfl,rfl,∅,∅,(fC rfl (fC rfl (qX))),dR rfl,rfl,λi n h=>match i,h with | 0,h=>by cases h;exact⟨2,rfl,rfl,rfl,rfl,.inl rfl⟩ | 1,h=>by cases h;exact⟨4,rfl,rfl,rfl,rfl,.inl rfl⟩ | k+2,h=>by rw[show 1+(k+2)=k+3 by lia] at h;cases h⟩
    (cE (iR hu (pv 4) aX (λ_ _=>rfl))) (λ_ _ _ _ _=>(aZ (i:=0) tW rfl (Or.inl rfl))) (λ_ _ _ _ _=>eX)
    (λ_ _ _ _ _=>(d9 Y6 r2 rfl (aA (aT (iE (K:=Z.K) rfl) (pv 0) (pv 1) (λ_ _=>rfl)) (aA (iR hu (pv 2) aX (λ_ _=>rfl)) aC))))))))))),?_⟩
 have lu:=hX.length;have lb:=hQ.length;have hw:∀row∈X,row.length=X.length:=λrow h=>(xB row h).2;have qP:=qL.pos;have lA:=Eb ql;refine⟨_,rfl,g,us,rfl,.inl hU,?_⟩;refine⟨_,rfl,_,rfl,g,bR,rfl,⟨_,hU⟩,⟨_,hB⟩,λD hD=>?_⟩;have sD:=aE hD (.lst []);refine Dv (xs:=us) (ys:=bs) (λi zs H'=>aS H H'/\H' D=some (.lst zs)/\Imx D H' zs ((iL X qs).take i)) ⟨sD,aB,.nil⟩ (λi zs H' h=>h.2.1) (λi zs H' _ h=>⟨h.1.seq hU,h.1.seq hB⟩) ?_ ?_
 ·rintro i zs x y H1 T1 ex ey ⟨s1,e1,I1⟩ hT C hC;obtain⟨u,ys,row,rfl,er,_,_,hu',fu⟩:=hX.get ex;obtain⟨v,qv,rfl,eq,fv⟩:=hQ.get ey;have hi:i < X.length:=(List.getElem?_eq_some_iff.mp er).1;have mem:=mem_of_getElem? er;have memq:=mem_of_getElem? eq;obtain⟨rb,rl⟩:=xB row mem;have lys:=fu.length;have sT:=aE hT (.tup [.ref u,.ref v]);refine⟨T1,_,rfl,SqT.of aB,rfl,_,_,rfl,_,_,rfl,rfl,jL.1,jL.2,gB ?_⟩;generalize upd H1 T1 (.tup [.ref u,.ref v])=H2 at sT ⊢;have s2:=s1.trans sT;refine⟨_,rfl,_,rfl,zl9 1,λlo hlo=>?_⟩;have s3:=aE hlo (.lst [.ref v]);have e3:upd H2 lo (.lst [.ref v]) lo=some (.lst [.ref v]):=aB;generalize upd H2 lo (.lst [.ref v])=H3 at s3 e3 ⊢;have s03:=s2.trans s3;refine⟨u,lo,_,_,rfl,rfl,s03 _ _ hu',e3,Nat.le_of_lt (bN (by simp only[length_cons,length_nil];lia)),λp hp=>?_⟩;have s4:=aE hp (.lst (ys++[.ref v]));have e4:upd H3 p (.lst (ys++[.ref v])) p=some (.lst (ys++[.ref v])):=aB;generalize upd H3 p (.lst (ys++[.ref v]))=H4 at s4 e4 ⊢;have s04:=s03.trans s4;have s14:=sT.trans (s3.trans s4);refine⟨p,_,row++[qv],k,rfl,SqL.of e4,(fu.same s04).app (.cons (s04.fq fv) .nil),λz hz=>?_,λz hz=>?_,by rw[List.length_append];simp only[length_cons,length_nil];lia,by rw[List.length_append,rl];simp only[length_cons,length_nil];rw[show X.length+(0+1)=X.length+1 by lia];lia,λt l H5 s5 nl ht hl=>?_⟩
  ·rcases mem_append.mp hz with z1 | z1
   ·exact xP row mem z z1
   ·have:z=qv:=by simpa using z1
    rw[this];exact qP qv memq
  ·rcases mem_append.mp hz with z1 | z1
   ·exact rb z z1
   ·have:z=qv:=by simpa using z1
    rw[this];exact qB qv memq
  have s15:=s14.trans s5;have e5:=s15 _ _ e1;have ne:l≠D:=λz=>by rw[z,s14 _ _ e1] at nl;cases nl
  have lz:=I1.length;rw[length_take,lA] at lz;refine⟨t,_,_,_,rfl,rfl,ht,rfl,e5,bN (),hC _ _ ⟨(s1.trans s15).change hD,aB,?_⟩⟩;have ee:(iL X qs).take (i+1)=(iL X qs).take i++[iw (row++[qv])]:=by
   rw[take_add_one];unfold iL mI;rw[getElem?_map,getElem?_zipWith,er,eq];rfl
  rw[ee];exact((I1.same s15).app (.cons ne hl .nil)).upd
 rintro zs H1 ⟨s1,e1,I1⟩;rw[show min us.length bs.length=(iL X qs).length by lia,take_length] at I1;have bits4:bw n X.length<=9000:=Nat.le_trans hnb ∅;have wA:∀i,i < X.length->((iL X qs).getD i []).length=X.length+1:=λi hi=>by
  rw[xM ql hi,sK,List.length_append,hw _ (mem_of_getElem? (yQ hi))];rfl
 refine⟨_,rfl,_,rfl,D,D,zs,iL X qs,X.length,X.length+1,n,λR=>Mq.KI X.length (Mq.at2 (iL X qs)) R/\Mq.KJ X.length (Mq.at2 (iL X qs)) R,by rw[lu];rfl,SqL.of e1,I1,lA,wA,(),(),hBd,hn1,(),(),⟨λΦ _ hz=>hz,λΦ _ hz=>hz⟩,Ps,λd lE zE R' rank pivot sign H2 s2 nd nlE ed el IE SE bE bp LE=>?_⟩;obtain⟨g1',g2',g3',g4'⟩:=xL ed;have s02:=s1.trans s2;have wr:=Sh xP qP ql hw SE;refine⟨_,rfl,d,_,rfl,g2',_,rfl,_,_,rfl,rfl,_,rfl,jX (λe=>?_) (λe=>?_)⟩
 ·-- lame
  have hr':rank < X.length:=by simp at e;lia
  have hz:wgt X=0:=by
   rcases wr with z | z
   ·exact z.2
   ·lia
  exact absurd hz hz0
 ·-- whole
  have hr':rank=X.length:=by
   rcases wr with z | z
   ·simp at e;lia
   ·exact z.1
  have hz:wgt X≠0:=by
   rcases wr with z | z
   ·lia
   ·exact z.2
  subst hr';have dn:=SE.dne;have pn:pivot≠0:=λz=>dn (by rw[z];simp);have lzE:=IE.length;rw[SE.len] at lzE;refine⟨_,rfl,d,_,rfl,g1',lE,rfl,⟨_,SqL.of el⟩,λD2 hD2=>?_⟩;have sD2:=aE hD2 (.lst []);refine dL (xs:=zE) (λi ws H'=>aS H2 H'/\H' D2=some (.lst ws)/\Fqs Z.K H' ws ((List.range i).map λi=>red (Mq.ent R' i X.length) pivot)) ⟨sD2,aB,.nil⟩ (λi ws H' h=>h.2.1) (λi ws H' _ h=>h.1.seq (SqL.of el)) ?_ ?_
  ·rintro i ws x H3 hx ⟨s3,e3,F3⟩ C hC;have hi:i < X.length:=by have:=(List.getElem?_eq_some_iff.mp hx).1;lia
   obtain⟨u,eu,nu,hu2⟩:=IE.at (i:=i) (by rw[SE.len];exact hi);have exu:x=.ref u:=by rw[eu] at hx;cases hx;rfl
   subst exu;have wid:=SE.wid i hi;have lz:=F3.length;rw[length_map,length_range] at lz;have ea:=bQ (kW (l:=R'.getD i []) (i:=X.length) ());rw[<- lu] at ea;refine⟨dU.1,dU.2,gB ?_⟩;refine⟨_,rfl,_,rfl,u,_,_,_,rfl,rfl,SqL.of (s3 _ _ hu2),ea,?_⟩;rw[lu];refine⟨_,rfl,d,_,rfl,xL (s3 _ _ ed) |>.2.2.1,_,_,bw n X.length,rfl,pn,bp,bits4,λr H4 s4 e4=>?_⟩;have eD:=s4 _ _ e3;refine⟨eD,bN (),hC _ _ ⟨(s3.trans s4).change hD2,aB,?_⟩⟩;rw[range_succ,map_append];exact((F3.same s4).app (.cons (Fq.of e4) .nil)).upd eD
  rintro ws H3 ⟨s3,e3,F3⟩;rw[lzE] at F3;have gd:∀j,j < X.length->((List.range X.length).map λi=>red (Mq.ent R' i X.length) pivot).getD j Mq.z0=red (Mq.ent R' j X.length) pivot:=λj hj=>by
   rw[getD_eq_getElem?_getD,getElem?_map,getElem?_range hj];rfl
  refine q D2 ws _ H3 (s02.trans s3) (s02.free hD2) e3 F3 ⟨⟨⋯,λp hp=>?_,λp hp=>?_,λi hi=>?_⟩,λv hv j hj=>?_⟩ (Ww pn bp λp hp=>by obtain⟨i,hi,rfl⟩:=mem_map.mp hp;exact⟨_,bE i X.length,rfl⟩)
  ·obtain⟨i,_,rfl⟩:=mem_map.mp hp;exact hZ pn
  ·obtain⟨i,hi,rfl⟩:=mem_map.mp hp;have le:=pD (t:=Mq.ent R' i X.length) pn;exact⟨((bE i X.length).le le.1).mono bits4,(bp.le le.2).mono bits4⟩
  ·rw[<- qa7 xP qP ql hw LE.1 SE hi];refine aU λj hj=>?_;rw[gd j hj,iP pn];rfl
  ·rw[gd j hj,iP pn,<- Zq xP qP ql hw LE.2 SE hv hj];rfl
theorem R50:FZ (CX1 Z.P Z.w) 7 Z.f50 Z.d50 ["net"] (Fv Z.c_Net Z.c_Ring Z.c_Floats Z.K):=by
 refine F50.okX Sj (λvs H Q E h=>?_) λcdv A outer s H vs Q E hr h=>?_
 ·obtain⟨_,_,_,_,rfl,_⟩:=h;rfl
 obtain⟨n,l,m,ds,rfl,nt,pt,mo,m20,h40,hz,rf,q⟩:=h;have r2:=hr.mono (show 2<=6 by lia);have r5:=hr.mono (show 5<=6 by lia);refine⟨_,(aD (aQ (i:=1) Sj.nd rfl (Or.inl rfl) (d9 Y36 r5 rfl (aA (pv 0) (aA (bU (aA aX aC)) aC))))
  (aD (bX (aY xU (bO bV rfl n_len PySem.boot_len (aA (pv 1) aC)) aG (bA _)) (aF (sS cK dC rfl rfl mc_Ring qIG R2 r2 b2 (aA (aT bM (pv 1) aG (λ_ _=>rfl)) (aA (d9 Y37 r5 rfl (aA (pv 0) (aA (aT bM (pv 1) aG (λ_ _=>rfl)) aC))) aC)))) bC)
  (aD (aQ (i:=2) Sj.nd rfl (Or.inl rfl) (d9 Y33 hr rfl (aA (pv 0) aC)))
  (aF (bX (aY xU (bO bV rfl n_len PySem.boot_len (aA (pv 2) aC)) aG (bA _)) (aF (sS cK dC rfl rfl mc_Floats qIF R1 r2 b1 (aA (pv 2) aC))) bC))))),?_⟩
 refine⟨_,rfl,zl9 1,λL hL=>?_⟩;have s1:=aE hL (.lst [.str "hold"]);have e1:upd H L (.lst [.str "hold"]) L=some (.lst [.str "hold"]):=aB;generalize upd H L (.lst [.str "hold"])=H1 at s1 e1 ⊢;refine⟨n,l,.ref L,m,ds,wHo,rfl,nt.same s1,pt,m20,h40,.seq (SqL.of e1) rfl,λr us H2 s2 nr er G nx=>?_⟩;have s02:=s1.trans s2;refine⟨_,rfl,r,_,rfl,.inl (SqL.of er),_,_,rfl,rfl,_,rfl,?_⟩;have ri:=kN (W:=wHo) (Kf pt) ds.length (by rw[vI];exact Nat.le_refl _)
 cases hR:rgH ds with
 |cons c rr=>
  have gl:us.length=((rgH ds).map (·.2)).length:=G.l;rw[hR] at gl;have lu:0 < us.length:=by rw[gl];simp
  obtain⟨u0,hu0⟩:∃u,us[0]?=some u:=⟨_,getElem?_eq_getElem lu⟩
  obtain⟨ra,xs,rfl,nra,era,sts⟩:=G.r 0 u0 c.2 hu0 (by show ((rgH ds).map (·.2))[0]?=_;rw[hR];rfl);refine L2.ifT (by show decide (((us.length:Nat):Int) > 0)=true;exact decide_eq_true ()) ?_;obtain⟨c1,k',u',v',st,pts,_,ec,hst,ch,stl⟩:=ri.r c (by show c∈rgH ds;rw[hR];exact mem_cons_self ..);have inb:∀t∈c.2,t.1 < ds.length/\(t.2=1\/t.2=-1):=λt ht=>by
   rw[ec] at ht;rcases mem_cons.mp ht with z | z
   ·subst z;exact⟨c1,.inl rfl⟩
   ·obtain⟨i,hi,e⟩:=getElem_of_mem z;obtain⟨_,_,_,_,u2,v2,hm,w⟩:=ch.g i t (by rw[<- e];exact getElem?_eq_getElem hi);refine⟨ri.lt _ hm,?_⟩;rcases w with ⟨a,_⟩ | ⟨a,_⟩
    ·exact .inl a
    ·exact .inr a
  have l21:c.2.length<=21:=by rw[ec,length_cons];lia
  refine⟨_,rfl,r,us,_,_,rfl,rfl,SqL.of er,bQ (j:=0) hu0,_,rfl,_,rfl,r,us,_,_,rfl,rfl,SqL.of er,bQ (j:=0) hu0,?_⟩;refine⟨n,l,ra,_,ds,xs,c.2,rfl,nt.same s02,(),hz,SqL.of era,sts,l21,inb,λt0 H3 s3 f3=>?_⟩;refine⟨zl9 2,λx hx=>?_⟩;have sx:=aE hx (gK x (.ref Z.c_Ring) none);refine⟨x,ra,t0,xs,rfl,aB,sx.seq (SqL.of (s3 _ _ era)),by rw[sts.length];lia,λdx l2 H4 ndx nl2 ne1 ne2 keep ex ed el=>⟨rfl,some dx,ex,?_⟩⟩;have sd:=oF (s02.trans s3) hx keep;have sd3:=oF (aS.refl H3) hx keep;refine rf.rg c rr hR dx l2 t0 xs _ sd (by rw[iC ne1];exact ed) ((s02.trans (s3.trans sx)).free nl2) (by rw[iC ne2];exact el) ((sts.same s3).same sd3) (sd3.fq f3)
 |nil=>
  have gl:us.length=((rgH ds).map (·.2)).length:=G.l;rw[hR] at gl;have lu:us=[]:=eq_nil_of_length_eq_zero (by simpa using gl);subst lu;refine L2.ifF rfl ?_;refine⟨_,rfl,n,l,m,ds,rfl,nt.same s02,pt,mo,m20,(),λl' H3 s3 nl e3=>?_⟩;refine⟨_,rfl,l',_,rfl,.inl (SqL.of e3),_,_,rfl,rfl,_,rfl,?_⟩
  by_cases c:eU m ds=[]
  ·rw[c];exact L2.ifF rfl (q hR c H3 (s02.trans s3))
  ·have l0:0 < (eU m ds).length:=length_pos_iff.mpr c;have lf:(eU m ds).length<=20:=by
    unfold eU;rw[length_map];refine Nat.le_trans (length_filter_le _ _) ?_;rw[length_range];exact m20
   refine L2.ifT (by show decide (((((eU m ds).map V.int).length:Nat):Int) > 0)=true;rw[length_map];exact decide_eq_true ()) ?_;refine⟨_,rfl,zl9 1,λx hx=>?_⟩;have sx:=aE hx (gK x (.ref Z.c_Floats) none);refine⟨x,l',_,rfl,aB,sx.seq (SqL.of e3),by rw[length_map];lia,λdx l2 H4 ndx nl2 ne1 ne2 keep ex ed el=>⟨rfl,some dx,ex,?_⟩⟩;exact rf.fl hR c dx l2 _ (oF (s02.trans s3) hx keep) (by rw[iC ne1];exact ed) ((s02.trans (s3.trans sx)).free nl2) (by rw[iC ne2];exact el)
theorem Y51:DZ 6 Z.f51 Z.d51 ["net","matrix","right"] (Fx Z.c_Net Z.K) "heights_by":=by
 refine⟨?_,F51.b3 _ _ _ (by intros;rfl),F51.kp,m51⟩
 refine F51.ok9 ql1 λ_ _ _ s H _ Q E hr h=>?_;obtain⟨n,l,g,r,D,H0,m,b,N,L,ds,us,ys,X,Y,qs,rfl,nt,hg,FX,EO,EB,hr0,FQ,lq,h01,q⟩:=h;have r1:=hr.mono (show 1<=5 by lia);refine⟨_,(aF (aV (bB jS (bU (aA (dG (v:=.ref Z.aN) rfl mv_NOUGHT rfl) aC)) (jG kY (d9 Y49 hr rfl (aA (pv 1) (aA (pv 2) aC))) qR (iV (bB lU (dE (pv 0) NTx.cl X3 R28 r1 b28 .nil aM) aG)))))),?_⟩;have lX:X.length=wd m ds:=EO.x.h;have lw:wd m ds=m - 1+cX ds:=rfl;have mo:=EB.o.m1;have w26:=EB.w26;refine⟨zl9 1,λL1 hL1=>?_⟩;have s1:=aE hL1 (.lst [.ref Z.aN]);have e1:upd H L1 (.lst [.ref Z.aN]) L1=some (.lst [.ref Z.aN]):=aB;generalize upd H L1 (.lst [.ref Z.aN])=H1 at s1 e1 ⊢;refine⟨_,rfl,_,rfl,g,r,D,H0,us,ys,X,qs,b,b,rfl,s1.seq hg,FX.same s1,s1.seq hr0,FQ.same s1,lq,λp hp=>(h01 p hp).1,λp hp=>(h01 p hp).bd EB.b1,EqB.pos EO,λrow hr=>⟨λp hp=>((EB.cell EO row hr).1 p hp).1,(EB.cell EO row hr).2⟩,(),by rw[lX];exact EB.hb,Vi (EqB.pos EO) (λp hp=>(h01 p hp).1.pos) lq (λrow hr p hp=>((EB.cell EO row hr).1 p hp).2) (λp hp=>(h01 p hp).ov EB.L1 EB.LB) EB.L1,EB.b1,by rw[lX];exact Nat.le_trans EB.hbw ∅,EB.wgt EO,λkn zk ps H2 s2 nkn ekn Fk SU OV=>?_⟩;rw[lX] at OV;have s02:=s1.trans s2;obtain⟨dn,hn⟩:=(nt.same s02).ob;have lps:ps.length=X.length:=SU.len;have lzk:=Fk.length;refine⟨_,rfl,n,dn,_,rfl,hn,cY _ _ ∅ ∅,n,l,_,ds,rfl,nt.same s02,_,_,rfl,rfl,?_⟩;have em:(m:Int) - 1=((m - 1:Nat):Int):=by lia
 refine⟨_,rfl,kn,zk,rfl,SqL.of ekn,λS hS=>?_⟩;rw[em,Zm];have s3:=aE hS (.lst (zk.take (m - 1)));have e3:upd H2 S (.lst (zk.take (m - 1))) S=some (.lst (zk.take (m - 1))):=aB;generalize upd H2 S (.lst (zk.take (m - 1)))=H3 at s3 e3 ⊢;refine⟨L1,S,_,_,rfl,rfl,(s2.trans s3) _ _ e1,e3,Nat.le_of_lt (bN (by rw[length_take];simp only[length_cons,length_nil];lia)),λV1 hV1=>?_⟩;have s4:=aE hV1 (.lst ([.ref Z.aN]++zk.take (m - 1)));have e4:upd H3 V1 (.lst ([.ref Z.aN]++zk.take (m - 1))) V1=some (.lst ([.ref Z.aN]++zk.take (m - 1))):=aB;generalize upd H3 V1 (.lst ([.ref Z.aN]++zk.take (m - 1)))=H4 at s4 e4 ⊢;exact q V1 _ ps H4 ((s02.trans s3).free hV1) (s02.trans (s3.trans s4)) e4 (.cons (fN _) (Fqs.take _ (Fk.same (s3.trans s4)))) SU OV
theorem Y52:DZ 8 Z.f52 Z.d52 ["net","start","goal"] (Fu Z.c_Net Z.K) "pushed_heights":=by
 refine⟨?_,F52.b3 _ _ _ (by intros;rfl),F52.kp,m52⟩
 refine F52.ok9 Pa λcdv A outer s H vs Q E hr h=>?_;obtain⟨n,l,m,b,kb,L,ds,s,g,rfl,NB,hs,hg,q⟩:=h;have r2:=hr.mono (show 2<=7 by lia);have r5:=hr.mono (show 5<=7 by lia);have r6:=hr.mono (show 6<=7 by lia);have r7:=hr;refine⟨_,(aD (aQ (i:=3) Pa.nd rfl (Or.inl rfl) (aT bL (d9 Y43 r7 rfl (aA (pv 0) aC)) aG (λ_ _=>rfl)))
  (aD (aQ (i:=4) Pa.nd rfl (Or.inl rfl) (bB yC (bU (aA (dG (v:=.ref Z.aN) rfl mv_NOUGHT rfl) aC)) (bB gD (bO bV rfl n_len PySem.boot_len (aA (pv 3) aC)) aG)))
  (aD (bS (d9 Y41 r5 rfl (aA (pv 4) (aA (pY (MK .pu) R14 r2 rfl (T.mK .pu) b14 .nil aM (aA (pv 1) (aA (pv 2) (aA (dG (v:=.ref Z.aO) rfl mv_ONE rfl) aC)))) aC))))
  (aF (aV (d9 Y51 r6 rfl (aA (pv 0) (aA (pv 3) (aA (jG kY (pv 4) (iV aG) qR) aC))))))))),?_⟩
 have EB:=NB.eb;have mo:=EB.o.m1;have w26:=EB.w26;refine⟨_,rfl,n,l,m,kb,ds,rfl,NB.nt,NB.ok,mo,NB.m20,NB.h40,NB.cu,λtt p r us ys X Y H1 s1 et np nr ep er FM FY nx EO=>?_⟩;have lX:X.length=wd m ds:=EO.x.h;have lus:=FM.l;refine⟨tt,_,0,_,rfl,rfl,SqT.of et,rfl,?_⟩;obtain⟨W,hW⟩:∃W,W=wd m ds:=⟨_,rfl⟩
 rw[<- hW] at w26;have lusW:us.length=W:=by rw[lus,lX,hW]
 refine⟨zl9 1,λl1 hl1=>?_⟩;have s2:=aE hl1 (.lst [.ref Z.aN]);have e2:upd H1 l1 (.lst [.ref Z.aN]) l1=some (.lst [.ref Z.aN]):=aB;generalize upd H1 l1 (.lst [.ref Z.aN])=H2 at s2 e2 ⊢;have eW:(us.length:Int)+1=((W+1:Nat):Int):=by lia
 refine⟨_,rfl,p,us,rfl,.inl (SqL.of (s2 _ _ ep)),_,_,rfl,rfl,l1,_,[.ref Z.aN],rfl,rfl,e2,(),(),?_,λRr hR=>?_⟩
 ·rw[eW,Int.toNat_natCast,sizeLine_eq];simp only[length_cons,length_nil];lia
 rw[eW,Int.toNat_natCast,qU];have nR1:H1 Rr=none:=s2.free hR;have s3:=aE hR (.lst (replicate (W+1) (.ref Z.aN)));have e3:upd H2 Rr (.lst (replicate (W+1) (.ref Z.aN))) Rr=some (.lst (replicate (W+1) (.ref Z.aN))):=aB;generalize upd H2 Rr (.lst (replicate (W+1) (.ref Z.aN)))=H3 at s3 e3 ⊢;refine⟨_,rfl,_,rfl,_,rfl,λx dx hx hdx nxd=>?_⟩;refine⟨x,dx,.pu,_,_,_,rfl,aB,rfl,?_⟩;have s4:aS H3 (upd (upd (upd H3 dx (.own x)) x (.ins ((kd3 Z.c_Piece Z.c_Push Z.c_Hold) .pu) dx [])) x (.ins ((kd3 Z.c_Piece Z.c_Push Z.c_Hold) .pu) dx (jY (.int (s:Int)) (.int (g:Int)) (.ref Z.aO)))):=(Wi (C:=(kd3 Z.c_Piece Z.c_Push Z.c_Hold) .pu) hx hdx).change hx;have rw4:Rw (kd3 Z.c_Piece Z.c_Push Z.c_Hold) (upd (upd (upd H3 dx (.own x)) x (.ins ((kd3 Z.c_Piece Z.c_Push Z.c_Hold) .pu) dx [])) x (.ins ((kd3 Z.c_Piece Z.c_Push Z.c_Hold) .pu) dx (jY (.int (s:Int)) (.int (g:Int)) (.ref Z.aO)))) x .pu (.int (s:Int)) (.int (g:Int)) (.ref Z.aO):=⟨dx,aB⟩
 generalize upd (upd (upd H3 dx (.own x)) x (.ins ((kd3 Z.c_Piece Z.c_Push Z.c_Hold) .pu) dx [])) x (.ins ((kd3 Z.c_Piece Z.c_Push Z.c_Hold) .pu) dx (jY (.int (s:Int)) (.int (g:Int)) (.ref Z.aO)))=H4 at s4 rw4 ⊢;have ptW:dF ((W+1:Nat):Int) (s:Int) (g:Int):=by
  unfold wd at hW;exact⟨(),(),(),()⟩
 have ptm:dF (m:Int) (s:Int) (g:Int):=⟨(),(),(),()⟩
 refine⟨Rr,x,Z.aO,_,replicate (W+1) (0,1),(.pu,(s:Int),(g:Int),(1,1)),W+1,1,1,rfl,s4 _ _ e3,kD (fN _) (W+1),Av (W+1),rw4,fO _,ptW,hV,gW,(),λys' H5 sx5 eR5 F5=>?_⟩;obtain⟨lb5,v5⟩:=Yd (d:=(.pu,(s:Int),(g:Int),(1,1))) (h:=0) (m:=m) (Av (W+1)) ptm (by unfold wd at hW;lia) rfl hV gW;have s15:aS H1 H5:=SX.same (s2.trans (s3.trans s4)) sx5 (λc hc=>by rw[mem_singleton.mp hc];exact nR1);generalize pR (replicate (W+1) (0,1)) (.pu,(s:Int),(g:Int),(1,1))=rs at F5 lb5 v5;have v6:∀k,Mq.val (rs.getD k (0,1))=un g k - un s k:=λk=>by
  rw[v5,rG,Mq.tS,<- qo3 s g k];show 0 + - dl ((s:Int)).toNat ((g:Int)).toNat k*Mq.val (1,1)=_;rw[Int.toNat_natCast,Int.toNat_natCast];grind
 have lrs:=lb5.w;refine⟨_,rfl,_,rfl,_,rfl,1,rfl,Rr,_,rfl,SqL.of eR5,λS hS=>?_⟩;rw[Kg];have s6:=aE hS (.lst (ys'.drop 1));have e6:upd H5 S (.lst (ys'.drop 1)) S=some (.lst (ys'.drop 1)):=aB;generalize upd H5 S (.lst (ys'.drop 1))=H6 at s6 e6 ⊢;have s16:=s15.trans s6;have s06:=s1.trans s16;have gd:∀k,(rs.drop 1).getD k (0,1)=rs.getD (k+1) (0,1):=λk=>by rw[getD_eq_getElem?_getD,getElem?_drop,Nat.add_comm,<- getD_eq_getElem?_getD]
 refine⟨n,l,p,S,p,H,m,b,_,L,ds,us,_,X,Y,rs.drop 1,rfl,NB.nt.same s06,SqL.of (s16 _ _ ep),(Jj FM (λx hx=>(nx x hx).1)).same s16,EO,EB,SqL.of e6,Fqs.drop1 (F5.same s6),by rw[length_drop,lrs,lX,<- hW];lia,λpq hpq=>?_,λt zs ps H7 nt7 s7 e7 F7 SU OV=>?_⟩
 ·obtain⟨k,hk⟩:=getElem?_of_mem hpq;rw[getElem?_drop] at hk;have lo:=(lb5.l pq (mem_of_getElem? hk)).1;have ev:=v6 (1+k);rw[getD_eq_getElem?_getD,hk] at ev;obtain⟨a0,ha0,ea⟩:=qe7 g s (1+k);obtain⟨d1,t1⟩:=Mq.Du lo (show (1:Int)<=1 by decide) (ev.trans ea);have:=Int.le_of_dvd ∅ d1;have:=lo.pos;exact⟨lo,(),()⟩
 ·have lps:ps.length=X.length:=SU.len;have lm:m - 1<=ps.length:=by rw[lps,lX];unfold wd;lia
  refine q t zs (lvS m ps) (uP ps) H7 (s06.free nt7) (s06.trans s7) e7 F7 (Wc mo lm) (Vv SU.low) (qh5 OV) (EqB.sol EO SU λi hi=>?_) (λk hk=>Xa lm hk);show Mq.val ((rs.drop 1).getD i (0,1))=_;rw[gd,v6]
theorem R53:FZ (CX1 Z.P Z.w) 9 Z.f53 Z.d53 ["net","a","b"] (Gw Z.c_Net Z.c_NoPoint Z.c_Ring Z.c_Floats Z.K):=Vj F53 NTx R28 b28 ⟨a28_0,i28,F28.kp⟩ R26 b26 F26.kp m26 R50 b50 F50.kp m50 Y52.G Y52.b F52.kp m52 Y7.G Y7.b F7.kp m7
theorem R54:FZ (CX1 Z.P Z.w) 5 Z.f54 Z.d54 ["net"] (vE Z.c_Net Z.c_Held Z.K):=by
 refine F54.okX Qz (λvs H Q E h=>?_) λcdv A outer s H vs Q E hr h=>?_
 ·obtain⟨_,_,_,_,rfl,_⟩:=h;rfl
 obtain⟨n,l,m,ds,rfl,nt,h100,eh,q⟩:=h;have r1:=hr.mono (show 1<=4 by lia);have r2:=hr.mono (show 2<=4 by lia);refine⟨_,(aF (dQ PassesOwn.leaving rfl (rB rfl n_enumerate rfl (aA (dE (pv 0) NTx.cl X4 R30 hr b30 .nil aM) aC)) (iJ rfl (bZ (aZ (i:=1) Qz.nd rfl (Or.inl rfl)) (bZ (aZ (i:=2) Qz.nd rfl (Or.inl rfl)) gF)))
   (aF (bX (aY dP (gC (pv 2) T.cl mW GW r1 bW .nil aM) aX (bA _)) (aF (sS cK dC rfl rfl mc_Held qIH R12 r2 b12 (aA (pv 1) aC))) bC)))),?_⟩
 obtain⟨dx,hn⟩:=nt.ob;refine⟨_,rfl,n,dx,_,rfl,hn,cY _ _ ∅ ∅,n,l,_,ds,rfl,nt,h100,λa xs H1 s1 na ea Rb=>?_⟩;have lxs:=Rb.length;refine⟨a,rfl,⟨_,SqL.of ea⟩,?_⟩;refine Dc (xs:=xs) (λi σ H'=>aS H1 H'/\(∀(j:Nat) (e:RD),j < i->ds[j]?=some e->e.1≠.ho)/\∃z1 z2,σ=[some (.ref n),z1,z2]) ⟨aS.refl _,λj e h=>by lia,none,none,rfl⟩ (λi σ H' _ h=>h.1.seq (SqL.of ea)) ?_ ?_
 ·rintro i x σ H2 T2 hx ⟨s2,nh,z1,z2,rfl⟩ hT;have hi:i < ds.length:=by
   have:=(List.getElem?_eq_some_iff.mp hx).1;lia
  obtain⟨⟨k,u,v,p⟩,hd⟩:∃d,ds[i]?=some d:=⟨_,getElem?_eq_getElem hi⟩
  obtain⟨y,z',ey,rw,fz⟩:=Rb.at hd;have ex:x=.ref y:=by rw[ey] at hx;exact(Option.some.inj hx).symm
  subst ex;have sT:=aE hT (.tup [.int (i:Int),.ref y]);refine⟨T2,_,rfl,SqT.of aB,rfl,_,_,rfl,_,_,rfl,rfl,?_⟩;generalize upd H2 T2 (.tup [.int (i:Int),.ref y])=H3 at sT ⊢;obtain⟨dr,hy⟩:=id (rw.same (s2.trans sT));refine⟨_,rfl,k,y,dr,_,rfl,hy,(fM _ _ _ ∅ ∅ ∅),_,rfl,rfl,_,rfl,?_⟩;have s03:=s1.trans (s2.trans sT)
  by_cases hk:k=.ho
  ·refine L2.ifT (by show decide (V.str k.wd=V.str Kd.ho.wd)=true;rw[dY];exact decide_eq_true hk) ?_;refine⟨_,rfl,zl9 1,λx hx=>?_⟩;refine⟨x,(i:Int),rfl,aB,λdx2 H4 ndx ne1 keep ex ed=>⟨rfl,some dx2,ex,?_⟩⟩;have sd:=oF s03 hx keep;have nd:H dx2=none:=by
    have:H3 dx2=none:=by
     rw[aR ne1] at ndx;exact ndx
    exact s03.free this
   exact eh i _ hd hk nh dx2 _ sd nd (by rw[iC ne1];exact ed)
  ·refine L2.ifF (by show decide (V.str k.wd=V.str Kd.ho.wd)=false;rw[dY];exact decide_eq_false hk) ⟨s2.trans sT,λj e hj he=>?_,_,_,rfl⟩
   by_cases c:j=i
   ·subst c;rw[hd] at he
    cases he
    exact hk
   ·exact nh j e () he
 ·rintro σ H2 ⟨s2,nh,z1,z2,rfl⟩;refine q (λd hd=>?_) _ (s1.trans s2);obtain⟨j,hj⟩:=getElem?_of_mem hd;have:=(List.getElem?_eq_some_iff.mp hj).1;exact nh j d () hj
theorem Y55:DZ 5 Z.f55 Z.d55 ["net","a"] qa0 "least_from":=⟨F55.ok Wl (λvs H Q E h=>h.elim) (λcdv A outer s H vs Q E hr h=>h.elim),F55.b2 _ _ (by intros;rfl),F55.kp,m55⟩
theorem R56:FZ (CX1 Z.P Z.w) 6 Z.f56 Z.d56 ["net","a"] (Cq Z.c_Net Z.c_NoPoint Z.K):=by
 refine F56.okX Rk (λvs H Q E h=>?_) λcdv A outer s H vs Q E hr h=>?_
 ·obtain⟨_,_,_,_,_,rfl,_⟩:=h;rfl
 obtain⟨n,l,x,m,ds,rfl,nt,hx,px,q⟩:=h;have r1:=hr.mono (show 1<=5 by lia);have r3:=hr.mono (show 3<=5 by lia);have hu:=lW hr;refine⟨_,(aD (bS (aH R26 r3 rfl m26 F26.kp b26 .nil (dA cK dC) (aA (bU (aA (pv 1) aC)) (aA (dE (pv 0) NTx.cl X3 R28 r1 b28 .nil aM) aC))))
  (aD (aQ (i:=2) Rk.nd rfl (Or.inr rfl) (aH Y55.G hr rfl m55 F55.kp Y55.b .nil aM (aA (pv 0) (aA (pv 1) aC))))
  (aF (aV (dZ (nl:=1) (fr:=[2]) (Nc:=["point","reached"]) (cl:=[("reached",s.heap.objs.size+1)]) rfl ⟨rfl,rfl,∅,∅,λx c h=>h,dR rfl,rfl,λi n h=>match i,h with | 0,h=>by cases h;exact⟨2,rfl,rfl,rfl,rfl,.inl rfl⟩ | k+1,h=>by rw[show 1+(k+1)=k+2 by lia] at h;cases h⟩
    (eZ rfl n_range (aA (dE (pv 0) NTx.cl X3 R28 r1 b28 .nil aM) aC)) (λ_ _ _ _ _=>(aZ (i:=0) tE rfl (Or.inl rfl))) (λ_ _ _ _ _=>eX)
    (λ_ _ _ _ _=>(pW (nC (qa9 (lW hr) (pv 0) (pv 1))) (aT (gP (K:=Z.K) rfl) (iR (lW hr) (pv 1) (pv 0) (λ_ _=>rfl)) aG (λ_ _=>rfl)) xX))))))),?_⟩
 obtain⟨dn,hn⟩:=nt.ob;refine⟨_,rfl,zl9 1,λL hL=>?_⟩;have s1:=aE hL (.lst [x]);have e1:upd H L (.lst [x]) L=some (.lst [x]):=aB;generalize upd H L (.lst [x])=H1 at s1 e1 ⊢;refine⟨_,rfl,n,dn,_,rfl,s1 _ _ hn,cY _ _ ∅ ∅,n,l,_,ds,rfl,nt.same s1,?_⟩;have al:[x].all (cV m)=false:=by
  show (cV m x && true)=false;rw[px];rfl
 exact⟨L,[x],m,rfl,SqL.of e1,by show 1<=100;decide,λz hz=>by rw[mem_singleton.mp hz];exact hx.same s1,λe=>absurd (al.symm.trans e) ⋯,λ_ H2 s2=>q H2 (s1.trans s2)⟩
theorem R57:FZ (CX1 Z.P Z.w) 6 Z.f57 Z.d57 ["net","a","b"] (xZ Z.c_Net Z.c_NoPoint Z.K):=by
 refine F57.okX Jz (λvs H Q E h=>?_) λcdv A outer s H vs Q E hr h=>?_
 ·obtain⟨_,_,_,_,_,_,rfl,_⟩:=h;rfl
 obtain⟨n,l,x,y,m,ds,rfl,nt,hx,hy,pxy,q⟩:=h;have r1:=hr.mono (show 1<=5 by lia);have r3:=hr.mono (show 3<=5 by lia);have hu:=lW hr;refine⟨_,(aD (bS (aH R26 r3 rfl m26 F26.kp b26 .nil (dA cK dC) (aA (bU (aA (pv 1) (aA (pv 2) aC))) (aA (dE (pv 0) NTx.cl X3 R28 r1 b28 .nil aM) aC))))
  (aD (aQ (i:=3) Jz.nd rfl (Or.inl rfl) (aH Y55.G hr rfl m55 F55.kp Y55.b .nil aM (aA (pv 0) (aA (pv 1) aC))))
  (aD (bX (nC (zM (lW hr) (pv 2) (pv 3))) (aF (vA cK dC rfl rfl mc_NoRoad x1_NoRoad (aA aX aC))) bC)
  (aF (aV (aT bL (iR (lW hr) (pv 3) (pv 2) (λ_ _=>rfl)) aG (λ_ _=>rfl))))))),?_⟩
 obtain⟨dn,hn⟩:=nt.ob;refine⟨_,rfl,_,rfl,zl9 2,λL hL=>?_⟩;have s1:=aE hL (.lst [x,y]);have e1:upd H L (.lst [x,y]) L=some (.lst [x,y]):=aB;generalize upd H L (.lst [x,y])=H1 at s1 e1 ⊢;refine⟨_,rfl,n,dn,_,rfl,s1 _ _ hn,cY _ _ ∅ ∅,n,l,_,ds,rfl,nt.same s1,?_⟩;have al:[x,y].all (cV m)=false:=by
  show (cV m x && (cV m y && true))=false;rw[Bool.and_true];exact pxy
 refine⟨L,[x,y],m,rfl,SqL.of e1,by show 2<=100;decide,λz hz=>?_,λe=>absurd (al.symm.trans e) ⋯,λ_ H2 s2=>q H2 (s1.trans s2)⟩;rcases mem_cons.mp hz with rfl | hz
 ·exact hx.same s1
 ·rw[mem_singleton.mp hz];exact hy.same s1
theorem Y58:DZ 4 Z.f58 Z.d58 ["matrix"] (sV Z.K) "weight":=by
 refine⟨?_,F58.b1 _ (by intros;rfl),F58.kp,m58⟩
 refine F58.ok9 kJ λ_ _ _ s H _ Q E hr h=>?_;obtain⟨g,D0,us,X,rfl,hU,hX,wx,q⟩:=h;have r2:=hr.mono (show 2<=3 by lia);have hu:=lW hr;refine⟨_,(aD (nY (i:=1) (nl:=1) (fr:=[]) (Nc:=["row"]) (cl:=[]) kJ.nd rfl rfl rfl ⟨rfl,rfl,∅,∅,λx c h=>(by cases h),dR rfl,rfl,λi n h=>(by simp at h)⟩
    (cE (pv 0)) (λ_ _ _ _ _=>(aZ (i:=0) Gv rfl (Or.inl rfl))) (λ_ _ _ _ _=>eX)
    (λ_ _ _ _ _=>(d9 Y44 r2 rfl (aA (pv 0) aC))) rfl)
  (aD (aQ (i:=2) kJ.nd rfl (Or.inl rfl) (d9 Y48 hr rfl (aA (dZ (nl:=1) (fr:=[]) (Nc:=["row"]) (cl:=[]) rfl ⟨rfl,rfl,∅,∅,λx c h=>(by cases h),dR rfl,rfl,λi n h=>(by simp at h)⟩
    (cE (pv 1)) (λ_ _ _ _ _=>(aZ (i:=0) Gv rfl (Or.inl rfl))) (λ_ _ _ _ _=>eX)
    (λ_ _ _ _ _=>(aT (gP (K:=Z.K) rfl) (pv 0) aG (λ_ _=>rfl)))) (aA (bO bV rfl n_len PySem.boot_len (aA (pv 0) aC)) aC))))
  (aD (bX (aY wU (iR hu (pv 2) aX (λ_ _=>rfl)) (bO bV rfl n_len PySem.boot_len (aA (pv 0) aC)) (bA _)) (aF (aV (dG (v:=.ref Z.aN) rfl mv_NOUGHT rfl))) bC)
  (aD (aQ (i:=3) kJ.nd rfl (Or.inl rfl) aG)
  (aD (dQ PassesOwn.never rfl (cE (pv 1)) (aZ (i:=4) kJ.nd rfl (Or.inl rfl))
   (aF (aQ (i:=3) kJ.nd rfl (Or.inl rfl) (bB cN (pv 3) (aT bL (pv 4) aG (λ_ _=>rfl))))))
  (aF (aV (d9 Y6 r2 rfl (aA (bB cN (iR hu (pv 2) aX (λ_ _=>rfl)) (iR hu (pv 2) aX (λ_ _=>rfl))) (aA (pv 3) aC)))))))))),?_⟩
 have xP:=wx.p;have xB:=wx.b;have x4:=wx.n;have lu:=hX.length;have hw:∀row∈X,row.length=X.length:=λrow h=>(xB row h).2;have lB:∀row∈X,Mq.B 640 (dI row):=wx.l;refine⟨_,rfl,g,rfl,⟨_,hU⟩,λD1 hD1=>?_⟩;have sD1:=aE hD1 (.lst []);refine dL (xs:=us) (λi zs H'=>aS H H'/\H' D1=some (.lst zs)/\Wmx Z.K D1 H' zs ((X.take i).map wh)) ⟨sD1,aB,.nil⟩ (λi zs H' h=>h.2.1) (λi zs H' _ h=>h.1.seq hU) ?_ ?_
 ·rintro i zs x H1 hx ⟨s1,e1,W1⟩ C hC;obtain⟨u,ys,row,rfl,er,hu',fu⟩:=hX.get hx;have hi:i < X.length:=(List.getElem?_eq_some_iff.mp er).1;have mem:=mem_of_getElem? er;obtain⟨rb,rl⟩:=xB row mem;have lz:=W1.length;rw[length_map,length_take] at lz;refine⟨dU.1,dU.2,gB ?_⟩;refine⟨_,rfl,u,ys,row,640,rfl,s1.seq hu',fu.same s1,xP row mem,rb,(),by rw[rl];lia,λt l H2 s2 nl ht hl=>?_⟩;have e2:=s2 _ _ e1;have ne:l≠D1:=λz=>by rw[z,e1] at nl;cases nl
  refine⟨e2,bN (),hC _ _ ⟨(s1.trans s2).change hD1,aB,?_⟩⟩;have ee:(X.take (i+1)).map wh=(X.take i).map wh++[wh row]:=by rw[take_add_one,er,map_append];rfl
  rw[ee];exact((W1.same s2).app (.cons ne ht hl .nil)).upd e2
 rintro zs1 H1 ⟨s1,e1,W1⟩;rw[lu,take_length] at W1;have lz1:=W1.length;rw[length_map] at lz1;refine⟨_,rfl,D1,rfl,⟨_,SqL.of e1⟩,λD2 hD2=>?_⟩;have sD2:=aE hD2 (.lst []);refine dL (xs:=zs1) (λi zs H'=>aS H1 H'/\H' D2=some (.lst zs)/\Imx D2 H' zs ((X.map iw).take i)) ⟨sD2,aB,.nil⟩ (λi zs H' h=>h.2.1) (λi zs H' _ h=>h.1.seq (SqL.of e1)) ?_ ?_
 ·rintro i zs x H2 hx ⟨s2,e2,J2⟩ C hC;obtain⟨t,l,r,rfl,er,ht,hl⟩:=W1.get hx;obtain⟨row,erow,rfl⟩:∃row,X[i]?=some row/\r=wh row:=by
   rw[getElem?_map] at er
   cases e:X[i]? with
   |none=>rw[e] at er;cases er
   |some row=>rw[e] at er;cases er;exact⟨row,rfl,rfl⟩
  have lz:=J2.length;rw[length_take,length_map] at lz;have ne:l≠D2:=λz=>by rw[z,hD2] at hl;cases hl
  refine⟨dU.1,dU.2,gB ?_⟩;refine⟨_,rfl,t,_,_,_,rfl,rfl,s2.seqT ht,rfl,?_⟩;refine⟨e2,bN (),hC _ _ ⟨s2.change hD2,aB,?_⟩⟩;have ee:(X.map iw).take (i+1)=(X.map iw).take i++[iw row]:=by rw[take_add_one,getElem?_map,erow];rfl
  rw[ee];exact(J2.app (.cons ne (s2 _ _ hl) .nil)).upd
 rintro zs2 H2 ⟨s2,e2,J2⟩;rw[lz1,show X.length=(X.map iw).length by simp,take_length] at J2;have sA:=s1.trans s2;have wid:∀i,i < X.length->((X.map iw).getD i []).length=X.length:=λi hi=>by
  have e:X[i]?=some (X.getD i []):=by rw[getD_eq_getElem?_getD,getElem?_eq_getElem hi];rfl
  rw[Ff hi,sK,hw _ (mem_of_getElem? e)]
 have bd0:=wx.w;have bits4:bw 640 X.length<=3300:=Nat.le_trans (Wn 640 x4) ∅;refine⟨_,rfl,g,us,rfl,.inl (sA.seq hU),D2,D2,zs2,X.map iw,X.length,X.length,640,λ_=>True,by rw[lu];rfl,SqL.of e2,J2,⋯,wid,Nat.le_refl _,(),bd0,(),(),(),trivial,⟨λ_ _ _ _ _ _ _ _ _ _=>trivial,λ_ _ _ _ _ _ _ _ _ _=>trivial⟩,λd lE zE R' rank pivot sign H3 s3 nd nl ed el IE SE bE bp _=>?_⟩;obtain⟨g1',g2',g3',g4'⟩:=xL ed;have sB:=sA.trans s3;obtain⟨A1,c1,B1,_⟩:=SE.bar;have rm:=B1.rm;clear B1;refine⟨_,rfl,d,_,rfl,g2',_,rfl,g,us,rfl,.inl (sB.seq hU),_,_,rfl,rfl,_,rfl,jX (λe=>?_) (λe=>?_)⟩
 ·have e':rank < X.length:=by simp at e;lia
  refine q Z.aN (0,1) H3 sB (fN H3) ⟨∅,∅⟩ ⟨Nat.two_pow_pos _,show (1:Nat) < 2 ^ 3400 from Nat.one_lt_two_pow ()⟩ ?_;rw[Sr xP hw SE e'];unfold Mq.val;simp;grind
 have e':rank=X.length:=by simp at e;lia
 subst e';refine⟨_,rfl,D1,rfl,⟨_,SqL.of ((s2.trans s3) _ _ e1)⟩,?_⟩;have W3:=W1.same (s2.trans s3);refine dX (xs:=zs1) (λi σ H'=>H'=H3/\i<=X.length/\Mq.B (1+640*i) (lT (X.take i))/\∃z,σ=[some (.ref g),some (.ref D1),some (.ref d),some (.int (lT (X.take i))),z]) ⟨rfl,Nat.zero_le _,show (1:Nat) < 2 ^ (1+640*0) by simp,none,rfl⟩ (λi σ H' _ h=>by rw[h.1];exact SqL.of ((s2.trans s3) _ _ e1)) ?_ ?_
 ·rintro i x σ H' hx ⟨rfl,hi,hb,z,rfl⟩;obtain⟨t,l,r,rfl,er,ht,hl⟩:=W3.get hx;obtain⟨row,erow,rfl⟩:∃row,X[i]?=some row/\r=wh row:=by
   rw[getElem?_map] at er
   cases e:X[i]? with
   |none=>rw[e] at er;cases er
   |some row=>rw[e] at er;cases er;exact⟨row,rfl,rfl⟩
  have hi':i < X.length:=(List.getElem?_eq_some_iff.mp erow).1;have mem:=mem_of_getElem? erow;refine⟨_,rfl,_,rfl,t,_,_,_,rfl,rfl,ht,rfl,cO hb (lB row mem) () () ?_⟩;refine⟨rfl,hi',?_,some (.ref t),?_⟩
  ·rw[oE erow];exact(hb.mul (lB row mem)).mono ()
  ·rw[oE erow];rfl
 rintro σ H' ⟨rfl,_,hb,z,rfl⟩;rw[lz1,take_length] at hb;rw[lz1,take_length];have b1:=oN xP X.length (Nat.le_refl _);rw[take_length] at b1;have sgB:Mq.B 1 sign:=by rcases SE.one with z | z<;>rw[z]<;>exact show (1:Nat) < 2 ^ 1 by decide
 refine⟨_,rfl,d,_,rfl,g4',_,rfl,d,_,rfl,g3',cO sgB bp () () ⟨_,rfl,_,_,1+640*X.length,rfl,(),hb,(),λa4 H4 s4 e4=>?_⟩⟩;have le:=pD (t:=sign*pivot) (show lT X≠0 by lia);exact q a4 _ H4 (sB.trans s4) (Fq.of e4) (hZ ()) ⟨((sgB.mul bp).le le.1).mono (),(hb.le le.2).mono ()⟩ (Oa xP hw SE)
theorem R59:FZ (CX1 Z.P Z.w) 8 Z.f59 Z.d59 ["net"] (Qq Z.c_Net Z.c_Held Z.K):=by
 refine F59.okX qt3 (λvs H Q E h=>?_) λcdv A outer s H vs Q E hr h=>?_
 ·obtain⟨_,_,_,_,rfl,_⟩:=h;rfl
 obtain⟨n,l,m,ds,rfl,nt,l20,eh,q⟩:=h;have r4:=hr.mono (show 4<=7 by lia);have r5:=hr.mono (show 5<=7 by lia);refine⟨_,(aD (bS (aH R54 r5 rfl m54 F54.kp b54 .nil (dA cK dC) (aA (pv 0) aC)))
  (aF (aV (aH Y58.G r4 rfl m58 F58.kp Y58.b .nil aM (aA (aT bL (aH Y43.G hr rfl m43 F43.kp Y43.b .nil aM (aA (pv 0) aC)) aG (λ_ _=>rfl)) aC))))),?_⟩
 refine⟨_,rfl,n,l,m,ds,rfl,nt,(),eh,λnh H1 s1=>?_⟩;obtain⟨ts,q⟩:=q nh;have m5:=ts.m5;refine⟨_,rfl,n,l,m,λ_=>31,ds,rfl,nt.same s1,λi d hd=>ts.r d (mem_of_getElem? hd),ts.m1,(),(),by rw[qd2];lia,λt pp rr us ys X Y H2 s2 et np nrr ep err fm FY nxs eq=>?_⟩;have e0:=Ro ts.h;have bx:=eq.x;rw[e0,Nat.add_zero] at bx;obtain⟨wx,ew⟩:=ql6 ts.p ts.l ts.m5 bx (λi j=>by rw[eq.vx];exact Jd _ _ m ts.h);refine⟨t,_,0,_,rfl,rfl,SqT.of et,rfl,pp,pp,us,X,rfl,SqL.of ep,Tg fm (λx hx=>(nxs x hx).1),wx,λa p H3 s3 fa lp bp vp=>?_⟩;exact q _ H3 (s1.trans (s2.trans s3))
theorem Y60:DZ 5 Z.f60 Z.d60 ["net"] (Ci Z.c_Net Z.K) "piece_numbers":=by
 refine⟨?_,F60.b1 _ (by intros;rfl),F60.kp,m60⟩
 refine F60.ok9 Yv λ_ _ _ s H _ Q E hr h=>?_;obtain⟨n,l,m,ds,rfl,nt,h100,q⟩:=h;have r1:=hr.mono (show 1<=4 by lia);refine⟨_,(aF (aV (dZ (nl:=2) (fr:=[]) (Nc:=["number","row"]) (cl:=[]) (g:=(Ef Z.K 2 (jA (iF 0) (jA (iF 1) Eh)))) rfl ⟨rfl,rfl,∅,∅,λx c h=>(by cases h),dR rfl,rfl,λi n h=>(by simp at h)⟩
    (rB rfl n_enumerate rfl (aA (dE (pv 0) NTx.cl X4 R30 hr b30 .nil aM) aC)) (λ_ _ _ _ _=>(iJ rfl (bZ (aZ (i:=0) oW rfl (Or.inl rfl)) (bZ (aZ (i:=1) oW rfl (Or.inl rfl)) gF)))) (λ_ _ _ _ _=>(jN (aY dP (gC (pv 1) T.cl mW GW r1 bW .nil aM) aX (bA _))))
    (λ_ _ _ _ _=>(pv 0))))),?_⟩
 obtain⟨dx,hn⟩:=nt.ob;refine⟨_,rfl,n,dx,_,rfl,hn,cY _ _ ∅ ∅,n,l,_,ds,rfl,nt,h100,λa xs H1 s1 na ea Rb=>?_⟩;have lxs:=Rb.length;refine⟨a,rfl,⟨_,SqL.of ea⟩,λD hD=>?_⟩;have sD:=aE hD (.lst []);refine sM (xs:=xs) (λi zs H'=>aS H1 H'/\H' D=some (.lst zs)/\zs=(zi (yK ds i)).map V.int) ⟨sD,aB,rfl⟩ (λi zs H' h=>h.2.1) (λi zs H' _ h=>h.1.seq (SqL.of ea)) ?_ ?_
 ·rintro i zs x H2 T2 hx ⟨s2,e2,ez⟩ hT C hC;have hi:i < ds.length:=by
   have:=(List.getElem?_eq_some_iff.mp hx).1;lia
  obtain⟨⟨k,u,v,p⟩,hd⟩:∃d,ds[i]?=some d:=⟨_,getElem?_eq_getElem hi⟩
  obtain⟨y,z',ey,rw,fz⟩:=Rb.at hd;have ex:x=.ref y:=by rw[ey] at hx;exact(Option.some.inj hx).symm
  subst ex;have ip:=wQ hd;have lz:zs.length<=100:=by rw[ez,length_map,pI];have:=Eo ds i;lia
  have sT:=aE hT (.tup [.int (i:Int),.ref y]);refine⟨T2,_,rfl,SqT.of aB,rfl,_,_,rfl,_,_,rfl,rfl,jL.1,jL.2,?_⟩;generalize upd H2 T2 (.tup [.int (i:Int),.ref y])=H3 at sT ⊢;obtain⟨dr,hy⟩:=id (rw.same (s2.trans sT));have e3:=sT _ _ e2;refine⟨_,rfl,k,y,dr,_,rfl,hy,(fM _ _ _ ∅ ∅ ∅),_,rfl,rfl,_,rfl,?_⟩
  by_cases hk:k=.pc
  ·refine L2.ifT (by show decide (V.str k.wd=V.str Kd.pc.wd)=true;rw[dY];exact decide_eq_true hk) ⟨_,rfl,e3,bN (),hC _ _ ⟨(s2.trans sT).change hD,aB,?_⟩⟩;rw[ez,El (by rw[ip];exact decide_eq_true hk),uJ,map_append];rfl
  ·refine L2.ifF (by show decide (V.str k.wd=V.str Kd.pc.wd)=false;rw[dY];exact decide_eq_false hk) (hC _ _ ⟨s2.trans sT,e3,?_⟩);rw[ez,Ja (by rw[ip,decide_eq_false hk];decide)]
 ·rintro zs H2 ⟨s2,e2,ez⟩;rw[lxs] at ez;exact q D H2 (s1.trans s2) (s1.free hD) (by rw[e2,ez];rfl)
theorem Y61:DZ 1 Z.f61 Z.d61 ["number","numbers"] (yA Z.K) "is_behind":=by
 refine⟨?_,F61.b2 _ _ (by intros;rfl),F61.kp,m61⟩
 refine F61.ok9 qp2 λ_ _ _ s H _ Q E hr h=>?_;obtain⟨n,a,ns,rfl,hS,q⟩:=h;refine⟨_,(aF (aV (qk7 (gH dP (bO bV rfl n_len PySem.boot_len (aA (pv 1) aC)) aG (bA _)) (pC (gH xU (pv 0) (aT bM (pv 1) (Ag sQ aG) (λ_ _=>rfl)) (bA _)))))),?_⟩;refine⟨_,rfl,a,_,rfl,.inl hS,rfl,_,rfl,?_⟩
 cases e:ns.getLast? with
 |none=>
  have e0:ns=[]:=getLast?_eq_none_iff.mp e;subst e0;exact L2.ifT rfl q
 |some b=>
  obtain⟨pre,rfl⟩:=getLast?_eq_some_iff.mp e;rw[Et] at q;refine L2.ifF (by rw[length_map,pI,List.length_append];simp;lia) ?_;refine⟨_,rfl,_,rfl,_,rfl,a,_,-1,.int (b:Int),rfl,rfl,hS,?_,_,_,rfl,rfl,?_⟩
  ·rw[uJ,map_append];exact Dw _ _
  ·have eq:decide ((b:Int) < (n:Int))=decide (b < n):=by simp
   rw[<- eq] at q;exact q
theorem Y62:DZ 6 Z.f62 Z.d62 ["net","found"] (xJ Z.c_Net Z.K) "larger_forests":=by
 refine⟨?_,F62.b2 _ _ (by intros;rfl),F62.kp,m62⟩
 refine F62.ok9 vO λcdv A outer s H vs Q E hr h=>?_;obtain⟨n,l,f,D0,m,ds,zs,F62,H0,rfl,NP,hf,FH,hF,h5,q⟩:=h;have r1:=hr.mono (show 1<=5 by lia);have r4:=hr.mono (show 4<=5 by lia);refine⟨_,(aD (aQ (i:=2) vO.nd rfl (Or.inl rfl) (dE (pv 0) NTx.cl X4 R30 r4 b30 .nil aM))
  (aD (aQ (i:=3) vO.nd rfl (Or.inl rfl) (d9 Y60 hr rfl (aA (pv 0) aC)))
  (aD (aQ (i:=4) vO.nd rfl (Or.inl rfl) (bU aC))
  (aD (dQ PassesOwn.never rfl (cE (pv 1)) (iJ rfl (bZ (aZ (i:=5) vO.nd rfl (Or.inl rfl)) (bZ (aZ (i:=6) vO.nd rfl (Or.inl rfl)) gF)))
   (aF (dQ PassesOwn.never rfl (cE (pv 3)) (aZ (i:=7) vO.nd rfl (Or.inl rfl))
   (aF (bX (PW.pt (kZ (fE (d9 Y61 r1 rfl (aA (pv 7) (aA (pv 5) aC)))) (iS (aY iX (aT bM (pv 6) (cS (aT bM (pv 2) (pv 7) (λ_ _=>rfl)) rfl) (λ_ _=>rfl)) (aT bM (pv 6) (cS (aT bM (pv 2) (pv 7) (λ_ _=>rfl)) rfl) (λ_ _=>rfl)) (bA _))))) (aF (bS (oU PySem.F.plainAttrs_list PySem.F.slot_list_append PySem.F.type_list_append eY (pv 4) (aA (cQ (aA (bB jS (pv 5) (bU (aA (pv 7) aC))) (aA (d9 Y31 r1 rfl (aA (pv 6) (aA (aT bM (pv 2) (pv 7) (λ_ _=>rfl)) aC))) aC))) aC)))) bC)))))
  (aF (aV (pv 4))))))),?_⟩
 obtain⟨dx,hn⟩:=NP.nt.ob;have h40:=NP.h;have hm20:=NP.m2;refine⟨_,rfl,n,dx,_,rfl,hn,cY _ _ ∅ ∅,n,l,_,ds,rfl,NP.nt,(),λa xs H1 s1 na ea Rb=>?_⟩;have lxs:=Rb.length;refine⟨_,rfl,n,l,_,ds,rfl,NP.nt.same s1,(),λpl H2 s2 nP eP=>?_⟩;have s02:=s1.trans s2;have pl40:(pcs ds).length<=40:=Nat.le_trans (Xq ds) h40;have pr:=qa8 NP.pt;refine⟨zl9 0,λL hL=>?_⟩;have s3:=aE hL (.lst []);have eL:upd H2 L (.lst []) L=some (.lst []):=aB;generalize upd H2 L (.lst [])=H3 at s3 eL ⊢;have s03:=s02.trans s3;have nL:H L=none:=s02.free hL;have fl:=Jt (sg:=sgF ds) (ps:=pcs ds);refine⟨_,rfl,f,rfl,⟨_,s03.seq hf⟩,?_⟩;refine dX (xs:=zs) (λi σ H'=>aS H H'/\aS H2 H'/\∃(zL:List V) (z5 z6 z7:Option V),σ=[some (.ref n),some (.ref f),some (.ref a),some (.ref pl),some (.ref L),z5,z6,z7]/\H' L=some (.lst zL)/\FsH Z.K H L H' zL ((F62.take i).flatMap (nV (sgF ds) (pcs ds)))) ⟨s03,s3,[],none,none,none,rfl,eL,.nil⟩ (λi σ H' _ h=>h.1.seq hf) ?_ ?_
 ·rintro i x σ H4 hx ⟨s4,s24,zL,z5,z6,z7,rfl,e4,F4⟩;have hi:i < F62.length:=by have:=(List.getElem?_eq_some_iff.mp hx).1;have:=FH.l;lia
  obtain⟨fo,hfo⟩:∃fo,F62[i]?=some fo:=⟨_,getElem?_eq_getElem hi⟩
  obtain⟨tt,A,Bm,rfl,hT,hA,hB,_,_,_⟩:=FH.r i x fo hx hfo;obtain⟨lm,l50⟩:=hF fo (mem_of_getElem? hfo);have fi:=fl (F62.take i);rw[length_take] at fi;have fi2:min i F62.length*(pcs ds).length<=100000*40:=Nat.mul_le_mul () pl40;refine⟨tt,_,rfl,s4.seqT hT,rfl,_,_,rfl,_,_,rfl,rfl,?_⟩;refine⟨_,rfl,pl,rfl,⟨_,s24.seq (SqL.of eP)⟩,?_⟩;refine dX (xs:=(zi (pcs ds)).map V.int) (λj σ H'=>aS H H'/\aS H2 H'/\∃(zL:List V) (z7:Option V),σ=[some (.ref n),some (.ref f),some (.ref a),some (.ref pl),some (.ref L),some (.ref A),some (.ref Bm),z7]/\H' L=some (.lst zL)/\FsH Z.K H L H' zL ((F62.take i).flatMap (nV (sgF ds) (pcs ds))++oX (sgF ds) (pcs ds) fo j)) ⟨s4,s24,zL,z7,rfl,e4,by show FsH Z.K H L H4 zL (_++[]);rw[append_nil];exact F4⟩ (λj σ H' _ h=>h.2.1.seq (SqL.of eP)) ?_ ?_
  ·clear F4 e4 s4 s24 z5 z6 z7;rintro j x σ H5 hx ⟨s5,s25,zL,z7,rfl,e5,F5⟩;have hj:j < (pcs ds).length:=by have:=(List.getElem?_eq_some_iff.mp hx).1;rw[length_map,pI] at this;exact this
   obtain⟨nb,hnb⟩:∃nb,(pcs ds)[j]?=some nb:=⟨_,getElem?_eq_getElem hj⟩
   have ex:x=.int (nb:Int):=by rw[getElem?_map,qb8 hnb] at hx;cases hx;rfl
   subst ex;obtain⟨⟨k0,u,v,p⟩,hd,_⟩:=Jh (mem_of_getElem? hnb);obtain⟨i0,i1,j0,j1⟩:dF (m:Int) u v:=NP.pt _ (mem_of_getElem? hd);have esg:=Dz hd;obtain⟨uN,rfl⟩:∃uN:Nat,u=(uN:Int):=⟨u.toNat,()⟩
   obtain⟨vN,rfl⟩:∃vN:Nat,v=(vN:Int):=⟨v.toNat,()⟩
   have esg:sgF ds nb=(uN,vN):=esg;obtain⟨y,z',ey,rw0,fz⟩:=Rb.at hd;have rw1:=rw0.same (s2.trans s25);obtain⟨dr,hy⟩:=id rw1;have ea5:=(s2.trans s25) _ _ ea;have gi:∀{q:Nat},q < fo.2.length->atI (fo.2.map V.int) (q:Int)=some (.int (fo.2.getD q 0)):=λh=>bQ (by rw[getElem?_map,getElem?_eq_getElem h,getD_eq_getElem?_getD,getElem?_eq_getElem h];rfl);have lz5:=F5.l;rw[List.length_append] at lz5;have le5:(oX (sgF ds) (pcs ds) fo j).length<=40:=by
    unfold oX nV;rw[length_map];refine Nat.le_trans (length_filter_le _ _) ?_;rw[length_take];lia
   have ok:okJ (sgF ds) fo.2 nb=decide (fo.2.getD uN 0≠fo.2.getD vN 0):=by unfold okJ;rw[esg]
   refine⟨_,rfl,_,rfl,nb,A,fo.1,rfl,SqL.of (s5 _ _ hA),⟨_,rfl,?_⟩⟩
   by_cases hb:iM nb fo.1=true
   ·refine L2.ifT hb ?_;refine⟨_,rfl,_,rfl,_,rfl,a,xs,_,_,rfl,rfl,SqL.of ea5,bQ ey,y,(kd3 Z.c_Piece Z.c_Push Z.c_Hold) _,_,_,_,rfl,hy,T.cl _,T.nS _,dS _ _ _,Bm,_,_,_,rfl,rfl,SqL.of (s5 _ _ hB),gi (show uN < fo.2.length by lia),?_⟩;refine⟨_,rfl,_,rfl,_,rfl,a,xs,_,_,rfl,rfl,SqL.of ea5,bQ ey,y,(kd3 Z.c_Piece Z.c_Push Z.c_Hold) _,_,_,_,rfl,hy,T.cl _,T.nG _,eQ _ _ _,Bm,_,_,_,rfl,rfl,SqL.of (s5 _ _ hB),gi (show vN < fo.2.length by lia),rfl,_,rfl,?_⟩
    by_cases ho:fo.2.getD uN 0=fo.2.getD vN 0
    ·refine L2.ifF (by rw[ho];simp) ?_;refine⟨s5,s25,zL,_,rfl,e5,?_⟩;rw[De hnb (by rw[ok,decide_eq_false (λz=>z ho),Bool.and_false];decide)];exact F5
    ·refine L2.ifT (by rw[decide_eq_false (λz=>ho (by injection z))];rfl) ?_;refine⟨_,rfl,.inl ⟨rfl,_,SqL.of e5⟩,_,rfl,_,rfl,(zl9 1),λL1 hL1=>?_⟩;have s6:=aE hL1 (.lst [.int (nb:Int)]);have e6:upd H5 L1 (.lst [.int (nb:Int)]) L1=some (.lst [.int (nb:Int)]):=aB;generalize upd H5 L1 (.lst [.int (nb:Int)])=H6 at s6 e6 ⊢;have hA6:=s6 _ _ (s5 _ _ hA);refine⟨A,L1,_,_,rfl,rfl,hA6,e6,Nat.le_of_lt (uG (by rw[length_map,pI];simp only[length_cons,length_nil];lia)),λA2 hA2=>?_⟩;have eA:(zi fo.1).map V.int++[V.int (nb:Int)]=(zi (fo.1++[nb])).map V.int:=by rw[uJ,map_append];rfl
     rw[eA];have s7:=aE hA2 (.lst ((zi (fo.1++[nb])).map V.int));have e7:upd H6 A2 (.lst ((zi (fo.1++[nb])).map V.int)) A2=some (.lst ((zi (fo.1++[nb])).map V.int)):=aB;generalize upd H6 A2 (.lst ((zi (fo.1++[nb])).map V.int))=H7 at s7 e7 ⊢;have s57:=s6.trans s7;refine⟨_,rfl,_,rfl,_,rfl,a,xs,_,_,rfl,rfl,SqL.of (s57 _ _ ea5),bQ ey,Bm,y,fo.2,k0,uN,vN,.ref z',rfl,SqL.of ((s5.trans s57) _ _ hB),rw1.same s57,(),(),(),λB2 H8 s8 n8 e8=>⟨(zl9 2),λt2 ht2=>?_⟩⟩;have s9:=aE ht2 (.tup [.ref A2,.ref B2]);have e9:upd H8 t2 (.tup [.ref A2,.ref B2]) t2=some (.tup [.ref A2,.ref B2]):=aB;generalize upd H8 t2 (.tup [.ref A2,.ref B2])=H9 at s9 e9 ⊢;have s59:=s57.trans (s8.trans s9);have e59:=s59 _ _ e5;refine⟨L,zL,_,rfl,rfl,e59,uG (),?_⟩;have nA:A2≠L:=λz=>by rw[z,s6 _ _ e5] at hA2;cases hA2
     have nB:B2≠L:=λz=>by rw[z,s57 _ _ e5] at n8;cases n8
     have nA0:H A2=none:=(s5.trans s6).free hA2;refine⟨(s5.trans s59).change nL,(s25.trans s59).change hL,_,_,rfl,aB,?_⟩;rw[Mr hnb (by rw[hb,ok,decide_eq_true ho];rfl),<- List.append_assoc];have ej:jnN (sgF ds) fo.2 nb=jn fo.2 uN vN:=by unfold jnN;rw[esg]
     refine FsH.upd (FsH.snoc (F5.same s59) (SqT.of e9) ((s8.trans s9) _ _ e7) ?_ nA0 nA nB) e59;show H9 B2=some (.lst ((jnN (sgF ds) fo.2 nb).map V.int));rw[ej];exact s9 _ _ e8
   ·refine L2.ifF (by simpa using hb) (gQ ?_);refine⟨s5,s25,zL,_,rfl,e5,?_⟩;rw[De hnb (by rw[show iM nb fo.1=false by simpa using hb,Bool.false_and];decide)];exact F5
  ·rintro σ H5 ⟨s5,s25,zL,z7,rfl,e5,F5⟩;refine⟨s5,s25,zL,_,_,_,rfl,e5,?_⟩;rw[length_map,pI] at F5;unfold oX at F5;rw[take_length] at F5;rw[take_add_one,hfo,flatMap_append];show FsH Z.K H L H5 zL (_++(nV _ _ fo++[]));rw[append_nil];exact F5
 ·rintro σ H4 ⟨s4,s24,zL,z5,z6,z7,rfl,e4,F4⟩;rw[FH.l,take_length] at F4;exact⟨_,rfl,q L zL H4 s4 e4 F4⟩
theorem Y63:DZ 7 Z.f63 Z.d63 ["net","size"] (oM Z.c_Net Z.K) "forests":=by
 refine⟨?_,F63.b2 _ _ (by intros;rfl),F63.kp,m63⟩
 refine F63.ok9 Ao λ_ A _ s H _ Q E hr h=>?_;obtain⟨n,l,m,t,sz,ds,rfl,ht,s0,s4,NP,p12,q⟩:=h;have r1:=hr.mono (show 1<=6 by lia);have hm20:=NP.m2;obtain⟨dx,hn⟩:=NP.nt.ob;refine⟨_,(aD (aQ (i:=2) Ao.nd rfl (Or.inl rfl) (bU (aA (cQ (aA (bU aC) (aA (iT rfl rfl n_list rfl n_range (aA (dE (pv 0) NTx.cl X3 R28 r1 b28 .nil aM) aC)) aC))) aC)))
  (aD (dQ PassesOwn.never rfl (eZ rfl n_range (aA (pv 1) aC)) (aZ (i:=3) Ao.nd rfl (Or.inl rfl))
   (aF (aQ (i:=2) Ao.nd rfl (Or.inl rfl) (d9 Y62 hr rfl (aA (pv 0) (aA (pv 2) aC))))))
  (aF (aV (pv 2))))),?_⟩
 refine⟨zl9 0,λA hA=>?_⟩;have s1:=aE hA (.lst []);have e1:upd H A (.lst []) A=some (.lst []):=aB;generalize upd H A (.lst [])=H1 at s1 e1 ⊢;refine⟨_,rfl,n,dx,_,rfl,s1 _ _ hn,cY _ _ ∅ ∅,n,l,_,ds,rfl,NP.nt.same s1,m,rfl,(),λB hB=>?_⟩;have s2:=aE hB (.lst ((List.range m).map λ(i:Nat)=>V.int (i:Int)));have e2:upd H1 B (.lst ((List.range m).map λ(i:Nat)=>V.int (i:Int))) B=some (.lst ((pK m).map V.int)):=by
  rw[aB];show some (HO.lst _)=some (HO.lst ((pK m).map V.int));unfold pK;rw[map_map];rfl
 generalize upd H1 B (.lst ((List.range m).map λ(i:Nat)=>V.int (i:Int)))=H2 at s2 e2 ⊢;refine⟨(zl9 2),λtt htt=>?_⟩;have s3:=aE htt (.tup [.ref A,.ref B]);have e3:upd H2 tt (.tup [.ref A,.ref B]) tt=some (.tup [.ref A,.ref B]):=aB;generalize upd H2 tt (.tup [.ref A,.ref B])=H3 at s3 e3 ⊢;refine⟨(zl9 1),λL hL=>?_⟩;have s4':=aE hL (.lst [.ref tt]);have e4:upd H3 L (.lst [.ref tt]) L=some (.lst [.ref tt]):=aB;generalize upd H3 L (.lst [.ref tt])=H4 at s4' e4 ⊢;have s04:=s1.trans (s2.trans (s3.trans s4'));have nAL:A≠L:=λz=>by rw[<- z,(s2.trans s3) _ _ e1] at hL;cases hL
 have nBL:B≠L:=λz=>by rw[<- z,s3 _ _ e2] at hL;cases hL
 have F0:FsH Z.K H L H4 [.ref tt] (pH (sgF ds) (pcs ds) m 0):=FsH.snoc (F:=[]) (f':=([],pK m)) .nil (s4'.seqT (SqT.of e3)) ((s2.trans (s3.trans s4')) _ _ e1) ((s3.trans s4') _ _ e2) hA nAL nBL;refine⟨_,rfl,sz,rfl,(),(),?_⟩;rw[<- ht];refine gU (lo:=0) (n:=t) (λi σ H'=>aS H H'/\∃(f D:Addr) (zs:List V) (z3:Option V),σ=[some (.ref n),some (.int sz),some (.ref f),z3]/\H' f=some (.lst zs)/\FsH Z.K H D H' zs (pH (sgF ds) (pcs ds) m i)) ⟨s04,L,L,_,none,rfl,e4,F0⟩ ?_ ?_
 ·rintro i σ H5 hi ⟨s5,f,D,zs,z3,rfl,e5,F5⟩;have fl:=Ba (sg:=sgF ds) (m:=m) (t:=i) p12 ();refine⟨_,rfl,_,rfl,n,l,f,D,m,ds,zs,_,H,rfl,NP.same s5,SqL.of e5,F5,λx hx=>?_,(),λf' zs' H6 s6 e6 F6=>?_⟩
  ·have F63:=Ic hx;exact⟨by rw[F63.e,Rp],by rw[F63.l];lia⟩
  ·exact⟨s5.trans s6,f',f',zs',_,rfl,e6,F6.from0 λa h=>s5.free h⟩
 ·rintro σ H5 ⟨s5,f,D,zs,z3,rfl,e5,F5⟩;exact⟨_,rfl,q f zs D H5 s5 e5 F5⟩
theorem R64:FZ (CX1 Z.P Z.w) 6 Z.f64 Z.d64 ["net"] (Ah Z.c_Net Z.c_TooMany Z.K):=by
 refine F64.okX qo9 (λvs H Q E h=>?_) λcdv A outer s H vs Q E hr h=>?_
 ·obtain⟨_,_,_,_,rfl,_⟩:=h;rfl
 obtain⟨n,l,m,ds,rfl,nt,h100,et,q⟩:=h;refine⟨_,(aF (bX (aY xU (bO bV rfl n_len PySem.boot_len (aA (d9 Y60 hr rfl (aA (pv 0) aC)) aC)) (dG (v:=.int 12) rfl mv_MOST_PIECES ⟨_,rfl⟩) (bA _)) (aF (vA cK dC rfl rfl mc_TooMany x1_TooMany (aA aX aC))) bC)),?_⟩;refine⟨_,rfl,n,l,m,ds,rfl,nt,h100,λl' H1 s1 nl el=>?_⟩;refine⟨l',_,rfl,.inl (SqL.of el),_,_,rfl,rfl,_,rfl,?_⟩;have e:((zi (pcs ds)).map V.int).length=(pcs ds).length:=by rw[length_map,pI]
 by_cases c:12 < (pcs ds).length
 ·refine L2.ifT (decide_eq_true (by rw[e];lia)) ⟨zl9 1,et c _ s1⟩
 ·refine L2.ifF (decide_eq_false (by rw[e];lia)) ?_;exact q () _ s1
theorem R65:FZ (CX1 Z.P Z.w) 8 Z.f65 Z.d65 ["net"] (wD Z.c_Net Z.c_Held Z.c_TooMany Z.K):=by
 refine F65.okX Xb (λvs H Q E h=>?_) λcdv A outer s H vs Q E hr h=>?_
 ·obtain⟨_,_,_,_,rfl,_⟩:=h;rfl
 obtain⟨n,l,m,ds,rfl,NP,hm5,eh,q⟩:=h;have r1:=hr.mono (show 1<=7 by lia);have r5:=hr.mono (show 5<=7 by lia);have r6:=hr.mono (show 6<=7 by lia);have h40:=NP.h;have hm1:=NP.m1;refine⟨_,(aD (bS (aH R54 r5 rfl m54 F54.kp b54 .nil (dA cK dC) (aA (pv 0) aC)))
  (aD (bS (aH R64 r6 rfl m64 F64.kp b64 .nil (dA cK dC) (aA (pv 0) aC)))
  (aF (aV (dZ (nl:=1) (fr:=[]) (Nc:=["forest"]) (cl:=[]) rfl ⟨rfl,rfl,∅,∅,λx c h=>(by cases h),dR rfl,rfl,λi n h=>(by simp at h)⟩
    (cE (aH Y63.G hr rfl m63 F63.kp Y63.b .nil aM (aA (pv 0) (aA (bB lU (dE (pv 0) NTx.cl X3 R28 r1 b28 .nil aM) aG) aC)))) (λ_ _ _ _ _=>(aZ (i:=0) Na rfl (Or.inl rfl))) (λ_ _ _ _ _=>eX)
    (λ_ _ _ _ _=>(aT (gP (K:=Z.K) rfl) (pv 0) aG (λ_ _=>rfl)))))))),?_⟩
 refine⟨_,rfl,n,l,_,ds,rfl,NP.nt,(),eh,λnh H1 s1=>?_⟩;obtain⟨et,q⟩:=q nh;refine⟨_,rfl,n,l,_,ds,rfl,NP.nt.same s1,(),et.same s1,λp12 H2 s2=>?_⟩;have q:=q p12;have s02:=s1.trans s2;obtain⟨dx,hn⟩:=(NP.nt.same s02).ob;refine⟨_,rfl,_,rfl,n,dx,_,rfl,hn,cY _ _ ∅ ∅,n,l,_,ds,rfl,NP.nt.same s02,_,_,rfl,rfl,n,l,m,m - 1,_,ds,rfl,(),(),(),NP.same s02,p12,λf zs D0 H3 s3 e3 F3=>?_⟩;have s03:=s02.trans s3;have fl:=Ba (sg:=sgF ds) (m:=m) (t:=m - 1) p12 ();have lf:=F3.l;refine⟨f,rfl,⟨_,SqL.of e3⟩,λD hD=>?_⟩;have sD:=aE hD (.lst []);refine dL (xs:=zs) (λi us H'=>aS H3 H'/\H' D=some (.lst us)/\us.length<=i) ⟨sD,aB,Nat.le_refl _⟩ (λi us H' h=>h.2.1) (λi us H' _ h=>h.1.seq (SqL.of e3)) ?_ ?_
 ·rintro i us x H4 hx ⟨s4,e4,lz⟩ C hC;have hi:i < (pH (sgF ds) (pcs ds) m (m - 1)).length:=by have:=(List.getElem?_eq_some_iff.mp hx).1;lia
  obtain⟨fo,hfo⟩:∃fo,(pH (sgF ds) (pcs ds) m (m - 1))[i]?=some fo:=⟨_,getElem?_eq_getElem hi⟩
  obtain⟨tt,A,Bm,rfl,hT,hA,hB,nA,_,_⟩:=F3.r i x fo hx hfo;refine⟨dU.1,dU.2,gB ?_⟩;refine⟨_,rfl,tt,_,_,_,rfl,rfl,s4.seqT hT,rfl,?_⟩;refine⟨e4,uG (),hC _ _ ⟨s4.change hD,aB,by rw[List.length_append,length_singleton];lia⟩⟩
 ·rintro us H4 ⟨s4,e4,_⟩;exact q _ H4 (s03.trans s4)
theorem R66:FZ (CX1 Z.P Z.w) 8 Z.f66 Z.d66 ["net","a","b"] (Bx Z.c_Net Z.c_NoPoint Z.c_Held Z.c_TooMany Z.K):=Sg F66 NTx R28 b28 ⟨a28_0,i28,F28.kp⟩ R54 b54 F54.kp m54 R64 b64 F64.kp m64 Y63.G Y63.b F63.kp m63 R26 b26 F26.kp m26
theorem Y67:DZ 1 Z.f67 Z.d67 ["_law_script","_law_k"] (Cm Z.K) "_law_draw":=by
 refine⟨?_,F67.b2 _ _ (by intros;rfl),F67.kp,m67⟩
 refine F67.ok9 Op λ_ _ _ s H _ Q E hr h=>?_;obtain⟨a,ns,j,k,rfl,hj,hS,h63,q⟩:=h;have hu:=hr.units;refine⟨_,(aD (aQ (i:=2) Op.nd rfl (Or.inl rfl) (jG kY (pv 0) (iV (pv 1)) (iV (bB gD (pv 1) aG))))
  (aD (bX (aY (sZ hu) (pv 2) (bU aC) (bA _)) (aF (aV aG)) bC)
  (aF (aV (aT bM (pv 2) aG (λ_ _=>rfl)))))),?_⟩
 refine⟨_,rfl,_,rfl,j,rfl,_,rfl,_,_,rfl,rfl,j+1,rfl,a,_,rfl,hS,λl hl=>?_⟩;have s1:=aE hl (.lst (mB (ns.map V.int) (some j) (some (j+1))));have e1:upd H l (.lst (mB (ns.map V.int) (some j) (some (j+1)))) l=some (.lst (mB (ns.map V.int) (some j) (some (j+1)))):=aB;obtain⟨ms,em,lm⟩:=To ns (some j) (some (j+1));rw[em] at e1 s1 ⊢;generalize upd H l (.lst (ms.map V.int))=H1 at e1 s1 ⊢;refine⟨_,rfl,zl9 0,λe he=>?_⟩;have s2:=aE he (.lst []);refine xR (s2.seq (SqL.of e1)) (SqL.of aB) ⟨_,rfl,?_⟩;rcases ms with _ | ⟨m,ms⟩
 ·exact gB (q 0 _ (s1.trans s2))
 ·refine gQ ⟨_,rfl,l,_,_,_,rfl,rfl,s2.seq (SqL.of e1),bQ (j:=0) rfl,q m _ (s1.trans s2)⟩
theorem Y68:DZ 1 Z.f68 Z.d68 ["_law_cell","_law_turn","_law_many"] Je "_law_mix":=by
 refine⟨?_,F68.b3 _ _ _ (by intros;rfl),F68.kp,m68⟩
 refine F68.ok9 xK λ_ _ _ s H _ Q E hr h=>?_;obtain⟨c,t,m,rfl,h0,h9,hm,q⟩:=h;rw[qo6];obtain⟨q1,q2,q3,q4,q5,l1,e1,eo1⟩:=qc1;obtain⟨r1,r2,r3,r4,r5,l2,e2,eo2⟩:=qe1;rw[e1,e2];refine⟨_,(aD (bX (aY dP (bB wL (pv 0) aG) aG (bA _)) (aD (aQ (i:=3) xK.nd rfl (Or.inl rfl) (bB qD (pv 0) aG))
  (aD (dQ PassesOwn.never rfl (eZ rfl n_range (aA (pv 1) aC)) (aZ (i:=4) xK.nd rfl (Or.inl rfl))
   (aF (aQ (i:=3) xK.nd rfl (Or.inl rfl) (bB qD (pv 3) (bB Hw aG aG)))))
  (aF (aV (bB qZ (pv 3) (pv 2)))))) bC)
  (aD (aQ (i:=5) xK.nd rfl (Or.inl rfl) (aT bM (bU (Bb _ l1)) (pv 1) (λ_ _=>rfl)))
  (aD (aQ (i:=6) xK.nd rfl (Or.inl rfl) (aT bM (bU (Bb _ l2)) (pv 1) (λ_ _=>rfl)))
  (aD (aQ (i:=7) xK.nd rfl (Or.inl rfl) (bB wL (pv 0) aG))
  (aF (aV (bB qZ (bB qD (bB qZ (bB gD (bB gD (bB cN (bB wK aG (pv 7)) (pv 7)) (bB cN (pv 5) (pv 7))) (bB wK aG (bB gD (pv 1) aG))) (pv 6)) aG) (pv 2)))))))),?_⟩
 rw[eo1,eo2];have hf:∀u:Int,0<=u.fmod m/\u.fmod m < m:=λu=>⟨Int.fmod_nonneg_of_pos u hm,Int.fmod_lt_of_pos u hm⟩
 have m0:m≠0:=by lia
 refine⟨_,rfl,_,_,rfl,rfl,(show (0:Int) < 2 by decide),rfl,_,rfl,jX (λ_=>?_) (λ_=>?_)⟩
 ·refine⟨_,rfl,_,_,rfl,rfl,⟨∅,∅⟩,?_⟩;refine⟨_,rfl,t,rfl,(),(),?_⟩;refine gU (n:=t.toNat) (λi σ H'=>H'=H/\∃u z,σ=[some (.int c),some (.int t),some (.int m),some (.int u),z,none,none,none]) ⟨rfl,_,none,rfl⟩ ?_ ?_
  ·rintro i σ H' hi ⟨rfl,u,z,rfl⟩;exact⟨_,rfl,_,_,rfl,rfl,⟨∅,∅,∅⟩,_,_,rfl,rfl,⟨∅,∅⟩,rfl,_,_,rfl⟩
  ·rintro σ H' ⟨rfl,u,z,rfl⟩;exact⟨_,rfl,_,rfl,_,_,rfl,rfl,m0,q _ _ (hf u).1 (hf u).2 (aS.refl _)⟩
 ·refine⟨zl9 10,λl1 hl1=>?_⟩;obtain⟨by_,eb,b1,b2⟩:=qk9 (a0:=48271) (a1:=69621) (a2:=16807) (a3:=40692) (a4:=39373) (a5:=30269) (a6:=27183) (a7:=60013) (a8:=51749) (a9:=35969) ∅ ∅ h0 h9;have s1:=aE hl1 (.lst (l48.map V.int));have g1:upd H l1 (.lst (l48.map V.int)) l1=some (.lst (l48.map V.int)):=aB;generalize upd H l1 (.lst (l48.map V.int))=H1 at s1 g1 ⊢;refine⟨_,rfl,l1,_,_,_,rfl,rfl,SqL.of g1,eb,?_⟩;refine⟨zl9 10,λl2 hl2=>?_⟩;obtain⟨pr,ep,p1,p2⟩:=qk9 (a0:=999983) (a1:=999979) (a2:=999961) (a3:=999959) (a4:=999953) (a5:=999931) (a6:=999917) (a7:=999907) (a8:=999883) (a9:=999863) ∅ ∅ h0 h9;have s2:=aE hl2 (.lst (l99.map V.int));have g2:upd H1 l2 (.lst (l99.map V.int)) l2=some (.lst (l99.map V.int)):=aB;generalize upd H1 l2 (.lst (l99.map V.int))=H2 at s2 g2 ⊢;refine⟨_,rfl,l2,_,_,_,rfl,rfl,SqL.of g2,ep,?_⟩;refine⟨_,rfl,_,_,rfl,rfl,(show (0:Int) < 2147483647 by decide),?_⟩;have x1:=Int.emod_nonneg c (show (2147483647:Int)≠0 by decide);have x2:=Int.emod_lt_of_pos c (show (0:Int) < 2147483647 by decide);generalize c % 2147483647=x at x1 x2 ⊢;refine⟨_,rfl,_,_,rfl,rfl,Or.inl ⟨∅,∅⟩,_,rfl,cO (n:=40) (m:=40) (Eu () ()) (Eu () ()) () () ?_⟩;refine⟨_,rfl,_,rfl,cO (n:=40) (m:=40) (Eu () ()) (Eu () ()) () () ⟨_,_,rfl,rfl,?_⟩⟩;refine⟨_,rfl,_,_,rfl,rfl,_,_,rfl,rfl,Or.inl ⟨∅,∅⟩,_,_,rfl,rfl,_,rfl,_,_,rfl,rfl,(),_,_,rfl,rfl,⟨∅,∅⟩,_,rfl,_,_,rfl,rfl,m0,?_⟩;exact q _ _ (hf _).1 (hf _).2 (s1.trans s2)
theorem Y69:DZ 1 Z.f69 Z.d69 ["_law_cell","_law_k"] Fo "_law_part":=by
 refine⟨?_,F69.b2 _ _ (by intros;rfl),F69.kp,m69⟩
 refine F69.ok9 By λ_ _ _ s H _ Q E hr h=>?_;obtain⟨c,k,rfl,h0,h9,q⟩:=h;refine⟨_,(aD (bX (aY dP (bB wL (pv 0) aG) aG (bA _)) (aF (aV (bB gD (bB wL (pv 0) (bB Hw aG aG)) (bB cN (bB wK aG (pv 1)) (pv 1))))) bC)
  (aD (aQ (i:=2) By.nd rfl (Or.inl rfl) (bB qD (pv 0) aG))
  (aD (dQ PassesOwn.never rfl (eZ rfl n_range (aA (bB wK aG (pv 1)) aC)) (aZ (i:=3) By.nd rfl (Or.inl rfl))
   (aF (aQ (i:=2) By.nd rfl (Or.inl rfl) (bB qD (pv 2) (bB Hw aG aG)))))
  (aF (aV (bB gD (bB wK aG (pv 2)) aG)))))),?_⟩
 refine⟨_,rfl,_,_,rfl,rfl,(show (0:Int) < 2 by decide),rfl,_,rfl,jX (λ_=>?_) (λ_=>?_)⟩
 ·refine⟨_,rfl,_,_,rfl,rfl,⟨∅,∅,∅⟩,_,_,rfl,rfl,(show (0:Int) < 10 ^ (15:Int).toNat by decide),?_⟩;refine⟨_,rfl,_,_,rfl,rfl,Or.inl ⟨∅,∅⟩,_,rfl,cO (n:=40) (m:=40) (Eu () ()) (Eu () ()) () () ⟨_,_,rfl,rfl,q _⟩⟩
 ·refine⟨_,rfl,_,_,rfl,rfl,⟨∅,∅⟩,?_⟩;refine⟨_,rfl,_,_,rfl,rfl,Or.inl ⟨∅,∅⟩,_,rfl,(),(),?_⟩;refine gU (n:=(12*k).toNat) (λi σ H'=>H'=H/\∃u z,σ=[some (.int c),some (.int k),some (.int u),z]) ⟨rfl,_,none,rfl⟩ ?_ ?_
  ·rintro i σ H' hi ⟨rfl,u,z,rfl⟩;exact⟨_,rfl,_,_,rfl,rfl,⟨∅,∅,∅⟩,_,_,rfl,rfl,⟨∅,∅⟩,rfl,_,_,rfl⟩
  ·rintro σ H' ⟨rfl,u,z,rfl⟩;exact⟨_,rfl,_,_,rfl,rfl,Or.inl ⟨∅,∅⟩,_,_,rfl,rfl,q _⟩
theorem Y70:DZ 1 Z.f70 Z.d70 ["_law_top","_law_bottom"] hJ "_law_lowest":=by
 refine⟨?_,F70.b2 _ _ (by intros;rfl),F70.kp,m70⟩
 refine F70.ok9 pX λ_ _ _ s H _ Q E hr h=>?_;obtain⟨t,b',n,rfl,hb,hB,hn,q⟩:=h;refine⟨_,(aD (Sy (i:=2) (j:=3) rfl pX.nd rfl rfl ∅ rfl rfl (aA (bO xY rfl bl.abs PyProof.Rows.boot_abs (aA (pv 0) aC)) (aA (bO xY rfl bl.abs PyProof.Rows.boot_abs (aA (pv 1) aC)) aC)) rfl)
  (aD (xW PassesOwn.never (aY iX (pv 3) aG (bA _)) (aF (Sy (i:=2) (j:=3) rfl pX.nd rfl rfl ∅ rfl rfl (aA (pv 3) (aA (bB qZ (pv 2) (pv 3)) aC)) rfl)))
  (aD (bX (aY wU (pv 1) aG (bA _)) (aF (aQ (i:=2) pX.nd rfl (Or.inl rfl) (bB lU aG (pv 2)))) bC)
  (aF (aV (cQ (aA (bB jC (pv 0) (pv 2)) (aA (bB jC (pv 1) (pv 2)) aC)))))))),?_⟩
 refine⟨_,rfl,_,rfl,_,rfl,_,rfl,_,_,rfl,?_⟩;have g0:=Mq.qb2 t b';have n0:0<=(if t < 0 then -t else t):=by split<;>lia
 have n1:0<=(if b' < 0 then -b' else b'):=by split<;>lia
 generalize (if t < 0 then -t else t)=x' at *
 generalize (if b' < 0 then -b' else b')=y' at *
 have hd:=rY (t:=t) hb;have hdB:Mq.B n (dvr t b'):=hB.le (Gi hb);refine xE (λσ H'=>H'=H/\∃u v,σ=[some (.int t),some (.int b'),some (.int u),some (.int v)]/\gc u v=gc t b'/\0<=u/\0<=v) (λσ _=>match σ with | [_,_,_,some (.int v)]=>v.natAbs | _=>0) ⟨rfl,x',y',rfl,g0,n0,n1⟩ ?_ ?_
 ·rintro σ H' ⟨rfl,u,v,rfl,e,hu,hv0⟩;refine⟨_,rfl,rfl,_,rfl,?_⟩;refine jX (λc=>?_) (λc=>?_)
  ·have hv:v≠0:=by intro q;subst q;simp at c
   refine⟨_,rfl,_,rfl,_,rfl,_,_,rfl,rfl,hv,_,_,rfl,⟨rfl,v,Int.fmod u v,rfl,(Ko u v).trans e,hv0,Int.fmod_nonneg_of_pos u ()⟩,zD hv⟩
  ·have hv:v=0:=by
    simp at c;exact c
   subst hv;have eu:u=gc t b':=by rw[<- e,Ka,if_neg ()]
   subst eu;refine⟨_,rfl,_,_,rfl,rfl,_,rfl,jX (λc=>?_) (λc=>?_)⟩
   ·have hlt:b' < 0:=of_decide_eq_true c;have e:dvr t b'=0 - gc t b':=by unfold dvr;rw[if_pos hlt];lia
    rw[e] at hd hdB;have q':Ha H' Q (t.fdiv (0 - gc t b'),b'.fdiv (0 - gc t b')):=by
     have z:=q;unfold red at z;rw[e] at z;exact z
    refine⟨_,rfl,_,_,rfl,rfl,?_⟩;refine⟨_,rfl,_,rfl,gA hd hdB hn ⟨_,rfl,_,rfl,gA hd hdB hn ⟨zl9 2,λp hp=>?_⟩⟩⟩;exact q' p _ (aE hp _) aB
   ·have hlt:¬b' < 0:=λz=>c (decide_eq_true z);have e:dvr t b'=gc t b':=by unfold dvr;rw[if_neg hlt]
    rw[e] at hd hdB;have q':Ha H' Q (t.fdiv (gc t b'),b'.fdiv (gc t b')):=by
     have z:=q;unfold red at z;rw[e] at z;exact z
    refine⟨_,rfl,_,rfl,gA hd hdB hn ⟨_,rfl,_,rfl,gA hd hdB hn ⟨zl9 2,λp hp=>?_⟩⟩⟩;exact q' p _ (aE hp _) aB
 ·rintro σ H Q Q' m ⟨v,h1,h2,k,h3,h4⟩;exact⟨v,h1,h2,k,h3,m _ _ h4⟩
theorem Y71:DZ 2 Z.f71 Z.d71 ["_law_one","_law_other"] (iG Z.K Mq.jJ) "_law_plus":=by
 refine⟨?_,F71.b2 _ _ (by intros;rfl),F71.kp,m71⟩
 refine F71.ok9 Vt λ_ _ _ s H _ Q E hr h=>?_;obtain⟨a,b,p,q,n,m,rfl,fa,fb,hp,hq,bp,bq,hnm,z⟩:=h;refine⟨_,(aF (aV (d9 Y70 hr rfl (aA (bB gD (bB cN (aT bL (pv 0) aG (λ_ _=>rfl)) (aT bL (pv 1) aG (λ_ _=>rfl))) (bB cN (aT bL (pv 1) aG (λ_ _=>rfl)) (aT bL (pv 0) aG (λ_ _=>rfl)))) (aA (bB cN (aT bL (pv 0) aG (λ_ _=>rfl)) (aT bL (pv 1) aG (λ_ _=>rfl))) aC))))),?_⟩;refine fA rfl fa (cT rfl fb (cO bp.a bq.b () () ?_));refine fA rfl fb (cT rfl fa (cO bq.a bp.b () () ⟨_,_,rfl,rfl,?_⟩));refine cT rfl fa (cT rfl fb (cO bp.b bq.b () () ?_));exact⟨_,_,n+m,rfl,gO hp hq,bp.b.mul bq.b,(),z⟩
theorem Y72:DZ 2 Z.f72 Z.d72 ["_law_one","_law_other"] (iG Z.K Mq.minus) "_law_less":=by
 refine⟨?_,F72.b2 _ _ (by intros;rfl),F72.kp,m72⟩
 refine F72.ok9 Xf λcdv A outer s H vs Q E hr h=>?_;obtain⟨a,b,p,q,n,m,rfl,fa,fb,hp,hq,bp,bq,hnm,z⟩:=h;refine⟨_,(aF (aV (d9 Y70 hr rfl (aA (bB lU (bB cN (aT bL (pv 0) aG (λ_ _=>rfl)) (aT bL (pv 1) aG (λ_ _=>rfl))) (bB cN (aT bL (pv 1) aG (λ_ _=>rfl)) (aT bL (pv 0) aG (λ_ _=>rfl)))) (aA (bB cN (aT bL (pv 0) aG (λ_ _=>rfl)) (aT bL (pv 1) aG (λ_ _=>rfl))) aC))))),?_⟩;refine fA rfl fa (cT rfl fb (cO bp.a bq.b () () ?_));refine fA rfl fb (cT rfl fa (cO bq.a bp.b () () ⟨_,_,rfl,rfl,?_⟩));refine cT rfl fa (cT rfl fb (cO bp.b bq.b () () ?_));exact⟨_,_,n+m,rfl,gO hp hq,bp.b.mul bq.b,(),z⟩
theorem X6:gE Z.K Z.c_Net "add" Z.f29:=⟨a29_0,i29,F29.kp⟩
theorem Y73:DZ 6 Z.f73 Z.d73 ["_law_many","_law_rows_here"] (Cp Z.c_Net Z.K) "_law_net":=by
 refine⟨?_,F73.b2 _ _ (by intros;rfl),F73.kp,m73⟩
 refine F73.ok9 Cz λ_ _ _ s H _ Q E hr h=>?_;obtain⟨m,r,us,ds,rfl,hm1,hm20,hU,hR,hK,h40,q⟩:=h;have r3:=hr.mono (show 3<=5 by lia);refine⟨_,(aD (aQ (i:=2) Cz.nd rfl (Or.inl rfl) (pY MN R27 r3 rfl NTx.mN b27 .nil aM (aA (pv 0) aC)))
  (aD (dQ PassesOwn.never rfl (cE (pv 1)) (aZ (i:=3) Cz.nd rfl (Or.inl rfl))
   (aF (bS (Ju (pv 2) NTx.cl X6 R29 hr b29 .nil aM (aA (d9 Y22 r3 rfl (aA (pv 3) aC)) aC)))))
  (aF (aV (pv 2))))),?_⟩
 have lus:=hR.length;refine⟨_,rfl,λn dx h1 h2 ne=>⟨n,dx,m,rfl,aB,hm1,hm20,λl H2 nl keep hn hl=>⟨rfl,?_⟩⟩⟩;have s2:aS H H2:=λb o e=>keep b o (by rw[aR (bK e h1),aR (bK e h2)];exact e) (bK e h1);have hl0:H l=none:=by
  cases o:H l with
  |none=>rfl
  |some o'=>
   have:(upd (upd H dx (.own n)) n (.ins Z.c_Net dx [])) l=some o':=by rw[aR (bK o h1),aR (bK o h2)];exact o
   rw[this] at nl;cases nl
 refine⟨_,rfl,r,rfl,⟨_,s2.seq hU⟩,?_⟩;refine dX (xs:=us) (λi σ H'=>aS H H'/\dW Z.c_Net Z.K H' n l m (ds.take i)/\∃z,σ=[some (.int m),some (.ref r),some (.ref n),z]) ⟨s2,⟨⟨dx,hn⟩,[],hl,.nil⟩,none,rfl⟩ (λi σ H' _ h=>h.1.seq hU) ?_ ?_
 ·rintro i x σ H3 hx ⟨s3,N3,z,rfl⟩;have hi:i < ds.length:=by
   have:=(List.getElem?_eq_some_iff.mp hx).1;lia
  obtain⟨⟨k,u,v,p⟩,hd⟩:∃d,ds[i]?=some d:=⟨_,getElem?_eq_getElem hi⟩
  obtain⟨t,z',et,hT,fz⟩:=hR.at hd;have ex:x=.ref t:=by rw[et] at hx;exact(Option.some.inj hx).symm
  subst ex;obtain⟨dn,hn3⟩:=N3.ob;have lt:(ds.take i).length<=ds.length:=by rw[length_take];lia
  refine⟨_,rfl,n,dn,_,rfl,hn3,cY _ _ ∅ ∅,_,rfl,t,_,_,_,_,rfl,s3.seqT hT,k,rfl,λy H4 s4 ny rw=>?_⟩;refine⟨n,l,y,z',m,ds.take i,k,u,v,p,rfl,N3.same s4,rw,(s3.trans s4).fq fz,hK _ (mem_of_getElem? hd),by rw[length_take];lia,λH5 x5 N5=>?_⟩;refine⟨λb o e=>x5 _ _ ((s3.trans s4) _ _ e) (bK e hl0),?_,_,rfl⟩;rw[take_add_one,hd];exact N5
 ·rintro σ H3 ⟨s3,N3,z,rfl⟩;rw[lus,take_length] at N3;exact⟨_,rfl,q n l H3 s3 hl0 N3⟩
theorem Y74:DZ 1 Z.f74 Z.d74 ["_law_kept"] (pU Z.K Z.mg) "_law_kinds":=by
 refine⟨?_,F74.b1 _ (by intros;rfl),F74.kp,m74⟩
 refine F74.ok9 Ga λ_ _ _ s H _ Q E hr h=>?_;obtain⟨a,C,od,j,n,rfl,ea,kc,hj,q⟩:=h;obtain⟨c0,n0,k0'⟩:=kc.ks 0 _ rfl;obtain⟨c1,n1,k1'⟩:=kc.ks 1 _ rfl;obtain⟨c2,n2,k2'⟩:=kc.ks 2 _ rfl;obtain⟨c3,n3,k3'⟩:=kc.ks 3 _ rfl;obtain⟨c4,n4,k4'⟩:=kc.ks 4 _ rfl;obtain⟨c5,n5,k5'⟩:=kc.ks 5 _ rfl;obtain⟨c6,n6,k6'⟩:=kc.ks 6 _ rfl;obtain⟨c7,n7,k7'⟩:=kc.ks 7 _ rfl;obtain⟨c8,n8,k8'⟩:=kc.ks 8 _ rfl;obtain⟨c9,n9,k9'⟩:=kc.ks 9 _ rfl;obtain⟨c10,n10,k10'⟩:=kc.ks 10 _ rfl;obtain⟨c11,n11,k11'⟩:=kc.ks 11 _ rfl;obtain⟨c12,n12,k12'⟩:=kc.ks 12 _ rfl;have ex:=kc.ex;refine⟨_,(aD (aQ (i:=1) Ga.nd rfl (Or.inl rfl) (bU (aA (cQ (aA aX (aA (bO dM rfl bl.isi PyProof.Rows.boot_isinstance (aA (pv 0) (aA (gS rfl n0) aC))) aC))) (aA (cQ (aA aX (aA (bO dM rfl bl.isi PyProof.Rows.boot_isinstance (aA (pv 0) (aA (gS rfl n1) aC))) aC))) aC))))
  (aD (aQ (i:=1) Ga.nd rfl (Or.inl rfl) (bB jS (pv 1) (bU (aA (cQ (aA aX (aA (bO dM rfl bl.isi PyProof.Rows.boot_isinstance (aA (pv 0) (aA (gS rfl n2) aC))) aC))) (aA (cQ (aA aX (aA (bO dM rfl bl.isi PyProof.Rows.boot_isinstance (aA (pv 0) (aA (gS rfl n3) aC))) aC))) aC)))))
  (aD (aQ (i:=1) Ga.nd rfl (Or.inl rfl) (bB jS (pv 1) (bU (aA (cQ (aA aX (aA (bO dM rfl bl.isi PyProof.Rows.boot_isinstance (aA (pv 0) (aA (gS rfl n4) aC))) aC))) (aA (cQ (aA aX (aA (bO dM rfl bl.isi PyProof.Rows.boot_isinstance (aA (pv 0) (aA (gS rfl n5) aC))) aC))) aC)))))
  (aD (aQ (i:=1) Ga.nd rfl (Or.inl rfl) (bB jS (pv 1) (bU (aA (cQ (aA aX (aA (bO dM rfl bl.isi PyProof.Rows.boot_isinstance (aA (pv 0) (aA (gS rfl n6) aC))) aC))) (aA (cQ (aA aX (aA (bO dM rfl bl.isi PyProof.Rows.boot_isinstance (aA (pv 0) (aA (gS rfl n7) aC))) aC))) aC)))))
  (aD (aQ (i:=1) Ga.nd rfl (Or.inl rfl) (bB jS (pv 1) (bU (aA (cQ (aA aX (aA (bO dM rfl bl.isi PyProof.Rows.boot_isinstance (aA (pv 0) (aA (gS rfl n8) aC))) aC))) (aA (cQ (aA aX (aA (bO dM rfl bl.isi PyProof.Rows.boot_isinstance (aA (pv 0) (aA (gS rfl n9) aC))) aC))) aC)))))
  (aD (aQ (i:=1) Ga.nd rfl (Or.inl rfl) (bB jS (pv 1) (bU (aA (cQ (aA aX (aA (bO dM rfl bl.isi PyProof.Rows.boot_isinstance (aA (pv 0) (aA (gS rfl n10) aC))) aC))) (aA (cQ (aA aX (aA (bO dM rfl bl.isi PyProof.Rows.boot_isinstance (aA (pv 0) (aA (gS rfl n11) aC))) aC))) aC)))))
  (aD (bS (oU PySem.F.plainAttrs_list PySem.F.slot_list_append PySem.F.type_list_append eY (pv 1) (aA (cQ (aA aX (aA (bO dM rfl bl.isi PyProof.Rows.boot_isinstance (aA (pv 0) (aA (gS rfl n12) aC))) aC))) aC)))
  (aD (bX (gZ (fE (bO dM rfl bl.isi PyProof.Rows.boot_isinstance (aA (pv 0) (aA (Kx (v:=.ty "ValueError") rfl n_ValueError PyProof.Rows.Boot.«ValueError» rfl) aC))))) (aF (aV (bU aC))) bC)
  (aF (aV (dZ (nl:=2) (fr:=[]) (Nc:=["_law_name","_law_truth"]) (cl:=[]) (g:=(Ef Z.K 2 (jA (iF 0) (jA (iF 1) Eh)))) rfl ⟨rfl,rfl,∅,∅,λx c h=>(by cases h),dR rfl,rfl,λi n h=>(by simp at h)⟩
    (cE (pv 1)) (λ_ _ _ _ _=>(iJ rfl (bZ (aZ (i:=0) oR rfl (Or.inl rfl)) (bZ (aZ (i:=1) oR rfl (Or.inl rfl)) gF)))) (λ_ _ _ _ _=>(jN (fE (pv 1))))
    (λ_ _ _ _ _=>(pv 0))))))))))))),?_⟩
 refine rJ (λσ' H'=>aS H H'/\∃(l:Addr) (xs:List V),σ'=[some (.ref a),some (.ref l)]/\H l=none/\H' l=some (.lst xs)/\Pbs Z.K H' xs ((List.range 2).map λi=>(kNm.getD i "",decide (i=j)))) (λX hX=>?_) ?_
 ·refine⟨_,rfl,a,C,od,_,_,_,rfl,ea.same (aS.refl H),ex,rfl,λ_ h=>h,k0',zl9 2,λt0 ht0=>?_⟩;have u0:=aE ht0 (.tup [.str "NoNumber",.bl (decide (0=j))]);have w0:upd H t0 (.tup [.str "NoNumber",.bl (decide (0=j))]) t0=some (.tup [.str "NoNumber",.bl (decide (0=j))]):=aB;generalize upd H t0 (.tup [.str "NoNumber",.bl (decide (0=j))])=J0 at u0 w0 ⊢;refine⟨_,rfl,a,C,od,_,_,_,rfl,ea.same ((aS.refl H).trans u0),ex,rfl,λ_ h=>h,k1',zl9 2,λt1 ht1=>?_⟩;have u1:=aE ht1 (.tup [.str "NoPoint",.bl (decide (1=j))]);have w1:upd J0 t1 (.tup [.str "NoPoint",.bl (decide (1=j))]) t1=some (.tup [.str "NoPoint",.bl (decide (1=j))]):=aB;generalize upd J0 t1 (.tup [.str "NoPoint",.bl (decide (1=j))])=J1 at u1 w1 ⊢;refine⟨zl9 2,λM hM=>?_⟩;have uM:=aE hM (.lst [.ref t0,.ref t1]);have wM:upd J1 M (.lst [.ref t0,.ref t1]) M=some (.lst [.ref t0,.ref t1]):=aB;generalize upd J1 M (.lst [.ref t0,.ref t1])=JM at uM wM ⊢;have PB:Pbs Z.K JM [.ref t0,.ref t1] [("NoNumber",decide (0=j)),("NoPoint",decide (1=j))]:=.cons (uM.seqT (u1.seqT (SqT.of w0))) (.cons (uM.seqT (SqT.of w1)) .nil);exact hX _ _ ⟨((((aS.refl H).trans u0).trans u1).trans uM),M,_,rfl,(((aS.refl H).trans u0).trans u1).free hM,wM,PB⟩
 rintro σ2 G2 ⟨g2,l2,xs2,rfl,nl2,el2,Pl2⟩;refine rJ (λσ' H'=>aS H H'/\∃(l:Addr) (xs:List V),σ'=[some (.ref a),some (.ref l)]/\H l=none/\H' l=some (.lst xs)/\Pbs Z.K H' xs ((List.range 4).map λi=>(kNm.getD i "",decide (i=j)))) (λX hX=>?_) ?_
 ·refine⟨_,rfl,?_⟩;refine⟨_,rfl,a,C,od,_,_,_,rfl,ea.same g2,ex,rfl,λ_ h=>h,k2',zl9 2,λt2 ht2=>?_⟩;have u2:=aE ht2 (.tup [.str "NoSize",.bl (decide (2=j))]);have w2:upd G2 t2 (.tup [.str "NoSize",.bl (decide (2=j))]) t2=some (.tup [.str "NoSize",.bl (decide (2=j))]):=aB;generalize upd G2 t2 (.tup [.str "NoSize",.bl (decide (2=j))])=J2 at u2 w2 ⊢;refine⟨_,rfl,a,C,od,_,_,_,rfl,ea.same (g2.trans u2),ex,rfl,λ_ h=>h,k3',zl9 2,λt3 ht3=>?_⟩;have u3:=aE ht3 (.tup [.str "NoRow",.bl (decide (3=j))]);have w3:upd J2 t3 (.tup [.str "NoRow",.bl (decide (3=j))]) t3=some (.tup [.str "NoRow",.bl (decide (3=j))]):=aB;generalize upd J2 t3 (.tup [.str "NoRow",.bl (decide (3=j))])=J3 at u3 w3 ⊢;refine⟨zl9 2,λM hM=>?_⟩;have uM:=aE hM (.lst [.ref t2,.ref t3]);have wM:upd J3 M (.lst [.ref t2,.ref t3]) M=some (.lst [.ref t2,.ref t3]):=aB;generalize upd J3 M (.lst [.ref t2,.ref t3])=JM at uM wM ⊢;have PB:Pbs Z.K JM [.ref t2,.ref t3] [("NoSize",decide (2=j)),("NoRow",decide (3=j))]:=.cons (uM.seqT (u3.seqT (SqT.of w2))) (.cons (uM.seqT (SqT.of w3)) .nil);have elM:=(u2.trans (u3.trans uM)) _ _ el2;have lx:=Pl2.length;rw[length_map,length_range] at lx;refine⟨l2,M,_,_,rfl,rfl,elM,wM,by rw[lx,sizeLine_eq];show 2+2<=_;lia,λp hp=>?_⟩;have up:=aE hp (.lst (xs2++[.ref t2,.ref t3]));exact hX _ _ ⟨((g2.trans u2).trans u3).trans (uM.trans up),p,_,rfl,(((g2.trans u2).trans u3).trans uM).free hp,aB,((Pl2.same (u2.trans (u3.trans uM))).app PB).same up⟩
 rintro σ4 G4 ⟨g4,l4,xs4,rfl,nl4,el4,Pl4⟩;refine rJ (λσ' H'=>aS H H'/\∃(l:Addr) (xs:List V),σ'=[some (.ref a),some (.ref l)]/\H l=none/\H' l=some (.lst xs)/\Pbs Z.K H' xs ((List.range 6).map λi=>(kNm.getD i "",decide (i=j)))) (λX hX=>?_) ?_
 ·refine⟨_,rfl,?_⟩;refine⟨_,rfl,a,C,od,_,_,_,rfl,ea.same g4,ex,rfl,λ_ h=>h,k4',zl9 2,λt4 ht4=>?_⟩;have u4:=aE ht4 (.tup [.str "NoWord",.bl (decide (4=j))]);have w4:upd G4 t4 (.tup [.str "NoWord",.bl (decide (4=j))]) t4=some (.tup [.str "NoWord",.bl (decide (4=j))]):=aB;generalize upd G4 t4 (.tup [.str "NoWord",.bl (decide (4=j))])=J4 at u4 w4 ⊢;refine⟨_,rfl,a,C,od,_,_,_,rfl,ea.same (g4.trans u4),ex,rfl,λ_ h=>h,k5',zl9 2,λt5 ht5=>?_⟩;have u5:=aE ht5 (.tup [.str "NoName",.bl (decide (5=j))]);have w5:upd J4 t5 (.tup [.str "NoName",.bl (decide (5=j))]) t5=some (.tup [.str "NoName",.bl (decide (5=j))]):=aB;generalize upd J4 t5 (.tup [.str "NoName",.bl (decide (5=j))])=J5 at u5 w5 ⊢;refine⟨zl9 2,λM hM=>?_⟩;have uM:=aE hM (.lst [.ref t4,.ref t5]);have wM:upd J5 M (.lst [.ref t4,.ref t5]) M=some (.lst [.ref t4,.ref t5]):=aB;generalize upd J5 M (.lst [.ref t4,.ref t5])=JM at uM wM ⊢;have PB:Pbs Z.K JM [.ref t4,.ref t5] [("NoWord",decide (4=j)),("NoName",decide (5=j))]:=.cons (uM.seqT (u5.seqT (SqT.of w4))) (.cons (uM.seqT (SqT.of w5)) .nil);have elM:=(u4.trans (u5.trans uM)) _ _ el4;have lx:=Pl4.length;rw[length_map,length_range] at lx;refine⟨l4,M,_,_,rfl,rfl,elM,wM,by rw[lx,sizeLine_eq];show 4+2<=_;lia,λp hp=>?_⟩;have up:=aE hp (.lst (xs4++[.ref t4,.ref t5]));exact hX _ _ ⟨((g4.trans u4).trans u5).trans (uM.trans up),p,_,rfl,(((g4.trans u4).trans u5).trans uM).free hp,aB,((Pl4.same (u4.trans (u5.trans uM))).app PB).same up⟩
 rintro σ6 G6 ⟨g6,l6,xs6,rfl,nl6,el6,Pl6⟩;refine rJ (λσ' H'=>aS H H'/\∃(l:Addr) (xs:List V),σ'=[some (.ref a),some (.ref l)]/\H l=none/\H' l=some (.lst xs)/\Pbs Z.K H' xs ((List.range 8).map λi=>(kNm.getD i "",decide (i=j)))) (λX hX=>?_) ?_
 ·refine⟨_,rfl,?_⟩;refine⟨_,rfl,a,C,od,_,_,_,rfl,ea.same g6,ex,rfl,λ_ h=>h,k6',zl9 2,λt6 ht6=>?_⟩;have u6:=aE ht6 (.tup [.str "NoStreams",.bl (decide (6=j))]);have w6:upd G6 t6 (.tup [.str "NoStreams",.bl (decide (6=j))]) t6=some (.tup [.str "NoStreams",.bl (decide (6=j))]):=aB;generalize upd G6 t6 (.tup [.str "NoStreams",.bl (decide (6=j))])=J6 at u6 w6 ⊢;refine⟨_,rfl,a,C,od,_,_,_,rfl,ea.same (g6.trans u6),ex,rfl,λ_ h=>h,k7',zl9 2,λt7 ht7=>?_⟩;have u7:=aE ht7 (.tup [.str "NoRoad",.bl (decide (7=j))]);have w7:upd J6 t7 (.tup [.str "NoRoad",.bl (decide (7=j))]) t7=some (.tup [.str "NoRoad",.bl (decide (7=j))]):=aB;generalize upd J6 t7 (.tup [.str "NoRoad",.bl (decide (7=j))])=J7 at u7 w7 ⊢;refine⟨zl9 2,λM hM=>?_⟩;have uM:=aE hM (.lst [.ref t6,.ref t7]);have wM:upd J7 M (.lst [.ref t6,.ref t7]) M=some (.lst [.ref t6,.ref t7]):=aB;generalize upd J7 M (.lst [.ref t6,.ref t7])=JM at uM wM ⊢;have PB:Pbs Z.K JM [.ref t6,.ref t7] [("NoStreams",decide (6=j)),("NoRoad",decide (7=j))]:=.cons (uM.seqT (u7.seqT (SqT.of w6))) (.cons (uM.seqT (SqT.of w7)) .nil);have elM:=(u6.trans (u7.trans uM)) _ _ el6;have lx:=Pl6.length;rw[length_map,length_range] at lx;refine⟨l6,M,_,_,rfl,rfl,elM,wM,by rw[lx,sizeLine_eq];show 6+2<=_;lia,λp hp=>?_⟩;have up:=aE hp (.lst (xs6++[.ref t6,.ref t7]));exact hX _ _ ⟨((g6.trans u6).trans u7).trans (uM.trans up),p,_,rfl,(((g6.trans u6).trans u7).trans uM).free hp,aB,((Pl6.same (u6.trans (u7.trans uM))).app PB).same up⟩
 rintro σ8 G8 ⟨g8,l8,xs8,rfl,nl8,el8,Pl8⟩;refine rJ (λσ' H'=>aS H H'/\∃(l:Addr) (xs:List V),σ'=[some (.ref a),some (.ref l)]/\H l=none/\H' l=some (.lst xs)/\Pbs Z.K H' xs ((List.range 10).map λi=>(kNm.getD i "",decide (i=j)))) (λX hX=>?_) ?_
 ·refine⟨_,rfl,?_⟩;refine⟨_,rfl,a,C,od,_,_,_,rfl,ea.same g8,ex,rfl,λ_ h=>h,k8',zl9 2,λt8 ht8=>?_⟩;have u8:=aE ht8 (.tup [.str "TooMany",.bl (decide (8=j))]);have w8:upd G8 t8 (.tup [.str "TooMany",.bl (decide (8=j))]) t8=some (.tup [.str "TooMany",.bl (decide (8=j))]):=aB;generalize upd G8 t8 (.tup [.str "TooMany",.bl (decide (8=j))])=J8 at u8 w8 ⊢;refine⟨_,rfl,a,C,od,_,_,_,rfl,ea.same (g8.trans u8),ex,rfl,λ_ h=>h,k9',zl9 2,λt9 ht9=>?_⟩;have u9:=aE ht9 (.tup [.str "Lame",.bl (decide (9=j))]);have w9:upd J8 t9 (.tup [.str "Lame",.bl (decide (9=j))]) t9=some (.tup [.str "Lame",.bl (decide (9=j))]):=aB;generalize upd J8 t9 (.tup [.str "Lame",.bl (decide (9=j))])=J9 at u9 w9 ⊢;refine⟨zl9 2,λM hM=>?_⟩;have uM:=aE hM (.lst [.ref t8,.ref t9]);have wM:upd J9 M (.lst [.ref t8,.ref t9]) M=some (.lst [.ref t8,.ref t9]):=aB;generalize upd J9 M (.lst [.ref t8,.ref t9])=JM at uM wM ⊢;have PB:Pbs Z.K JM [.ref t8,.ref t9] [("TooMany",decide (8=j)),("Lame",decide (9=j))]:=.cons (uM.seqT (u9.seqT (SqT.of w8))) (.cons (uM.seqT (SqT.of w9)) .nil);have elM:=(u8.trans (u9.trans uM)) _ _ el8;have lx:=Pl8.length;rw[length_map,length_range] at lx;refine⟨l8,M,_,_,rfl,rfl,elM,wM,by rw[lx,sizeLine_eq];show 8+2<=_;lia,λp hp=>?_⟩;have up:=aE hp (.lst (xs8++[.ref t8,.ref t9]));exact hX _ _ ⟨((g8.trans u8).trans u9).trans (uM.trans up),p,_,rfl,(((g8.trans u8).trans u9).trans uM).free hp,aB,((Pl8.same (u8.trans (u9.trans uM))).app PB).same up⟩
 rintro σ10 G10 ⟨g10,l10,xs10,rfl,nl10,el10,Pl10⟩;refine rJ (λσ' H'=>aS H H'/\∃(l:Addr) (xs:List V),σ'=[some (.ref a),some (.ref l)]/\H l=none/\H' l=some (.lst xs)/\Pbs Z.K H' xs ((List.range 12).map λi=>(kNm.getD i "",decide (i=j)))) (λX hX=>?_) ?_
 ·refine⟨_,rfl,?_⟩;refine⟨_,rfl,a,C,od,_,_,_,rfl,ea.same g10,ex,rfl,λ_ h=>h,k10',zl9 2,λt10 ht10=>?_⟩;have u10:=aE ht10 (.tup [.str "Ring",.bl (decide (10=j))]);have w10:upd G10 t10 (.tup [.str "Ring",.bl (decide (10=j))]) t10=some (.tup [.str "Ring",.bl (decide (10=j))]):=aB;generalize upd G10 t10 (.tup [.str "Ring",.bl (decide (10=j))])=J10 at u10 w10 ⊢;refine⟨_,rfl,a,C,od,_,_,_,rfl,ea.same (g10.trans u10),ex,rfl,λ_ h=>h,k11',zl9 2,λt11 ht11=>?_⟩;have u11:=aE ht11 (.tup [.str "Floats",.bl (decide (11=j))]);have w11:upd J10 t11 (.tup [.str "Floats",.bl (decide (11=j))]) t11=some (.tup [.str "Floats",.bl (decide (11=j))]):=aB;generalize upd J10 t11 (.tup [.str "Floats",.bl (decide (11=j))])=J11 at u11 w11 ⊢;refine⟨zl9 2,λM hM=>?_⟩;have uM:=aE hM (.lst [.ref t10,.ref t11]);have wM:upd J11 M (.lst [.ref t10,.ref t11]) M=some (.lst [.ref t10,.ref t11]):=aB;generalize upd J11 M (.lst [.ref t10,.ref t11])=JM at uM wM ⊢;have PB:Pbs Z.K JM [.ref t10,.ref t11] [("Ring",decide (10=j)),("Floats",decide (11=j))]:=.cons (uM.seqT (u11.seqT (SqT.of w10))) (.cons (uM.seqT (SqT.of w11)) .nil);have elM:=(u10.trans (u11.trans uM)) _ _ el10;have lx:=Pl10.length;rw[length_map,length_range] at lx;refine⟨l10,M,_,_,rfl,rfl,elM,wM,by rw[lx,sizeLine_eq];show 10+2<=_;lia,λp hp=>?_⟩;have up:=aE hp (.lst (xs10++[.ref t10,.ref t11]));exact hX _ _ ⟨((g10.trans u10).trans u11).trans (uM.trans up),p,_,rfl,(((g10.trans u10).trans u11).trans uM).free hp,aB,((Pl10.same (u10.trans (u11.trans uM))).app PB).same up⟩
 rintro σ12 G12 ⟨g12,l12,xs12,rfl,nl12,el12,Pl12⟩;have lx:=Pl12.length;rw[length_map,length_range] at lx;refine⟨_,rfl,.inl ⟨rfl,_,SqL.of el12⟩,_,rfl,a,C,od,_,_,_,rfl,ea.same g12,ex,rfl,λ_ h=>h,k12',zl9 2,λt12 ht12=>?_⟩;have u12:=aE ht12 (.tup [.str "Held",.bl (decide (12=j))]);have w12:upd G12 t12 (.tup [.str "Held",.bl (decide (12=j))]) t12=some (.tup [.str "Held",.bl (decide (12=j))]):=aB;generalize upd G12 t12 (.tup [.str "Held",.bl (decide (12=j))])=J12 at u12 w12 ⊢;have el13:=u12 _ _ el12;refine⟨l12,xs12,.ref t12,rfl,rfl,el13,bN (),?_⟩;have sG:=(g12.trans u12).change nl12 (o:=.lst (xs12++[.ref t12]));have PB:Pbs Z.K (upd J12 l12 (.lst (xs12++[.ref t12]))) (xs12++[.ref t12]) ((List.range 13).map λi=>(kNm.getD i "",decide (i=j))):=by
  have sq:∀{t:Addr} {p:Str × Bool},SqT Z.K J12 t [.str p.1,.bl p.2]->SqT Z.K (upd J12 l12 (.lst (xs12++[.ref t12]))) t [.str p.1,.bl p.2]:=λh=>SqT.upd h el13;have go:∀{xs:List V} {ps:List (Str × Bool)},Pbs Z.K J12 xs ps->Pbs Z.K (upd J12 l12 (.lst (xs12++[.ref t12]))) xs ps:=λh=>by
   induction h with
   |nil=>exact .nil
   |cons h _ ih=>exact .cons (sq h) ih
  exact go ((Pl12.same u12).app (.cons (p:=("Held",decide (12=j))) (SqT.of w12) .nil))
 have el14:upd J12 l12 (.lst (xs12++[.ref t12])) l12=some (.lst (xs12++[.ref t12])):=aB
 try dsimp only
 generalize upd J12 l12 (.lst (xs12++[.ref t12]))=G at sG PB el14 ⊢;refine⟨_,rfl,a,C,od,_,_,_,rfl,ea.same sG,ex,rfl,λ_ h=>h,kc.ve,_,rfl,L2.ifF rfl ?_⟩;refine⟨_,rfl,l12,rfl,⟨_,SqL.of el14⟩,λD hD=>?_⟩;have sD:=aE hD (.lst []);have lP:=PB.length;refine dL (xs:=xs12++[.ref t12]) (λi zs H'=>aS G H'/\H' D=some (.lst zs)/\zs=(((((List.range 13).map λi=>(kNm.getD i "",decide (i=j))).take i).filter λp=>p.2).map λp=>V.str p.1)) ⟨sD,aB,rfl⟩ (λi zs H' h=>h.2.1) (λi zs H' _ h=>SqL.of (h.1 _ _ el14)) ?_ ?_
 ·rintro i zs x H4 hx ⟨s4,e4,rfl⟩ C' hC;obtain⟨tt,p,rfl,hp,hT⟩:=(PB.same s4).at hx;have hi:i < 13:=by have:=(List.getElem?_eq_some_iff.mp hp).1;rw[length_map,length_range] at this;exact this
  refine⟨tt,_,rfl,hT,rfl,_,_,rfl,_,_,rfl,rfl,jL.1,jL.2,?_⟩;have tk:((List.range 13).map λi=>(kNm.getD i "",decide (i=j))).take (i+1)=((List.range 13).map λi=>(kNm.getD i "",decide (i=j))).take i++[p]:=by rw[take_add_one,hp];rfl
  refine⟨_,rfl,_,rfl,?_⟩
  cases hb:p.2 with
  |false=>
   refine L2.ifF rfl (hC _ _ ⟨s4,e4,?_⟩);rw[tk,filter_append,filter_cons_of_neg (by rw[hb];simp)];simp
  |true=>
   refine L2.ifT rfl ⟨_,rfl,e4,bN ?_,hC _ _ ⟨s4.change hD,aB,?_⟩⟩
   ·rw[length_map];have:=length_filter_le (λp:Str × Bool=>p.2) (((List.range 13).map λi=>(kNm.getD i "",decide (i=j))).take i);rw[length_take] at this;lia
   ·rw[tk,filter_append,filter_cons_of_pos hb,map_append];rfl
 ·rintro zs H4 ⟨s4,e4,rfl⟩;rw[lP,take_length,Zw hj] at e4;exact q D H4 (sG.trans s4) (sG.free hD) e4
theorem Y75:DZ 3 Z.f75 Z.d75 ["_law_marks","_law_lifts","_law_start","_law_goal","_law_size"] (Cg Z.K) "_law_joined":=by
 refine⟨?_,F75.b5 _ _ _ _ _ (by intros;rfl),F75.kp,m75⟩
 refine F75.ok9 Bh λcdv A outer s H vs Q E hr h=>?_;obtain⟨M,L,z,u,v,n,ms,ls,xs,p,rfl,hM,hL,nML,hF,h20,hl,hu,hv,hne,fz,bz,bl,n19,q⟩:=h;refine⟨_,(aD (aQ (i:=5) Bh.nd rfl (Or.inl rfl) (d9 Y72 hr rfl (aA (d9 Y72 hr rfl (aA (aT bM (pv 1) (pv 2) (λ_ _=>rfl)) (aA (aT bM (pv 1) (pv 3) (λ_ _=>rfl)) aC))) (aA (pv 4) aC))))
  (aD (aQ (i:=6) Bh.nd rfl (Or.inl rfl) (aT bM (pv 0) (pv 3) (λ_ _=>rfl)))
  (aF (dQ PassesOwn.never rfl (eZ rfl n_range (aA (bO bV rfl n_len PySem.boot_len (aA (pv 0) aC)) aC)) (aZ (i:=7) Bh.nd rfl (Or.inl rfl))
   (aF (bX (aY dP (aT bM (pv 0) (pv 7) (λ_ _=>rfl)) (pv 6) (bA _)) (aD (pJ (aT bM (pv 0) (pv 2) (λ_ _=>rfl)) (tK (pv 0) (pv 7) kK))
  (aF (pJ (d9 Y71 hr rfl (aA (aT bM (pv 1) (pv 7) (λ_ _=>rfl)) (aA (pv 5) aC))) (tK (pv 1) (pv 7) kK)))) bC)))))),?_⟩
 have lx:=hF.length;obtain⟨xu,eu,fu⟩:=hF.at (zF (show u < ls.length by lia));obtain⟨xv,ev,fv⟩:=hF.at (zF (show v < ls.length by lia));have Bu:=fL bl (show u < ls.length by lia);have Bv:=fL bl (show v < ls.length by lia);refine⟨_,rfl,_,rfl,L,xs,_,_,rfl,rfl,SqL.of hL,bQ eu,_,rfl,_,rfl,L,xs,_,_,rfl,rfl,SqL.of hL,bQ ev,xu,xv,_,_,80,80,rfl,fu,fv,Bu.p2,Bv.p2,Bu.bd (),Bv.bd (),∅,λa1 H1 s1 e1=>?_⟩;have D1:=Bu.d1 Bv;refine⟨_,rfl,a1,z,_,p,80,80,rfl,Fq.of e1,s1.fq fz,D1.p2,bz.p2,D1.bd (),bz.bd (),∅,λa2 H2 s2 e2=>?_⟩;have s02:=s1.trans s2;have D2:=Bu.d2 Bv bz;have hM2:=s02 _ _ hM;have hL2:=s02 _ _ hL;refine⟨_,rfl,_,rfl,M,_,_,_,rfl,rfl,SqL.of hM2,bQ (by rw[getElem?_map,xI hv];rfl),?_⟩;refine⟨_,rfl,M,_,rfl,.inl (SqL.of hM2),_,rfl,?_⟩;have lm:(ms.map V.int).length=ms.length:=length_map _;refine⟨(),(),?_⟩;have e2':(((ms.map V.int).length:Nat):Int).toNat=ms.length:=by lia
 refine gU (λi σ H'=>SX [M,L] H2 H'/\∃z7,σ=[some (.ref M),some (.ref L),some (.int (u:Int)),some (.int (v:Int)),some (.ref z),some (.ref a2),some (.int (ms.getD v 0)),z7]/\H' M=some (.lst (((jn ms u v).take i++ms.drop i).map V.int))/\∃xs',H' L=some (.lst xs')/\Fqs Z.K H' xs' ((jnL ms ls u v p).take i++ls.drop i)) ⟨λb o h _=>h,none,rfl,by rw[take_zero,drop_zero,nil_append];exact hM2,xs,hL2,by rw[take_zero,drop_zero,nil_append];exact hF.same s02⟩ ?_ ?_
 ·rintro i σ H3 hi ⟨x3,z7,rfl,eM,xs',eL,F3⟩;have hi:i < ms.length:=by lia
  have ljn:(jn ms u v).length=ms.length:=by unfold jn;rw[length_map]
  have ljl:(jnL ms ls u v p).length=ls.length:=pL ..;have l3:=F3.length;have lmix:((jnL ms ls u v p).take i++ls.drop i).length=ls.length:=by rw[List.length_append,length_take,length_drop];lia
  have mi:=Hl (A:=jn ms u v) (B:=ms) (i:=i) ljn (Nat.le_refl i) ();have mu:((jn ms u v).take i++ms.drop i)[u]?=some (ms.getD u 0):=by
   by_cases c:u < i
   ·rw[qh7 c (),Yh hu,if_neg hne]
   ·rw[Hl ljn () (),xI hu]
  have li:=Hl (A:=jnL ms ls u v p) (B:=ls) (i:=i) () (Nat.le_refl i) ();rw[xI hi] at mi;have li:=li.trans (zF (show i < ls.length by lia));have lsts:Hm [M,L] H2:=λa ha=>by
   rcases mem_cons.mp ha with z | z
   ·exact⟨_,by rw[z];exact hM2⟩
   ·exact⟨_,by rw[mem_singleton.mp z];exact hL2⟩
  have fa2:Fq Z.K H3 a2 (Mq.minus (Mq.minus (ls.getD u (0,1)) (ls.getD v (0,1))) p):=SX.seqT lsts x3 (Fq.of e2);refine⟨_,rfl,_,rfl,M,_,_,_,rfl,rfl,SqL.of eM,bQ (by rw[Nat.zero_add,getElem?_map,mi];rfl),_,rfl,rfl,_,rfl,?_⟩;have jm:=Yh (u:=u) (v:=v) hi;have jl:=qc8 (ms:=ms) (u:=u) (v:=v) (z:=p) (show i < ls.length by lia);have jg:=Jx (ms:=ms) (u:=u) (v:=v) (z:=p) (show i < ls.length by lia)
  by_cases c:ms.getD i 0=ms.getD v 0
  ·refine L2.ifT (by show decide (V.int (ms.getD i 0)=V.int (ms.getD v 0))=true;rw[c];simp) ?_;rw[if_pos c] at jm jg;refine⟨_,rfl,_,rfl,M,_,_,_,rfl,rfl,SqL.of eM,bQ (by rw[getElem?_map,mu];rfl),_,rfl,_,rfl,M,_,_,i,rfl,rfl,eM,by rw[Int.zero_add];exact oK (by rw[length_map,List.length_append,length_take,length_drop];lia),?_⟩;have lsts3:Hm [M,L] H3:=λa ha=>by
    rcases mem_cons.mp ha with z | z
    ·exact⟨_,by rw[z];exact eM⟩
    ·exact⟨_,by rw[mem_singleton.mp z];exact eL⟩
   have eM4:upd H3 M (.lst ((((jn ms u v).take i++ms.drop i).map V.int).set i (.int (ms.getD u 0)))) M=some (.lst (((jn ms u v).take (i+1)++ms.drop (i+1)).map V.int)):=by rw[aB,<- map_set,Ir ljn jm]
   have eL4:upd H3 M (.lst ((((jn ms u v).take i++ms.drop i).map V.int).set i (.int (ms.getD u 0)))) L=some (.lst xs'):=by rw[aR (Ne.symm nML)];exact eL
   have x34:SX [M,L] H3 (upd H3 M (.lst ((((jn ms u v).take i++ms.drop i).map V.int).set i (.int (ms.getD u 0))))):=SX.write (λb o h _=>h) ⋯
   try dsimp only
   generalize upd H3 M (.lst ((((jn ms u v).take i++ms.drop i).map V.int).set i (.int (ms.getD u 0))))=H4 at eM4 eL4 x34 ⊢;have F4:=SX.fqs lsts3 x34 F3;have fa4:Fq Z.K H4 a2 _:=SX.seqT lsts3 x34 fa2;obtain⟨xi,ei,fi⟩:=F4.at li;have Bi:=fL bl (show i < ls.length by lia);refine⟨_,rfl,_,rfl,L,xs',_,_,rfl,rfl,SqL.of eL4,bQ (by rw[Nat.zero_add];exact ei),_,rfl,xi,a2,_,_,80,80,rfl,fi,fa4,Bi.p2,D2.p2,Bi.bd (),D2.bd (),∅,λa5 H5 s5 e5=>?_⟩;have eM5:=s5 _ _ eM4;have eL5:=s5 _ _ eL4;refine⟨_,rfl,_,rfl,L,xs',_,i,rfl,rfl,eL5,by rw[Int.zero_add];exact oK (),?_⟩;have lsts5:Hm [M,L] H5:=λa ha=>by
    rcases mem_cons.mp ha with z | z
    ·exact⟨_,by rw[z];exact eM5⟩
    ·exact⟨_,by rw[mem_singleton.mp z];exact eL5⟩
   have x56:SX [M,L] H5 (upd H5 L (.lst (xs'.set i (.ref a5)))):=SX.write (λb o h _=>h) ⋯;refine⟨x3.trans (x34.trans (SX.trans (λb o h _=>s5 b o h) x56)),_,rfl,by rw[aR nML];exact eM5,xs'.set i (.ref a5),aB,?_⟩;rw[<- Ir () jl,jg];exact Fqs.set (SX.seqT lsts5 x56 (Fq.of e5)) i (SX.fqs lsts5 x56 (F4.same s5))
  ·refine L2.ifF (by show decide (V.int (ms.getD i 0)=V.int (ms.getD v 0))=false;exact decide_eq_false λz=>c (V.int.inj z)) ?_;rw[if_neg c] at jm jg;refine⟨x3,_,rfl,?_,xs',eL,?_⟩
   ·rw[<- Pn jm (xI hi)];exact eM
   ·rw[<- Pn jl (by rw[jg];exact zF ())];exact F3
 ·rintro σ H3 ⟨x3,z7,rfl,eM,xs',eL,F3⟩;have ljn:(jn ms u v).length=ms.length:=by unfold jn;rw[length_map]
  have ljl:(jnL ms ls u v p).length=ls.length:=pL ..;rw[e2',<- ljn,take_length,ljn,drop_length,append_nil] at eM;rw[e2',<- hl,<- ljl,take_length,ljl,drop_length,append_nil] at F3;exact q xs' H3 (λb o h nb=>x3 b o (s02 b o h) nb) eM eL F3
theorem Y76:DZ 4 Z.f76 Z.d76 ["_law_rows_here","_law_many"] (qi2 Z.K) "_law_first_ring":=by
 refine⟨?_,F76.b2 _ _ (by intros;rfl),F76.kp,m76⟩
 refine F76.ok9 Dl λ_ _ _ s H _ Q E hr h=>?_;obtain⟨r,us,m,ds,rfl,hS,hR,pt,m20,h18,hz,q0,q1⟩:=h;have r2:=hr.mono (show 2<=3 by lia);refine⟨_,(aD (aQ (i:=2) Dl.nd rfl (Or.inl rfl) (iT rfl rfl n_list rfl n_range (aA (pv 1) aC)))
  (aD (aQ (i:=3) Dl.nd rfl (Or.inl rfl) (bB yC (bU (aA (cQ (aA aG (aA aG aC))) aC)) (pv 1)))
  (aD (dQ PassesOwn.never rfl (eZ rfl n_range (aA (bO bV rfl n_len PySem.boot_len (aA (pv 0) aC)) aC)) (aZ (i:=4) Dl.nd rfl (Or.inl rfl))
   (aD (pJ (aT bM (pv 0) (pv 4) (λ_ _=>rfl)) (iJ rfl (bZ (aZ (i:=5) Dl.nd rfl (Or.inl rfl)) (bZ (aZ (i:=6) Dl.nd rfl (Or.inl rfl)) (bZ (aZ (i:=7) Dl.nd rfl (Or.inl rfl)) (bZ (aZ (i:=8) Dl.nd rfl (Or.inl rfl)) gF))))))
  (aD (bX (PW.pt (kZ (aY dP (pv 5) aX (bA _)) (iS (aY dP (aT bM (pv 2) (pv 6) (λ_ _=>rfl)) (aT bM (pv 2) (pv 7) (λ_ _=>rfl)) (bA _))))) (aF (aV (cQ (aA (pv 4) (aA (d9 Y72 r2 rfl (aA (pv 8) (aA (d9 Y72 r2 rfl (aA (aT bM (pv 3) (pv 6) (λ_ _=>rfl)) (aA (aT bM (pv 3) (pv 7) (λ_ _=>rfl)) aC))) aC))) aC))))) bC)
  (aF (bX (aY dP (pv 5) aX (bA _)) (aF (bS (d9 Y75 hr rfl (aA (pv 2) (aA (pv 3) (aA (pv 6) (aA (pv 7) (aA (pv 8) aC)))))))) bC)))))
  (aF (aV xX))))),?_⟩
 refine⟨_,rfl,m,rfl,(),λM hM=>?_⟩;have s1:=aE hM (.lst ((List.range m).map λ(i:Nat)=>V.int (i:Int)));have e1:upd H M (.lst ((List.range m).map λ(i:Nat)=>V.int (i:Int))) M=some (.lst ((mks m (dD [])).map V.int)):=by rw[aB];show _=some (HO.lst (((List.range m).map λ(i:Nat)=>(i:Int)).map V.int));rw[map_map];rfl
 generalize upd H M (.lst ((List.range m).map λ(i:Nat)=>V.int (i:Int)))=H1 at s1 e1 ⊢
 try dsimp only
 refine⟨zl9 2,λT0 hT0=>⟨zl9 1,λL0 hL0=>?_⟩⟩;have sT:=aE hT0 (.tup [.int 0,.int 1]);have eT:upd H1 T0 (.tup [.int 0,.int 1]) T0=some (.tup [.int 0,.int 1]):=aB;generalize upd H1 T0 (.tup [.int 0,.int 1])=H2 at sT eT hL0 ⊢;have sL:=aE hL0 (.lst [.ref T0]);have eL0:upd H2 L0 (.lst [.ref T0]) L0=some (.lst [.ref T0]):=aB;generalize upd H2 L0 (.lst [.ref T0])=H3 at sL eL0 ⊢;refine⟨_,rfl,L0,(m:Int),[.ref T0],rfl,rfl,eL0,(),(),?_,λL hL=>?_⟩
 ·rw[Int.toNat_natCast,sizeLine_eq];show 1*m<=_;lia
 have er:(replicate (m:Int).toNat [V.ref T0]).flatten=replicate m (.ref T0):=by rw[Int.toNat_natCast];simp
 rw[er];have sR:=aE hL (.lst (replicate m (V.ref T0)));have eL:upd H3 L (.lst (replicate m (V.ref T0))) L=some (.lst (replicate m (V.ref T0))):=aB;generalize upd H3 L (.lst (replicate m (V.ref T0)))=H4 at sR eL ⊢;have s14:=sT.trans (sL.trans sR);have s04:=s1.trans s14;have eM:=s14 _ _ e1;have nL:H L=none:=(s1.trans (sT.trans sL)).free hL;have nML:M≠L:=λz=>by rw[<- z] at hL;rw[(sT.trans sL) _ _ e1] at hL;cases hL
 have F0:Fqs Z.K H4 (replicate m (.ref T0)) (replicate m (0,1)):=kD (Fq.of (p:=(0,1)) ((sL.trans sR) _ _ eT)) m;have no2:∀x∈[M,L],H x=none:=λx hx=>by
  rcases mem_cons.mp hx with z | z
  ·rw[z];exact hM
  ·rw[mem_singleton.mp z];exact nL
 have lu:=hR.length
 try dsimp only
 refine⟨_,rfl,r,us,rfl,.inl (s04.seq hS),_,rfl,(),(),?_⟩;have rk:=λi (hi:i<=ds.length)=>kN (W:=wHo) (Kf pt) i (by rw[vI];exact hi);refine gU (λi σ H'=>SX [M,L] H4 H'/\(bY wHo (skl ds) i).2=[]/\∃z4 z5 z6 z7 z8,σ=[some (.ref r),some (.int (m:Int)),some (.ref M),some (.ref L),z4,z5,z6,z7,z8]/\H' M=some (.lst ((mks m (dD (bY wHo (skl ds) i).1)).map V.int))/\∃xs ls,H' L=some (.lst xs)/\Fqs Z.K H' xs ls/\LfI m i ds (bY wHo (skl ds) i).1 ls) ⟨λb o h _=>h,rfl,none,none,none,none,none,rfl,eM,_,_,eL,F0,LfI.start m ds⟩ ?_ ?_
 ·rintro i σ H5 hi ⟨x5,hR0,z4,z5,z6,z7,z8,rfl,eM5,xs,ls,eL5,F5,LI⟩;have hi:i < ds.length:=by lia
  have s05:=SX.same s04 x5 no2;obtain⟨d,hd⟩:∃d,ds[i]?=some d:=⟨_,getElem?_eq_getElem hi⟩
  obtain⟨t,z,et,hT,fz⟩:=(hR.same s05).at hd;refine⟨_,rfl,_,rfl,r,us,_,_,rfl,rfl,s05.seq hS,bQ (by rw[Nat.zero_add];exact et),t,_,rfl,hT,rfl,_,_,rfl,_,_,rfl,_,_,rfl,_,_,rfl,rfl,?_⟩;obtain⟨kd,u,v,p⟩:=d;obtain⟨u0,u1,v0,v1⟩:dF (m:Int) u v:=pt _ (mem_of_getElem? hd);obtain⟨uN,rfl⟩:∃uN:Nat,u=(uN:Int):=⟨u.toNat,()⟩
  obtain⟨vN,rfl⟩:∃vN:Nat,v=(vN:Int):=⟨v.toNat,()⟩
  have hsk:(skl ds)[i]?=some (kd,uN,vN):=by unfold skl;rw[getElem?_map,hd];simp
  have suc:=gJ (W:=wHo) hsk;have ri:=rk i ();have fz:Fq Z.K H5 z p:=fz;have Bz:LfB 0 p:=hz _ (mem_of_getElem? hd);have dw:∀b,decide (kd=.ho)=b->decide (V.str kd.wd=V.str "hold")=b:=λb e=>by rw[<- e];exact Sl kd
  have lxs:=F5.length;have lls:=LI.ln;have mu:∀x,x < m->atI ((mks m (dD (bY wHo (skl ds) i).1)).map V.int) (x:Int)=some (.int (L2.mk m (dD (bY wHo (skl ds) i).1) x)):=λx hx=>bQ (by rw[getElem?_map,xI (by rw[gG];exact hx)];rfl)
  by_cases kh:kd=.ho
  ·refine⟨_,rfl,rfl,_,rfl,L2.ifT (dw _ (decide_eq_true kh)) ?_⟩;refine⟨_,rfl,_,rfl,M,_,_,_,rfl,rfl,SqL.of eM5,mu uN (),_,rfl,_,rfl,M,_,_,_,rfl,rfl,SqL.of eM5,mu vN (),rfl,_,rfl,?_⟩;subst kh;have hpm:=ri.pt;have wi:=Kj hpm m20 (show vN < m by lia) (show uN < m by lia);obtain⟨xu,eu,fu⟩:=F5.at (zF (show uN < ls.length by lia));obtain⟨xv,ev,fv⟩:=F5.at (zF (show vN < ls.length by lia));have Bu:=fL LI.bd (show uN < ls.length by lia);have Bv:=fL LI.bd (show vN < ls.length by lia)
   by_cases c:L2.mk m (dD (bY wHo (skl ds) i).1) uN=L2.mk m (dD (bY wHo (skl ds) i).1) vN
   ·refine L2.ifT (by show decide (V.int (L2.mk m (dD (bY wHo (skl ds) i).1) uN)=V.int (L2.mk m (dD (bY wHo (skl ds) i).1) vN))=true;rw[c];simp) ?_;obtain⟨st,hw⟩:=Option.isSome_iff_exists.mp (wi.mpr c);have sc:=Blk.ringS_so (n:=i) ((uT .ho).mpr rfl) hw;rw[<- suc] at sc;obtain⟨rr,hrr⟩:=Af (W:=wHo) (sk:=skl ds) (i+1) (ds.length - (i+1));rw[sc,hR0,show i+1+(ds.length - (i+1))=ds.length by lia] at hrr;obtain⟨pts,pp⟩:=qf9 hw;have D1:=Bu.d1 Bv;refine⟨_,rfl,_,rfl,_,rfl,_,rfl,L,xs,_,_,rfl,rfl,SqL.of eL5,bQ eu,_,rfl,_,rfl,L,xs,_,_,rfl,rfl,SqL.of eL5,bQ ev,xu,xv,_,_,80,80,rfl,fu,fv,Bu.p2,Bv.p2,Bu.bd (),Bv.bd (),∅,λa1 H6 s6 e6=>?_⟩;refine⟨z,a1,p,_,80,80,rfl,s6.fq fz,Fq.of e6,Bz.p2,D1.p2,Bz.bd (),D1.bd (),∅,λa2 H7 s7 e7=>?_⟩;refine⟨zl9 2,λt9 ht9=>?_⟩;have s9:=aE ht9 (.tup [.int (0+(i:Int)),.ref a2]);refine q1 _ _ hrr t9 a2 _ _ (s05.trans (s6.trans (s7.trans s9))) (SqT.of (by rw[aB,Int.zero_add])) (s9.fq (Fq.of e7)) (Mq.fP Bz.p2 D1.p2) ?_;rw[Mq.fB Bz.p2 D1.p2,Mq.fB Bu.p2 Bv.p2];have su:=qa3 (sz:=szR ds) (h:=λx=>Mq.val (ls.getD x (0,1))) (λe he=>by
     obtain⟨k,hk⟩:=ri.at_ e he;have le:=ri.lt e he;obtain⟨d',hd'⟩:∃d,ds[e.1]?=some d:=⟨_,getElem?_eq_getElem ()⟩
     have o:=LI.po e he d' hd';show Mq.val (ls.getD e.2.1 (0,1)) - Mq.val (ls.getD e.2.2 (0,1))=szR ds e.1;unfold szR;rw[o,getD_eq_getElem?_getD (i:=e.1),hd'];rfl) pp
    have sz:szR ds i=Mq.val p:=by unfold szR;rw[getD_eq_getElem?_getD,hd];rfl
    show _=(((1:Int):Rat)*szR ds i)+(st.map λs=>((s.2:Int):Rat)*szR ds s.1).sum;rw[su,sz,show ((1:Int):Rat)=1 by rfl];show _=1*Mq.val p+(Mq.val (ls.getD vN (0,1)) - Mq.val (ls.getD uN (0,1)))
    grind
   ·refine L2.ifF (by show decide (V.int (L2.mk m (dD (bY wHo (skl ds) i).1) uN)=V.int (L2.mk m (dD (bY wHo (skl ds) i).1) vN))=false;exact decide_eq_false λz=>c (V.int.inj z)) ?_;refine⟨_,rfl,rfl,_,rfl,L2.ifT rfl ?_⟩;have hw:lM (bY wHo (skl ds) i).1 vN uN=none:=by
     cases hw:lM (bY wHo (skl ds) i).1 vN uN with
     |none=>rfl
     |some st=>rw[hw] at wi;exact absurd (wi.mp rfl) c
    have sc:=Blk.ringS_no (n:=i) ((uT .ho).mpr rfl) hw;rw[<- suc] at sc;rw[sc];have em:jn (mks m (dD (bY wHo (skl ds) i).1)) uN vN=mks m (dD ((bY wHo (skl ds) i).1++[(i,uN,vN)])):=by
     have:dD ((bY wHo (skl ds) i).1++[(i,uN,vN)])=dD (bY wHo (skl ds) i).1++[(.pc,(uN:Int),(vN:Int),(0,1))]:=by unfold dD;rw[map_append];rfl
     rw[this,kA];unfold gR;rw[if_neg (λz=>by cases z)];show _=jn _ (uN:Int).toNat (vN:Int).toNat;rw[Int.toNat_natCast,Int.toNat_natCast]
    refine⟨_,rfl,_,rfl,_,rfl,_,rfl,_,rfl,M,L,z,uN,vN,i,_,ls,xs,p,rfl,eM5,eL5,nML,F5,by rw[gG];exact m20,by rw[gG];exact lls,by rw[gG];lia,by rw[gG];lia,c,fz,Bz,LI.bd,(),λxs' H6 x6 eM6 eL6 F6=>?_⟩;rw[em] at eM6;exact⟨x5.trans x6,hR0,_,_,_,_,_,rfl,eM6,xs',_,eL6,F6,LI.join hpm hd () () c Bz⟩
  ·refine⟨_,rfl,rfl,_,rfl,L2.ifF (dw _ (decide_eq_false kh)) ?_⟩;refine L2.ifF rfl ?_;refine⟨_,rfl,rfl,_,rfl,L2.ifF (dw _ (decide_eq_false kh)) ?_⟩;have e:bY wHo (skl ds) (i+1)=bY wHo (skl ds) i:=by rw[suc];unfold fV;rw[if_neg (λz=>kh ((uT _).mp z))]
   rw[e];exact⟨x5,hR0,_,_,_,_,_,rfl,eM5,xs,ls,eL5,F5,LI.mono (Nat.le_succ i)⟩
 ·rintro σ H5 ⟨x5,hR0,z4,z5,z6,z7,z8,rfl,eM5,xs,ls,eL5,F5,LI⟩;exact q0 (by rw[show ((us.length:Nat):Int).toNat=ds.length by lia] at hR0;exact hR0) H5 (SX.same s04 x5 no2)
theorem Y77:DZ 4 Z.f77 Z.d77 ["_law_rows_here","_law_many"] (Ut Z.K) "_law_apart":=by
 refine⟨?_,F77.b2 _ _ (by intros;rfl),F77.kp,m77⟩
 refine F77.ok9 Ia λ_ _ _ s H _ Q E hr h=>?_;obtain⟨r,us,m,ds,rfl,hS,hR,pt,hm1,m20,h18,hz,q⟩:=h;refine⟨_,(aD (aQ (i:=2) Ia.nd rfl (Or.inr rfl) (iT rfl rfl n_list rfl n_range (aA (pv 1) aC)))
  (aD (aQ (i:=3) Ia.nd rfl (Or.inl rfl) (bB yC (bU (aA (cQ (aA aG (aA aG aC))) aC)) (pv 1)))
  (aD (dQ PassesOwn.never rfl (cE (pv 0)) (iJ rfl (bZ (aZ (i:=4) Ia.nd rfl (Or.inl rfl)) (bZ (aZ (i:=5) Ia.nd rfl (Or.inl rfl)) (bZ (aZ (i:=6) Ia.nd rfl (Or.inl rfl)) (bZ (aZ (i:=7) Ia.nd rfl (Or.inl rfl)) gF)))))
   (aF (bX (PW.pt (kZ (aY iX (pv 4) aX (bA _)) (iS (aY iX (aT bM (pv 2) (pv 5) (λ_ _=>rfl)) (aT bM (pv 2) (pv 6) (λ_ _=>rfl)) (bA _))))) (aF (bS (d9 Y75 hr rfl (aA (pv 2) (aA (pv 3) (aA (pv 5) (aA (pv 6) (aA (pv 7) aC)))))))) bC)))
  (aF (aV (dZ (nl:=1) (fr:=[2]) (Nc:=["_law_point","_law_marks"]) (cl:=[("_law_marks",s.heap.objs.size+1)]) rfl ⟨rfl,rfl,∅,∅,λx c h=>h,dR rfl,rfl,λi n h=>match i,h with | 0,h=>by cases h;exact⟨2,rfl,rfl,rfl,rfl,.inl rfl⟩ | k+1,h=>by rw[show 1+(k+1)=k+2 by lia] at h;cases h⟩
    (eZ rfl n_range (aA (pv 1) aC)) (λ_ _ _ _ _=>(aZ (i:=0) vC rfl (Or.inl rfl))) (λ_ _ _ _ _=>(jN (aY iX (aT (iE (K:=Z.K) rfl) (pv 1) (pv 0) (λ_ _=>rfl)) (aT (iE (K:=Z.K) rfl) (pv 1) aG (λ_ _=>rfl)) (bA _))))
    (λ_ _ _ _ _=>(pv 0)))))))),?_⟩
 refine⟨_,rfl,m,rfl,(),λM hM=>?_⟩;have s1:=aE hM (.lst ((List.range m).map λ(i:Nat)=>V.int (i:Int)));have e1:upd H M (.lst ((List.range m).map λ(i:Nat)=>V.int (i:Int))) M=some (.lst ((mks m (ds.take 0)).map V.int)):=by rw[aB];show _=some (HO.lst (((List.range m).map λ(i:Nat)=>(i:Int)).map V.int));rw[map_map];rfl
 generalize upd H M (.lst ((List.range m).map λ(i:Nat)=>V.int (i:Int)))=H1 at s1 e1 ⊢
 try dsimp only
 refine⟨zl9 2,λT0 hT0=>⟨zl9 1,λL0 hL0=>?_⟩⟩;have sT:=aE hT0 (.tup [.int 0,.int 1]);have eT:upd H1 T0 (.tup [.int 0,.int 1]) T0=some (.tup [.int 0,.int 1]):=aB;generalize upd H1 T0 (.tup [.int 0,.int 1])=H2 at sT eT hL0 ⊢;have sL:=aE hL0 (.lst [.ref T0]);have eL0:upd H2 L0 (.lst [.ref T0]) L0=some (.lst [.ref T0]):=aB;generalize upd H2 L0 (.lst [.ref T0])=H3 at sL eL0 ⊢;refine⟨_,rfl,L0,(m:Int),[.ref T0],rfl,rfl,eL0,(),(),?_,λL hL=>?_⟩
 ·rw[Int.toNat_natCast,sizeLine_eq];show 1*m<=_;lia
 have er:(replicate (m:Int).toNat [V.ref T0]).flatten=replicate m (.ref T0):=by rw[Int.toNat_natCast];simp
 rw[er];have sR:=aE hL (.lst (replicate m (V.ref T0)));have eL:upd H3 L (.lst (replicate m (V.ref T0))) L=some (.lst (replicate m (V.ref T0))):=aB;generalize upd H3 L (.lst (replicate m (V.ref T0)))=H4 at sR eL ⊢;have s14:=sT.trans (sL.trans sR);have s04:=s1.trans s14;have eM:=s14 _ _ e1;have nL:H L=none:=(s1.trans (sT.trans sL)).free hL;have nML:M≠L:=λz=>by rw[<- z] at hL;rw[(sT.trans sL) _ _ e1] at hL;cases hL
 have F0:Fqs Z.K H4 (replicate m (.ref T0)) (replicate m (0,1)):=kD (Fq.of (p:=(0,1)) ((sL.trans sR) _ _ eT)) m;have no2:∀x∈[M,L],H x=none:=λx hx=>by
  rcases mem_cons.mp hx with z | z
  ·rw[z];exact hM
  ·rw[mem_singleton.mp z];exact nL
 have lu:=hR.length
 try dsimp only
 refine rJ (λσ' H'=>SX [M,L] H4 H'/\∃z4 z5 z6 z7,σ'=[some (.ref r),some (.int (m:Int)),some (.ref M),some (.ref L),z4,z5,z6,z7]/\H' M=some (.lst ((mks m ds).map V.int))) (λX hX=>?_) ?_
 ·refine⟨_,rfl,r,rfl,⟨_,s04.seq hS⟩,?_⟩;refine dX (xs:=us) (λi σ H'=>SX [M,L] H4 H'/\∃z4 z5 z6 z7,σ=[some (.ref r),some (.int (m:Int)),some (.ref M),some (.ref L),z4,z5,z6,z7]/\H' M=some (.lst ((mks m (ds.take i)).map V.int))/\∃xs ls,H' L=some (.lst xs)/\Fqs Z.K H' xs ls/\ls.length=m/\∀q∈ls,LfB i q) ⟨λb o h _=>h,none,none,none,none,rfl,eM,_,_,eL,F0,length_replicate,λq hq=>by rw[eq_of_mem_replicate hq];exact LfB.zero⟩ (λi σ H' _ h=>(SX.same s04 h.1 no2).seq hS) ?_ ?_
  rotate_left
  ·rintro σ H5 ⟨x5,z4,z5,z6,z7,rfl,eM5,_⟩;rw[lu,take_length] at eM5;exact hX _ _ ⟨x5,_,_,_,_,rfl,eM5⟩
  rintro i x σ H5 hx ⟨x5,z4,z5,z6,z7,rfl,eM5,xs,ls,eL5,F5,lls,LB⟩;have hi:i < us.length:=(List.getElem?_eq_some_iff.mp hx).1;have s05:=SX.same s04 x5 no2;obtain⟨d,hd⟩:∃d,ds[i]?=some d:=⟨_,getElem?_eq_getElem ()⟩
  obtain⟨t,z,et,hT,fz⟩:=(hR.same s05).at hd;obtain rfl:x=.ref t:=by rw[hx] at et;exact Option.some.inj et
  refine⟨t,_,rfl,hT,rfl,_,_,rfl,_,_,rfl,_,_,rfl,_,_,rfl,rfl,?_⟩;obtain⟨kd,u,v,p⟩:=d;obtain⟨u0,u1,v0,v1⟩:dF (m:Int) u v:=pt _ (mem_of_getElem? hd);obtain⟨uN,rfl⟩:∃uN:Nat,u=(uN:Int):=⟨u.toNat,()⟩
  obtain⟨vN,rfl⟩:∃vN:Nat,v=(vN:Int):=⟨v.toNat,()⟩
  have fz:Fq Z.K H5 z p:=fz;have Bz:LfB 0 p:=hz _ (mem_of_getElem? hd);have suc:mks m (ds.take (i+1))=gR (mks m (ds.take i)) (kd,(uN:Int),(vN:Int),p):=by rw[take_add_one,hd];exact kA ..
  rw[suc];have dw:decide (V.str kd.wd=V.str "push")=decide (kd=.pu):=ql4 kd;have lm:=gG m (ds.take i);generalize mks m (ds.take i)=ms at eM5 lm;have LB':∀q∈ls,LfB (i+1) q:=λq hq=>(LB q hq).mono (Nat.le_succ i);have mu:∀x,x < m->atI (ms.map V.int) (x:Int)=some (.int (ms.getD x 0)):=λx hx=>bQ (by rw[getElem?_map,xI ()];rfl);unfold gR
  by_cases kp:kd=.pu
  ·rw[if_pos kp];refine⟨_,rfl,rfl,_,rfl,L2.ifF (by show (!decide (V.str kd.wd=V.str "push"))=false;rw[dw,decide_eq_true kp];rfl) ?_⟩;exact L2.ifF rfl ⟨x5,_,_,_,_,rfl,eM5,xs,ls,eL5,F5,lls,LB'⟩
  ·rw[if_neg kp];refine⟨_,rfl,rfl,_,rfl,L2.ifT (by show (!decide (V.str kd.wd=V.str "push"))=true;rw[dw,decide_eq_false kp];rfl) ?_⟩;refine⟨_,rfl,_,rfl,M,_,_,_,rfl,rfl,SqL.of eM5,mu uN (),_,rfl,_,rfl,M,_,_,_,rfl,rfl,SqL.of eM5,mu vN (),rfl,_,rfl,?_⟩;show ite _ _ _;rw[show jn ms (kd,(uN:Int),(vN:Int),p).2.1.toNat (kd,(uN:Int),(vN:Int),p).2.2.1.toNat=jn ms uN vN by show jn ms (uN:Int).toNat (vN:Int).toNat=_;rw[Int.toNat_natCast,Int.toNat_natCast]]
   by_cases c:ms.getD uN 0=ms.getD vN 0
   ·refine L2.ifF (by show (!decide (V.int (ms.getD uN 0)=V.int (ms.getD vN 0)))=false;rw[c];simp) ?_;rw[qn3 c];exact⟨x5,_,_,_,_,rfl,eM5,xs,ls,eL5,F5,lls,LB'⟩
   ·refine L2.ifT (by show (!decide (V.int (ms.getD uN 0)=V.int (ms.getD vN 0)))=true;rw[decide_eq_false λz=>c (V.int.inj z)];rfl) ?_;refine⟨_,rfl,_,rfl,_,rfl,_,rfl,_,rfl,M,L,z,uN,vN,i,ms,ls,xs,p,rfl,eM5,eL5,nML,F5,(),(),(),(),c,fz,Bz,LB,(),λxs' H6 x6 eM6 eL6 F6=>?_⟩;exact⟨x5.trans x6,_,_,_,_,rfl,eM6,xs',_,eL6,F6,by rw[pL];exact lls,Ob LB () () Bz⟩
 rintro σ9 H9 ⟨x9,z4,z5,z6,z7,rfl,eM9⟩;have s09:=SX.same s04 x9 no2;refine⟨_,rfl,_,rfl,(),(),λD hD=>?_⟩;have sD:=aE hD (.lst []);rw[Int.toNat_natCast];refine kU (n:=m) (λi zs H'=>aS H9 H'/\H' D=some (.lst zs)/\zs=((((List.range i).filter λp=>decide (L2.mk m ds p≠L2.mk m ds 0)).map λ(p:Nat)=>(p:Int)).map V.int)) ⟨sD,aB,rfl⟩ (λi zs H' h=>h.2.1) ?_ ?_
 ·rintro i zs H2 hi ⟨s2,e2,rfl⟩ C hC;rw[Int.zero_add];have mu:∀x,x < m->atI ((mks m ds).map V.int) (x:Int)=some (.int (L2.mk m ds x)):=λx hx=>bQ (by rw[getElem?_map,xI (by rw[gG];exact hx)];rfl);have ll:=length_filter_le (λp=>decide (L2.mk m ds p≠L2.mk m ds 0)) (List.range i);rw[length_range] at ll;refine⟨dU.1,dU.2,_,rfl,_,rfl,M,_,_,_,rfl,rfl,SqL.of (s2 _ _ eM9),mu i hi,_,rfl,M,_,_,_,rfl,rfl,SqL.of (s2 _ _ eM9),mu 0 (),rfl,_,rfl,?_⟩
  by_cases c:L2.mk m ds i=L2.mk m ds 0
  ·refine L2.ifF (by show (!decide (V.int (L2.mk m ds i)=V.int (L2.mk m ds 0)))=false;rw[c];simp) (hC _ _ ⟨s2,e2,?_⟩);rw[range_succ,filter_append,filter_cons_of_neg (by simp[c])];simp
  ·refine L2.ifT (by show (!decide (V.int (L2.mk m ds i)=V.int (L2.mk m ds 0)))=true;rw[decide_eq_false λz=>c (V.int.inj z)];rfl) ⟨_,rfl,e2,bN (by rw[length_map,length_map];lia),hC _ _ ⟨s2.change hD,aB,?_⟩⟩;rw[range_succ,filter_append,filter_cons_of_pos (by simp[c]),map_append,map_append];rfl
 ·rintro zs H2 ⟨s2,e2,rfl⟩;exact q D H2 (s09.trans s2) (s09.free hD) e2
theorem Y78:DZ 5 Z.f78 Z.d78 ["_law_kept","_law_rows_here","_law_many"] (Yp Z.c_Ring Z.c_Floats Z.K) "_law_of_the_net":=by
 refine⟨?_,F78.b3 _ _ _ (by intros;rfl),F78.kp,m78⟩
 refine F78.ok9 Yz λ_ _ _ s H _ Q E hr h=>?_;obtain⟨x,r,us,m,ds,rfl,hS,hR,pt,hm1,m20,h18,hz,kp,q⟩:=h;have r1:=hr.mono (show 1<=4 by lia);have hu:=hr.units;refine⟨_,(aD (aQ (i:=3) Yz.nd rfl (Or.inl rfl) (d9 Y76 hr rfl (aA (pv 1) (aA (pv 2) aC))))
  (aD (aQ (i:=4) Yz.nd rfl (Or.inl rfl) (d9 Y77 hr rfl (aA (pv 1) (aA (pv 2) aC))))
  (aD (bX (nC (Iz (pv 3))) (aF (aV (nU (gH (sZ hu) (d9 Y74 r1 rfl (aA (pv 0) aC)) (bU (aA aX aC)) (bA _)) (nU (gH (sZ hu) (aT bM (uI (pv 0) rfl) aG (λ_ _=>rfl)) (cQ (aA (aT bL (pv 3) aG (λ_ _=>rfl)) (aA aG aC))) (bA _)) (pC (gH (sZ hu) (uI (pv 0) rfl) (aT bL (pv 3) aG (λ_ _=>rfl)) (bA _))))))) bC)
  (aD (bX (aY (rZ hu) (pv 4) (bU aC) (bA _)) (aF (aV (nU (gH (sZ hu) (d9 Y74 r1 rfl (aA (pv 0) aC)) (bU (aA aX aC)) (bA _)) (pC (gH (sZ hu) (uI (pv 0) rfl) (pv 4) (bA _)))))) bC)
  (aF (aV (Zh (Bj (pv 0))))))))),?_⟩
 cases hG:rgH ds with
 |nil=>
  refine⟨_,rfl,_,rfl,r,us,m,ds,rfl,hS,hR,pt,m20,h18,hz,λ_ H1 s1=>?_,λc rr e=>absurd (hG.symm.trans e) ⋯⟩;refine⟨_,rfl,_,rfl,r,us,m,ds,rfl,s1.seq hS,hR.same s1,pt,hm1,m20,h18,hz,λl H2 s2 nl el=>?_⟩;have s02:=s1.trans s2;refine⟨_,rfl,_,rfl,L2.ifF rfl ?_⟩;refine⟨_,rfl,zl9 0,λe hE=>?_⟩;have s3:=aE hE (.lst []);have e3:upd H2 e (.lst []) e=some (.lst []):=aB;generalize upd H2 e (.lst [])=H3 at s3 e3 ⊢;have el3:=s3 _ _ el;have s03:=s02.trans s3;refine xR (ns:=eU m ds) (SqL.of el3) (SqL.of e3) ⟨_,rfl,?_⟩
  by_cases hF:eU m ds=[]
  ·refine L2.ifF (by rw[hF];rfl) ?_;exact⟨_,rfl,by rw[kp.ok hG hF];exact q H3 s03⟩
  ·refine L2.ifT (by cases hx:eU m ds with | nil=>exact absurd hx hF | cons y ys=>rfl) ?_;obtain⟨a,dx,p,rfl,ea,ed,ep⟩:=kp.fl hG hF;refine⟨_,rfl,a,Z.c_Floats,some dx,11,"Floats",rfl,⟨s03 _ _ ea,λdx' e=>by cases e;exact⟨_,s03 _ _ ed⟩⟩,kF,rfl,λl1 H4 s4 n4 e4=>?_⟩;refine⟨zl9 1,λl2 hl2=>?_⟩;have s5:=aE hl2 (.lst [.str "Floats"]);have e5:upd H4 l2 (.lst [.str "Floats"]) l2=some (.lst [.str "Floats"]):=aB;generalize upd H4 l2 (.lst [.str "Floats"])=H5 at s5 e5 ⊢;have s05:=s03.trans (s4.trans s5);refine Jo (SqL.of (s5 _ _ e4)) (SqL.of e5) ∅ ⟨_,rfl,gB ?_⟩;refine⟨_,rfl,a,Z.c_Floats,dx,_,.ref p,rfl,s05 _ _ ea,s05 _ _ ed,kF.ex,fc.hf,fc.np,rfl,_,rfl,qh1 (ns:=eU m ds) (SqL.of (s05 _ _ ep)) (SqL.of ((s4.trans s5) _ _ el3)) (q H5 s05)⟩
 |cons c rr=>
  obtain⟨a,dx,p,t,us',rfl,ea,ed,ep,st,ft⟩:=kp.rg c rr hG;refine⟨_,rfl,_,rfl,r,us,m,ds,rfl,hS,hR,pt,m20,h18,hz,λe=>absurd (hG.symm.trans e) ⋯,λc' rr' e t1 z1 p1 H1 s1 hT1 fz1 lo1 hv1=>?_⟩;obtain rfl:c=c':=by rw[hG] at e;exact(List.cons.inj e).1
  refine⟨_,rfl,_,rfl,r,us,m,ds,rfl,s1.seq hS,hR.same s1,pt,hm1,m20,h18,hz,λl H2 s2 nl el=>?_⟩;have s02:=s1.trans s2;have T1:=s2.seqT hT1;refine⟨_,rfl,_,rfl,L2.ifT rfl ?_⟩;refine⟨_,rfl,a,Z.c_Ring,some dx,10,"Ring",rfl,⟨s02 _ _ ea,λdx' e=>by cases e;exact⟨_,s02 _ _ ed⟩⟩,kG,rfl,λl1 H4 s4 n4 e4=>?_⟩;refine⟨zl9 1,λl2 hl2=>?_⟩;have s5:=aE hl2 (.lst [.str "Ring"]);have e5:upd H4 l2 (.lst [.str "Ring"]) l2=some (.lst [.str "Ring"]):=aB;generalize upd H4 l2 (.lst [.str "Ring"])=H5 at s5 e5 ⊢;have s05:=s02.trans (s4.trans s5);refine Jo (SqL.of (s5 _ _ e4)) (SqL.of e5) ∅ ⟨_,rfl,gB ?_⟩;have ri:=kN (W:=wHo) (Kf pt) ds.length (by rw[vI];exact Nat.le_refl _);obtain⟨c1,k',u',v',st',pts,_,ec,_⟩:=ri.r c (by show c∈rgH ds;rw[hG];exact mem_cons_self ..);have st5:=st.same s05;obtain⟨t0,e0,h0⟩:∃t0,us'[0]?=some (.ref t0)/\SqT Z.K H5 t0 [.int (c.1:Int),.int 1]:=by
   rw[ec] at st5
   cases st5 with
   |cons h _=>exact⟨_,rfl,h⟩
  refine⟨_,rfl,a,Z.c_Ring,dx,_,.ref p,rfl,s05 _ _ ea,s05 _ _ ed,kG.ex,fc.hg,fc.nr,rfl,p,us',_,_,rfl,rfl,SqL.of (s05 _ _ ep),bQ (j:=0) e0,?_⟩;refine⟨_,rfl,t1,_,0,_,rfl,rfl,(s4.trans s5).seqT T1,rfl,zl9 2,λt6 ht6=>?_⟩;have s6:=aE ht6 (.tup [.int (c.1:Int),.int 1]);have e6:upd H5 t6 (.tup [.int (c.1:Int),.int 1]) t6=some (.tup [.int (c.1:Int),.int 1]):=aB;generalize upd H5 t6 (.tup [.int (c.1:Int),.int 1])=H6 at s6 e6 ⊢;have s06:=s05.trans s6;refine Xm (s6.seqT h0) (SqT.of e6) ⟨_,rfl,gB ?_⟩;have pe:tot (c.2.map (fX ds))=p1:=Mq.Xk (Se hz c.2).1 lo1 (by rw[hv1];exact(Se hz c.2).2);refine⟨_,rfl,a,Z.c_Ring,dx,_,.ref t,rfl,s06 _ _ ea,s06 _ _ ed,kG.ex,fc.hg,fc.nt,rfl,_,rfl,t1,_,1,_,rfl,rfl,(s4.trans (s5.trans s6)).seqT T1,rfl,Yr (s06.fq ft) ((s2.trans (s4.trans (s5.trans s6))).fq fz1) ?_⟩;rw[pe];simp only[decide_true];exact q H6 s06
theorem Y79:DZ 2 Z.f79 Z.d79 ["_law_script","_law_many"] (qa1 Z.K) "_law_rows":=by
 refine⟨?_,F79.b2 _ _ (by intros;rfl),F79.kp,m79⟩
 refine F79.ok9 rR λ_ _ _ s H _ Q E hr h=>?_;obtain⟨a,ns,m,rfl,hS,h63,hm1,hm20,q⟩:=h;refine⟨_,(aD (aQ (i:=2) rR.nd rfl (Or.inl rfl) (jG kY (pv 0) (iV aG) (iV (bB gD aG (aH Y68.G hr rfl m68 F68.kp Y68.b .nil aM (aA (aH Y67.G hr rfl m67 F67.kp Y67.b .nil aM (aA (pv 0) (aA aG aC))) (aA aG (aA aG aC))))))))
  (aD (aQ (i:=3) rR.nd rfl (Or.inr rfl) (aH Y67.G hr rfl m67 F67.kp Y67.b .nil aM (aA (pv 0) (aA aG aC))))
  (aD (bX (aY dP (aH Y68.G hr rfl m68 F68.kp Y68.b .nil aM (aA (pv 3) (aA aG (aA aG aC)))) aG (bA _)) (aF (nY (i:=2) (nl:=1) (fr:=[3]) (Nc:=["_law_k","_law_cell"]) (cl:=[("_law_cell",s.heap.objs.size+1)]) rR.nd rfl rfl rfl ⟨rfl,rfl,∅,∅,λx c h=>h,dR rfl,rfl,λi n h=>match i,h with | 0,h=>by cases h;exact⟨3,rfl,rfl,rfl,rfl,.inl rfl⟩ | k+1,h=>by rw[show 1+(k+1)=k+2 by lia] at h;cases h⟩
    (eZ rfl n_range (aA (bB gD aG (aH Y68.G hr rfl m68 F68.kp Y68.b .nil aM (aA (pv 3) (aA aG (aA aG aC))))) aC)) (λ_ _ _ _ _=>(aZ (i:=0) Mi rfl (Or.inl rfl))) (λ_ _ _ _ _=>eX)
    (λ_ _ _ _ _=>(aH Y69.G hr rfl m69 F69.kp Y69.b .nil aM (aA (pv 1) (aA (pv 0) aC)))) rfl)) bC)
  (aD (aQ (i:=4) rR.nd rfl (Or.inl rfl) (bU (aA aX (aA aX (aA aX (aA aX (aA aX aC)))))))
  (aD (aQ (i:=5) rR.nd rfl (Or.inl rfl) (aH Y68.G hr rfl m68 F68.kp Y68.b .nil aM (aA (aH Y67.G hr rfl m67 F67.kp Y67.b .nil aM (aA (pv 0) (aA aG aC))) (aA aG (aA aG aC)))))
  (aD (bX (aY dP (pv 5) aG (bA _)) (aF (aQ (i:=4) rR.nd rfl (Or.inl rfl) (bU (aA aX (aA aX (aA aX aC)))))) bC)
  (aD (bX (aY dP (pv 5) aG (bA _)) (aF (aQ (i:=4) rR.nd rfl (Or.inl rfl) (bU (aA aX (aA aX (aA aX (aA aX (aA aX (aA aX (aA aX (aA aX aC))))))))))) bC)
  (aD (aQ (i:=6) rR.nd rfl (Or.inl rfl) (bU aC))
  (aD (dQ PassesOwn.never rfl (cE (pv 2)) (aZ (i:=7) rR.nd rfl (Or.inl rfl))
   (aD (aQ (i:=8) rR.nd rfl (Or.inl rfl) (aT bM (pv 4) (aH Y68.G hr rfl m68 F68.kp Y68.b .nil aM (aA (pv 7) (aA aG (aA (bO bV rfl n_len PySem.boot_len (aA (pv 4) aC)) aC)))) (λ_ _=>rfl)))
  (aD (aQ (i:=9) rR.nd rfl (Or.inl rfl) (aH Y70.G hr rfl m70 F70.kp Y70.b .nil aM (aA (bB gD aG (aH Y68.G hr rfl m68 F68.kp Y68.b .nil aM (aA (pv 7) (aA aG (aA aG aC))))) (aA (bB gD aG (aH Y68.G hr rfl m68 F68.kp Y68.b .nil aM (aA (pv 7) (aA aG (aA aG aC))))) aC))))
  (aD (bX (aY iX (pv 8) aX (bA _)) (aF (aQ (i:=9) rR.nd rfl (Or.inl rfl) (aH Y70.G hr rfl m70 F70.kp Y70.b .nil aM (aA (bB lU (aH Y68.G hr rfl m68 F68.kp Y68.b .nil aM (aA (pv 7) (aA aG (aA aG aC)))) aG) (aA (bB gD aG (aH Y68.G hr rfl m68 F68.kp Y68.b .nil aM (aA (pv 7) (aA aG (aA aG aC))))) aC))))) bC)
  (aF (bS (oU PySem.F.plainAttrs_list PySem.F.slot_list_append PySem.F.type_list_append eY (pv 6) (aA (cQ (aA (pv 8) (aA (aH Y68.G hr rfl m68 F68.kp Y68.b .nil aM (aA (pv 7) (aA aG (aA (pv 1) aC)))) (aA (aH Y68.G hr rfl m68 F68.kp Y68.b .nil aM (aA (pv 7) (aA aG (aA (pv 1) aC)))) (aA (pv 9) aC))))) aC))))))))
  (aF (aV (pv 6)))))))))))),?_⟩
 refine qg9 (λσ' H'=>aS H H'/\∃(C:Addr) (ms:List Int) (cc:Int),σ'=[some (.ref a),some (.int (m:Int)),some (.ref C),some (.int cc),none,none,none,none,none,none]/\H' C=some (.lst (ms.map V.int))/\ms.length<=16) (λX hX=>?_) ?_
 ·refine⟨_,rfl,4,rfl,_,rfl,a,ns,1,1,rfl,rfl,hS,h63,λv H1 s1=>?_⟩;refine⟨v,3,11,rfl,(),(),(),λj H2 j0 j11 s2=>?_⟩;obtain⟨w,rfl⟩:∃w:Nat,j=(w:Int):=⟨j.toNat,()⟩
  have s02:=s1.trans s2;refine⟨_,_,rfl,rfl,4+(w:Int),rfl,a,_,rfl,s02.seq hS,λC0 hC0=>?_⟩;have c0:=qr3 (ns.map V.int) w;obtain⟨ms0,em⟩:=Lm ns (some 4) (some (4+(w:Int)));rw[em] at c0 ⊢;rw[length_map] at c0;have s3:=aE hC0 (.lst (ms0.map V.int));have eC0:upd H2 C0 (.lst (ms0.map V.int)) C0=some (.lst (ms0.map V.int)):=aB;generalize upd H2 C0 (.lst (ms0.map V.int))=H3 at s3 eC0 ⊢;have s03:=s02.trans s3;refine⟨_,rfl,a,ns,2,2,rfl,rfl,s03.seq hS,h63,λcc H4 s4=>?_⟩;have eC4:=s4 _ _ eC0;have s04:=s03.trans s4;refine⟨_,rfl,cc,6,4,rfl,∅,∅,∅,λvv H5 v0 v3 s5=>⟨rfl,_,rfl,?_⟩⟩;have s05:=s04.trans s5;have eC5:=s5 _ _ eC4;refine jX (λ_=>?_) (λ_=>hX _ _ ⟨s05,C0,ms0,cc,rfl,eC5,()⟩);refine⟨_,rfl,cc,5,6,rfl,∅,∅,∅,λx H6 x0 x6 s6=>⟨_,_,rfl,rfl,_,rfl,(),(),λD hD=>?_⟩⟩;have s06:=s05.trans s6;have sD:=aE hD (.lst []);refine kU (n:=(11+x).toNat) (λi zs H'=>aS H6 H'/\H' D=some (.lst zs)/\∃ms:List Int,zs=ms.map V.int/\ms.length=i) ⟨sD,aB,[],rfl,rfl⟩ (λi zs H' h=>h.2.1) ?_ ?_
  ·rintro i zs H7 hi ⟨s7,e7,ms,rfl,hl⟩ C hC;refine⟨dU.1,dU.2,gB ?_⟩;refine⟨_,rfl,_,rfl,cc,_,rfl,(),(),λw'=>?_⟩;exact⟨e7,bN (by rw[length_map];lia),hC _ _ ⟨s7.change hD,aB,ms++[w'],by rw[map_append];rfl,by rw[List.length_append,hl];rfl⟩⟩
  ·rintro zs H7 ⟨s7,e7,ms,rfl,hl⟩;exact hX _ _ ⟨s06.trans s7,D,ms,cc,rfl,e7,()⟩
 rintro σ1 H1 ⟨s1,C,ms,cc,rfl,eC,c16⟩
 try dsimp only
 refine qk6 (λσ' H'=>aS H1 H'/\∃(W:Addr) (ks:List Kd) (z5:Option V),σ'=[some (.ref a),some (.int (m:Int)),some (.ref C),some (.int cc),some (.ref W),z5,none,none,none,none]/\H' W=some (.lst (kws ks))/\1<=ks.length) (λX hX=>?_) ?_
 ·refine⟨zl9 5,λW hW=>?_⟩;have s2:=aE hW (.lst [V.str "piece",.str "push",.str "piece",.str "piece",.str "piece"]);have e2:upd H1 W (.lst [V.str "piece",.str "push",.str "piece",.str "piece",.str "piece"]) W=some (.lst [V.str "piece",.str "push",.str "piece",.str "piece",.str "piece"]):=aB;generalize upd H1 W (.lst [V.str "piece",.str "push",.str "piece",.str "piece",.str "piece"])=H2 at s2 e2 ⊢;refine⟨_,rfl,a,ns,1,1,rfl,rfl,(s1.trans s2).seq hS,h63,λv H3 s3=>⟨v,2,3,rfl,∅,∅,∅,λj H4 j0 j3 s4=>?_⟩⟩;have s14:=s2.trans (s3.trans s4);have e4:=(s3.trans s4) _ _ e2;refine⟨_,rfl,rfl,_,rfl,jX (λc=>?_) (λc=>?_)⟩
  ·refine⟨zl9 3,λW' hW'=>?_⟩;have s5:=aE hW' (.lst [V.str "piece",.str "push",.str "hold"]);have e5:upd H4 W' (.lst [V.str "piece",.str "push",.str "hold"]) W'=some (.lst [V.str "piece",.str "push",.str "hold"]):=aB;generalize upd H4 W' (.lst [V.str "piece",.str "push",.str "hold"])=H5 at s5 e5 ⊢;have c1:j=1:=by simpa using c
   subst c1;refine⟨_,rfl,rfl,_,rfl,L2.ifF rfl ?_⟩;exact hX _ _ ⟨s14.trans s5,W',[.pc,.pu,.ho],_,rfl,e5,∅⟩
  ·refine⟨_,rfl,rfl,_,rfl,jX (λc=>?_) (λc=>?_)⟩
   ·refine⟨zl9 8,λW' hW'=>?_⟩;have s5:=aE hW' (.lst [V.str "piece",.str "piece",.str "piece",.str "piece",.str "hold",.str "piece",.str "piece",.str "piece"]);have e5:upd H4 W' (.lst [V.str "piece",.str "piece",.str "piece",.str "piece",.str "hold",.str "piece",.str "piece",.str "piece"]) W'=some (.lst [V.str "piece",.str "piece",.str "piece",.str "piece",.str "hold",.str "piece",.str "piece",.str "piece"]):=aB;generalize upd H4 W' (.lst [V.str "piece",.str "piece",.str "piece",.str "piece",.str "hold",.str "piece",.str "piece",.str "piece"])=H5 at s5 e5 ⊢;exact hX _ _ ⟨s14.trans s5,W',[.pc,.pc,.pc,.pc,.ho,.pc,.pc,.pc],_,rfl,e5,∅⟩
   ·exact hX _ _ ⟨s14,W,[.pc,.pu,.pc,.pc,.pc],_,rfl,e4,∅⟩
 rintro σ2 H2 ⟨s2,W,ks,z5,rfl,eW,F67.kp⟩;have s02:=s1.trans s2;have eC2:=s2 _ _ eC;clear eC s1 s2
 try dsimp only
 refine⟨zl9 0,λr hr0=>?_⟩;have hr1:H r=none:=s02.free hr0;have nCr:C≠r:=bK eC2 hr0;have nWr:W≠r:=bK eW hr0;have s3:=aE hr0 (.lst []);have e3:upd H2 r (.lst []) r=some (.lst []):=aB;have eC3:=s3 _ _ eC2;have eW3:=s3 _ _ eW;generalize upd H2 r (.lst [])=H3 at s3 e3 eC3 eW3 ⊢;refine⟨_,rfl,C,rfl,⟨_,SqL.of eC3⟩,?_⟩;refine dX (xs:=ms.map V.int) (λn σ H'=>aS H H'/\H' C=some (.lst (ms.map V.int))/\H' W=some (.lst (kws ks))/\∃(us:List V) (ds:List RD) (z7 z8 z9:Option V),σ=[some (.ref a),some (.int (m:Int)),some (.ref C),some (.int cc),some (.ref W),z5,some (.ref r),z7,z8,z9]/\H' r=some (.lst us)/\Rts Z.K H' us ds/\(∀d∈ds,D76 m d)/\ds.length=n) ⟨s02.trans s3,eC3,eW3,[],[],none,none,none,rfl,e3,.nil,(λd hd=>by cases hd),rfl⟩ (λn σ H' _ h=>SqL.of h.2.1) ?_ ?_
 rotate_left
 ·rintro σ H4 ⟨s4,_,_,us,ds,z7,z8,z9,rfl,er,hR,hK,hlen⟩;exact⟨_,rfl,q r us ds H4 s4 hr1 er hR hK (by rw[hlen,length_map];exact c16)⟩
 rintro n x σ H4 hx ⟨s4,eC4,eW4,us,ds,z7,z8,z9,rfl,er,hR,hK,hlen⟩;have hn:n < 16:=by
  have:=(List.getElem?_eq_some_iff.mp hx).1;rw[length_map] at this;lia
 obtain⟨c,rfl⟩:∃c,x=.int c:=by
  rw[getElem?_map] at hx
  cases hm:ms[n]? with
  |none=>rw[hm] at hx;cases hx
  |some c=>rw[hm] at hx;cases hx;exact⟨c,rfl⟩
 have lus:=hR.length;have lk:(kws ks).length=ks.length:=by unfold kws;rw[length_map]
 refine⟨_,rfl,_,rfl,_,rfl,W,_,rfl,.inl (SqL.of eW4),c,0,_,rfl,(),(),by rw[lk];lia,λw0 H6 w00 w04 s6=>?_⟩;obtain⟨k,ek⟩:=Zg (ks:=ks) w00 (by rw[lk] at w04;exact w04);refine⟨W,_,_,_,rfl,rfl,SqL.of (s6 _ _ eW4),ek,?_⟩;have s46:=s4.trans s6;refine⟨_,rfl,c,3,12,rfl,(),(),(),λt1 H7 t0 t12 s7=>⟨_,_,rfl,rfl,_,rfl,c,4,6,rfl,(),(),(),λb1' H8 b0 b6 s8=>⟨_,_,rfl,rfl,1+t1,1+b1',30,rfl,(),Eu () (),(),λz1 H9 s9 e9=>?_⟩⟩⟩
 try dsimp only
 refine rJ (λσ' H'=>aS H9 H'/\∃(z2:Addr) (q2:Mq.Q2),σ'=[some (.ref a),some (.int (m:Int)),some (.ref C),some (.int cc),some (.ref W),z5,some (.ref r),some (.int c),some (.str k.wd),some (.ref z2)]/\Fq Z.K H' z2 q2/\∃t b:Int,q2=red t b/\1<=b/\b<=12/\-60<=t/\t<=60/\(k=.pc->1<=t/\t<=12/\b<=6)) (λX hX=>?_) ?_
 ·refine⟨_,rfl,rfl,_,rfl,?_⟩
  by_cases kp:k=.pc
  ·exact L2.ifF (by show (!decide (V.str k.wd=V.str "piece"))=false;rw[Iv,decide_eq_true kp];rfl) (hX _ _ ⟨aS.refl _,z1,_,rfl,Fq.of e9,1+t1,1+b1',rfl,(),(),(),(),λ_=>⟨(),(),()⟩⟩)
  ·refine L2.ifT (by show (!decide (V.str k.wd=V.str "piece"))=true;rw[Iv,decide_eq_false kp];rfl) ?_;exact⟨_,rfl,c,3,121,rfl,(),(),(),λt2 H10 t20 t21 s10=>⟨_,_,rfl,rfl,_,rfl,c,4,12,rfl,(),(),(),λbb2 H11 b20 b21 s11=>⟨_,_,rfl,rfl,t2 - 60,1+bb2,30,rfl,(),Eu () (),(),λz2 H12 s12 e12=>hX _ _ ⟨s10.trans (s11.trans s12),z2,_,rfl,Fq.of e12,t2 - 60,1+bb2,rfl,(),(),(),(),λz=>absurd z kp⟩⟩⟩⟩
 rintro σ9 H10 ⟨s10,z2,q2,rfl,fz2,szq⟩;have s410:=s6.trans ((s7.trans s8).trans (s9.trans s10));have er10:=s410 _ _ er;refine⟨_,rfl,.inl ⟨rfl,_,SqL.of er10⟩,_,rfl,_,rfl,_,rfl,c,1,(m:Int),rfl,(),(),(),λu H11 u0 um s11=>⟨_,rfl,_,rfl,c,2,(m:Int),rfl,(),(),(),λv' H12 v0 vm s12=>⟨_,rfl,zl9 4,λt ht=>?_⟩⟩⟩;have s13:=aE ht (.tup [.str k.wd,.int u,.int v',.ref z2]);have et:SqT Z.K (upd H12 t (.tup [.str k.wd,.int u,.int v',.ref z2])) t [.str k.wd,.int u,.int v',.ref z2]:=SqT.of aB;generalize upd H12 t (.tup [.str k.wd,.int u,.int v',.ref z2])=H13 at s13 et ⊢;have s413:=s410.trans (s11.trans (s12.trans s13));have er13:=s413 _ _ er;refine⟨r,us,.ref t,rfl,rfl,er13,bN (),?_⟩;refine⟨(s4.trans s413).change hr1,by rw[aR nCr];exact s413 _ _ eC4,by rw[aR nWr];exact s413 _ _ eW4,us++[.ref t],ds++[(k,u,v',q2)],_,_,_,rfl,aB,Rts.upd er13 ((hR.same s413).app (.cons et ((s11.trans (s12.trans s13)).fq fz2) .nil)),λd hd=>?_,by rw[List.length_append,hlen];rfl⟩;rcases mem_append.mp hd with z | z
 ·exact hK d z
 ·have:d=(k,u,v',q2):=by simpa using z
  subst this;exact⟨⟨u0,um,v0,vm⟩,szq⟩
theorem R80:FZ (CX1 Z.P Z.w) 10 Z.f80 Z.d80 ["_law_word","_law_net_here","_law_a","_law_b"] (Jc Z.c_Net Z.c_NoPoint Z.c_Held Z.c_TooMany Z.c_Ring Z.c_Floats Z.K):=by
 refine F80.okX qi9 (λvs H Q E h=>?_) λcdv A outer s H vs Q E hr h=>?_
 ·unfold Jc at h;obtain⟨n,l,x,y,m,ds,A,hx,hy,wd,rfl,hw⟩:=h;rfl
 skip
 obtain⟨n,l,x,y,m,ds,A,hx,hy,wd,rfl,hw⟩:=h;have r6:=hr.mono (show 6<=9 by lia);have r8:=hr.mono (show 8<=9 by lia);refine⟨_,(aD (bX (aY dP (pv 0) aX (bA _)) (aF (aV (aH R53 hr rfl m53 F53.kp b53 .nil (dA cK dC) (aA (pv 1) (aA (pv 2) (aA (pv 3) aC)))))) bC)
  (aD (bX (aY dP (pv 0) aX (bA _)) (aF (aV (aH R56 r6 rfl m56 F56.kp b56 .nil (dA cK dC) (aA (pv 1) (aA (pv 2) aC))))) bC)
  (aD (bX (aY dP (pv 0) aX (bA _)) (aF (aV (aH R57 r6 rfl m57 F57.kp b57 .nil (dA cK dC) (aA (pv 1) (aA (pv 2) (aA (pv 3) aC)))))) bC)
  (aD (bX (aY dP (pv 0) aX (bA _)) (aF (aV (aH R66 r8 rfl m66 F66.kp b66 .nil (dA cK dC) (aA (pv 1) (aA (pv 2) (aA (pv 3) aC)))))) bC)
  (aD (bX (aY dP (pv 0) aX (bA _)) (aF (aV (aH R65 r8 rfl m65 F65.kp b65 .nil (dA cK dC) (aA (pv 1) aC)))) bC)
  (aF (aV (aH R59 r8 rfl m59 F59.kp b59 .nil (dA cK dC) (aA (pv 1) aC))))))))),?_⟩
 have m65:=A.m5;have ln:=A.ln;refine⟨_,rfl,rfl,_,rfl,jX (λc=>?_) (λc=>?_)⟩
 ·obtain rfl:wd = "between":=by simpa using c
  rcases hw with ⟨⟨_,p⟩ | ⟨p,_⟩,q⟩ | ⟨p,_,rf,q⟩ | ⟨_,z | z | z,_⟩
  ·exact⟨_,rfl,_,rfl,_,rfl,n,l,x,y,m,ds,rfl,A.nt,A.pt,A.m1,(),(),A.bd,hx,hy,λ_=>q,λe=>absurd (p.symm.trans e) ⋯⟩
  ·exact absurd p ∅
  ·exact⟨_,rfl,_,rfl,_,rfl,n,l,x,y,m,ds,rfl,A.nt,A.pt,A.m1,(),(),A.bd,hx,hy,λe=>absurd (p.symm.trans e) ⋯,λ_=>⟨rf,λhR hF=>⟨A.nb hR hF,q hR hF⟩⟩⟩
  all_goals exact absurd z ∅
 have c0:wd≠"between":=by simpa using c
 refine⟨_,rfl,rfl,_,rfl,jX (λc=>?_) (λc=>?_)⟩
 ·obtain rfl:wd = "distances":=by simpa using c
  rcases hw with ⟨⟨p,_⟩ | ⟨_,p⟩,q⟩ | ⟨_,p,_⟩ | ⟨_,z | z | z,_⟩
  ·rcases p with p | p | p<;>exact absurd p ∅
  ·exact⟨_,rfl,_,rfl,n,l,x,(m:Int),ds,rfl,A.nt,hx,p,q⟩
  ·exact absurd p ∅
  all_goals exact absurd z ∅
 have c1:wd≠"distances":=by simpa using c
 refine⟨_,rfl,rfl,_,rfl,jX (λc=>?_) (λc=>?_)⟩
 ·obtain rfl:wd = "road":=by simpa using c
  rcases hw with ⟨⟨_,p⟩ | ⟨p,_⟩,q⟩ | ⟨_,p,_⟩ | ⟨_,z | z | z,_⟩
  ·exact⟨_,rfl,_,rfl,_,rfl,n,l,x,y,(m:Int),ds,rfl,A.nt,hx,hy,p,q⟩
  ·exact absurd p ∅
  ·exact absurd p ∅
  all_goals exact absurd z ∅
 have c2:wd≠"road":=by simpa using c
 refine⟨_,rfl,rfl,_,rfl,jX (λc=>?_) (λc=>?_)⟩
 ·obtain rfl:wd = "partings":=by simpa using c
  rcases hw with ⟨⟨_,p⟩ | ⟨p,_⟩,q⟩ | ⟨_,p,_⟩ | ⟨p,_,eh,q⟩
  ·exact⟨_,rfl,_,rfl,_,rfl,n,l,x,y,m,ds,rfl,A.np,A.m5,hx,hy,λ_=>q,λe=>absurd (p.symm.trans e) ⋯⟩
  ·exact absurd p ∅
  ·exact absurd p ∅
  ·exact⟨_,rfl,_,rfl,_,rfl,n,l,x,y,m,ds,rfl,A.np,A.m5,hx,hy,λe=>absurd (p.symm.trans e) ⋯,λ_=>⟨eh,λnh=>⟨(q nh).1 ∅,λp12=>(q nh).2 λ_=>p12⟩⟩⟩
 have c3:wd≠"partings":=by simpa using c
 refine⟨_,rfl,rfl,_,rfl,jX (λc=>?_) (λc=>?_)⟩
 ·obtain rfl:wd = "trees":=by simpa using c
  rcases hw with ⟨⟨p,_⟩ | ⟨p,_⟩,q⟩ | ⟨_,p,_⟩ | ⟨p,_,eh,q⟩
  ·rcases p with p | p | p<;>exact absurd p ∅
  ·exact absurd p ∅
  ·exact absurd p ∅
  ·exact⟨_,rfl,n,l,m,ds,rfl,A.np,A.m5,eh,λnh=>⟨(q nh).1 ∅,λp12=>(q nh).2 λ_=>p12⟩⟩
 have c4:wd≠"trees":=by simpa using c
 rcases hw with ⟨⟨p,_⟩ | ⟨p,_⟩,q⟩ | ⟨_,p,_⟩ | ⟨p,z | z | z,eh,q⟩
 ·rcases p with p | p | p
  ·exact absurd p c0
  ·exact absurd p c2
  ·exact absurd p c3
 ·exact absurd p c1
 ·exact absurd p c0
 ·exact absurd z c4
 ·subst z;exact⟨_,rfl,n,l,m,ds,rfl,A.nt,(),eh,λnh=>⟨A.ts nh,(q nh).2 λh=>absurd rfl h⟩⟩
 ·exact absurd z c3
theorem Y81:DZ 11 Z.f81 Z.d81 ["_law_word","_law_net_here","_law_a","_law_b"] (tU Z.c_Net Z.c_NoPoint Z.c_Held Z.c_TooMany Z.c_Ring Z.c_Floats Z.K) "_law_refusal":=by
 refine⟨?_,F81.b4 _ _ _ _ (by intros;rfl),F81.kp,m81⟩
 refine F81.ok Io (λvs H Q E h=>?_) λcdv A outer s H vs Q E hr h=>?_
 ·unfold tU at h;obtain⟨n,l,x,y,m,ds,A,hx,hy,wd,rfl,hw⟩:=h;rfl
 skip
 obtain⟨n,l,x,y,m,ds,A,hx,hy,wd,rfl,hw⟩:=h;obtain⟨CO,mO,eP,eG,eF,eH,eT⟩:=oc.oe;refine⟨_,(aD (aQ (i:=4) Io.nd rfl (Or.inl rfl) xX)
  (aD (qf4 ⟨rfl,rfl,rfl⟩ (Qs (Ot (Uv R80 ⟨rfl,rfl,rfl⟩ hr rfl m80 F80.kp b80 .nil (aA (pv 0) (aA (pv 1) (aA (pv 2) (aA (pv 3) aC))))))) bC (qk3 (j:=5) ⟨rfl,rfl,rfl⟩ Io.nd rfl rfl rfl (.inl mO) (λa=>aF (aQ (i:=4) Io.nd rfl (Or.inl rfl) (pv 5))) Qd))
  (aF (aV (pv 4))))),?_⟩
 refine⟨_,rfl,_,rfl,_,rfl,_,rfl,?_⟩
 skip
 refine⟨n,l,x,y,m,ds,A,hx,hy,wd,rfl,?_⟩;rcases hw with ⟨ho,q⟩ | ⟨hp,hb,q⟩ | ⟨hp,hs,q⟩
 ·refine .inl ⟨ho,λH' s' a ha=>⟨true,eP,?_⟩⟩;rw[if_pos rfl];exact⟨_,rfl,_,rfl,q a _ (s'.trans (aE ha _)) aB⟩
 ·refine .inr (.inl ⟨hp,hb,⟨λc r e dx p t us H' s' ed np ep st ft a ha=>⟨true,eG,?_⟩,λe1 e2 dx p H' s' ed np ep a ha=>⟨true,eF,?_⟩⟩,λhR hF v H' s'=>⟨_,rfl,q.ok hR hF H' s'⟩⟩)
  ·rw[if_pos rfl];have sa:=aE ha (iK a (.ref Z.c_Ring) (some dx));exact⟨_,rfl,_,rfl,q.rg c r e a dx p t us _ (s'.trans sa) aB (sa _ _ ed) (sa _ _ ep) (st.same sa) (sa.fq ft)⟩
  ·rw[if_pos rfl];have sa:=aE ha (iK a (.ref Z.c_Floats) (some dx));exact⟨_,rfl,_,rfl,q.fl e1 e2 a dx p _ (s'.trans sa) aB (sa _ _ ed) (sa _ _ ep)⟩
 ·refine .inr (.inr ⟨hp,hs,λk d hk hd hj dx H' s' nx ed a ha=>⟨true,eH,?_⟩,λnh=>⟨λws c H' s' a ha=>⟨true,eT,?_⟩,λc v H' s'=>⟨_,rfl,q.ok nh c H' s'⟩⟩⟩)
  ·rw[if_pos rfl];have sa:=aE ha (iK a (.ref Z.c_Held) (some dx));exact⟨_,rfl,_,rfl,q.hd k d hk hd hj a dx _ (s'.trans sa) aB (sa _ _ ed)⟩
  ·rw[if_pos rfl];exact⟨_,rfl,_,rfl,q.tm nh ws c a _ (s'.trans (aE ha _)) aB⟩
theorem Y82:DZ 12 Z.f82 Z.d82 ["_law_net_here","_law_a","_law_b","_law_odd"] (On Z.c_Net Z.K) "_law_no_point":=by
 refine⟨?_,F82.b4 _ _ _ _ (by intros;rfl),F82.kp,m82⟩
 refine F82.ok9 Yc λ_ A _ s H _ Q E hr h=>?_;obtain⟨n,l,x,a,b,m,ds,rfl,A,hx,px,q⟩:=h;have r1:=hr.mono (show 1<=11 by lia);have hu:=hr.units;refine⟨_,(aD (dQ PassesOwn.never rfl (cE (bU (aA aX (aA aX (aA aX (aA aX aC)))))) (aZ (i:=4) Yc.nd rfl (Or.inl rfl))
   (aD (bX (aY (rZ hu) (d9 Y74 r1 rfl (aA (d9 Y81 hr rfl (aA (pv 4) (aA (pv 0) (aA (pv 3) (aA (pv 2) aC))))) aC)) (bU (aA aX aC)) (bA _)) (aF (aV jE)) bC)
  (aF (bX (PW.pt (kZ (aY iX (pv 4) aX (bA _)) (iS (aY (rZ hu) (d9 Y74 r1 rfl (aA (d9 Y81 hr rfl (aA (pv 4) (aA (pv 0) (aA (pv 1) (aA (pv 3) aC))))) aC)) (bU (aA aX aC)) (bA _))))) (aF (aV jE)) bC))))
  (aF (aV jE))),?_⟩
 refine⟨zl9 4,λW hW=>?_⟩;have sW:=aE hW (.lst [.str "between",.str "distances",.str "road",.str "partings"]);have eW:upd H W (.lst [.str "between",.str "distances",.str "road",.str "partings"]) W=some (.lst [.str "between",.str "distances",.str "road",.str "partings"]):=aB;generalize upd H W (.lst [.str "between",.str "distances",.str "road",.str "partings"])=H1 at sW eW ⊢;have ask:∀(wd:Str) (y z:V) (H2:Hp) (s2:aS H H2) (Q1:VK),jU Z.K H2 y->jU Z.K H2 z->((wd = "between"\/wd = "road"\/wd = "partings")/\(cV (m:Int) y && cV (m:Int) z)=false\/wd = "distances"/\cV (m:Int) y=false)->(∀e H3,aS H2 H3->H3 e=some (iK e (.ref Z.c_NoPoint) none)->Q1 (.ref e) H3)->tU Z.c_Net Z.c_NoPoint Z.c_Held Z.c_TooMany Z.c_Ring Z.c_Floats Z.K [.str wd,.ref n,y,z] H2 Q1 E0:=λwd y z H2 s2 Q1 hy hz hw go=>by
  skip
  exact⟨n,l,y,z,m,ds,A.same s2,hy,hz,wd,rfl,.inl ⟨hw,go⟩⟩
 refine⟨W,rfl,⟨_,SqL.of eW⟩,?_⟩;refine dX (xs:=[.str "between",.str "distances",.str "road",.str "partings"]) (λi σ H'=>aS H1 H'/\∃z4,σ=[some (.ref n),some (.int (a:Int)),some (.int (b:Int)),some x,z4]) ⟨aS.refl _,none,rfl⟩ (λi σ H' _ h=>SqL.of (h.1 _ _ eW)) ?_ ?_
 ·rintro i y σ H2 hy ⟨s2,z4,rfl⟩;have s02:=sW.trans s2;obtain⟨wd,rfl,hwd⟩:∃wd:Str,y=.str wd/\(wd = "distances"\/(wd = "between"\/wd = "road"\/wd = "partings")/\wd≠"distances"):=by
   match i,hy with
   |0,e=>exact⟨_,(Option.some.inj e).symm,.inr ⟨.inl rfl,∅⟩⟩
   |1,e=>exact⟨_,(Option.some.inj e).symm,.inl rfl⟩
   |2,e=>exact⟨_,(Option.some.inj e).symm,.inr ⟨.inr (.inl rfl),∅⟩⟩
   |3,e=>exact⟨_,(Option.some.inj e).symm,.inr ⟨.inr (.inr rfl),∅⟩⟩
  refine⟨_,rfl,_,rfl,_,rfl,_,rfl,?_⟩;refine ask wd x _ H2 s02 _ (hx _ s02) (.inl ⟨_,rfl⟩) ?_ λe H3 s3 e3=>?_
  ·rcases hwd with h | ⟨h,_⟩
   ·exact .inr ⟨h,px⟩
   ·exact .inl ⟨h,by rw[px];rfl⟩
  refine⟨e,Z.c_NoPoint,none,1,"NoPoint",rfl,⟨e3,λdx e=>by cases e⟩,kP,rfl,λl1 H4 s4 n4 e4=>?_⟩;refine⟨zl9 1,λl2 hl2=>?_⟩;have s5:=aE hl2 (.lst [.str "NoPoint"]);have e5:upd H4 l2 (.lst [.str "NoPoint"]) l2=some (.lst [.str "NoPoint"]):=aB;generalize upd H4 l2 (.lst [.str "NoPoint"])=H5 at s5 e5 ⊢;have s25:=s3.trans (s4.trans s5);refine uS (SqL.of (s5 _ _ e4)) (SqL.of e5) ∅ ⟨_,rfl,L2.ifF rfl ?_⟩;have s05:=s02.trans s25;refine⟨_,rfl,rfl,_,rfl,?_⟩;rcases hwd with rfl | ⟨h,hd⟩
  ·exact L2.ifF ∅ (L2.ifF rfl ⟨s2.trans s25,_,rfl⟩)
  refine L2.ifT (by simpa using hd) ?_;refine⟨_,rfl,_,rfl,_,rfl,_,rfl,?_⟩;refine ask wd _ x H5 s05 _ (.inl ⟨_,rfl⟩) (hx _ s05) (.inl ⟨h,by rw[px,Bool.and_false]⟩) λe H6 s6 e6=>?_;refine⟨e,Z.c_NoPoint,none,1,"NoPoint",rfl,⟨e6,λdx e=>by cases e⟩,kP,rfl,λl1 H7 s7 n7 e7=>?_⟩;refine⟨zl9 1,λl2 hl2=>?_⟩;have s8:=aE hl2 (.lst [.str "NoPoint"]);have e8:upd H7 l2 (.lst [.str "NoPoint"]) l2=some (.lst [.str "NoPoint"]):=aB;generalize upd H7 l2 (.lst [.str "NoPoint"])=H8 at s8 e8 ⊢;refine uS (SqL.of (s8 _ _ e7)) (SqL.of e8) ∅ ⟨_,rfl,L2.ifF rfl ?_⟩;exact⟨s2.trans (s25.trans (s6.trans (s7.trans s8))),_,rfl⟩
 ·rintro σ H2 ⟨s2,z4,rfl⟩;exact q H2 (sW.trans s2)
theorem Y83:DZ 12 Z.f83 Z.d83 ["_law_net_here","_law_rows_here","_law_a","_law_b"] (Ge Z.c_Net Z.K) "_law_sets":=by
 refine⟨?_,F83.b4 _ _ _ _ (by intros;rfl),F83.kp,m83⟩
 refine F83.ok9 wS λ_ A _ s H _ Q E hr h=>?_;obtain⟨n,l,r,us,a,b,m,ds,rfl,A,sl,rt,ha,hb,q⟩:=h;have r1:=hr.mono (show 1<=11 by lia);have hu:=hr.units;refine⟨_,(aD (nY (i:=4) (nl:=1) (fr:=[1]) (Nc:=["_law_k","_law_rows_here"]) (cl:=[("_law_rows_here",s.heap.objs.size+1)]) wS.nd rfl rfl rfl ⟨rfl,rfl,∅,∅,λx c h=>h,dR rfl,rfl,λi n h=>match i,h with | 0,h=>by cases h;exact⟨1,rfl,rfl,rfl,rfl,.inl rfl⟩ | k+1,h=>by rw[show 1+(k+1)=k+2 by lia] at h;cases h⟩
    (eZ rfl n_range (aA (bO bV rfl n_len PySem.boot_len (aA (pv 1) aC)) aC)) (λ_ _ _ _ _=>(aZ (i:=0) wJ rfl (Or.inl rfl))) (λ_ _ _ _ _=>(jN (aY dP (aT (gP (K:=Z.K) rfl) (aT (iE (K:=Z.K) rfl) (pv 1) (pv 0) (λ_ _=>rfl)) aG (λ_ _=>rfl)) aX (bA _))))
    (λ_ _ _ _ _=>(pv 0)) rfl)
  (aD (nY (i:=5) (nl:=1) (fr:=[]) (Nc:=["_law_row"]) (cl:=[]) wS.nd rfl rfl rfl ⟨rfl,rfl,∅,∅,λx c h=>(by cases h),dR rfl,rfl,λi n h=>(by simp at h)⟩
    (cE (pv 1)) (λ_ _ _ _ _=>(aZ (i:=0) Xi rfl (Or.inl rfl))) (λ_ _ _ _ _=>(jN (aY dP (aT (gP (K:=Z.K) rfl) (pv 0) aG (λ_ _=>rfl)) aX (bA _))))
    (λ_ _ _ _ _=>(pv 0)) rfl)
  (aD (dQ PassesOwn.never rfl (cE (bU (aA aX (aA aX (aA aX aC))))) (aZ (i:=6) wS.nd rfl (Or.inl rfl))
   (aD (aQ (i:=7) wS.nd rfl (Or.inl rfl) (d9 Y81 hr rfl (aA (pv 6) (aA (pv 0) (aA (pv 2) (aA (pv 3) aC))))))
  (aF (bX (aY (rZ hu) (pv 4) (bU aC) (bA _)) (aF (bX (PW.pt (tL (aY (rZ hu) (d9 Y74 r1 rfl (aA (pv 7) aC)) (bU (aA aX aC)) (bA _)) (rM (aY iX (uI (pv 7) rfl) (aT bM (pv 4) aG (λ_ _=>rfl)) (bA _))))) (aF (aV jE)) bC)) (aF (bX (PW.pt (kZ (aY iX (pv 6) aX (bA _)) (iS (aY xU (bO bV rfl n_len PySem.boot_len (aA (pv 5) aC)) aG (bA _))))) (aF (bX (aY (rZ hu) (d9 Y74 r1 rfl (aA (pv 7) aC)) (bU (aA aX aC)) (bA _)) (aF (aV jE)) bC)) (aF (bX (nC (Iz (pv 7))) (aF (aV jE)) bC))))))))
  (aF (aV jE))))),?_⟩
 have lu:=rt.length;have ln:=A.ln;refine rJ (λσ' H'=>aS H H'/\∃L,σ'=[some (.ref n),some (.ref r),some (.int (a:Int)),some (.int (b:Int)),some (.ref L),none,none,none]/\H' L=some (.lst ((zi (hoI ds ds.length)).map V.int))) (λX hX=>?_) ?_
 ·refine⟨_,rfl,r,us,rfl,.inl sl,_,rfl,(),(),λD hD=>?_⟩;have sD:=aE hD (.lst []);refine kU (λi zs H'=>aS H H'/\H' D=some (.lst zs)/\zs=(zi (hoI ds i)).map V.int) ⟨sD,aB,rfl⟩ (λi zs H' h=>h.2.1) ?_ ?_
  ·rintro i zs H1 hi ⟨s1,e1,ez⟩ C hC;have hi:i < ds.length:=by lia
   obtain⟨⟨k,u,v,p⟩,hd⟩:∃d,ds[i]?=some d:=⟨_,getElem?_eq_getElem hi⟩
   obtain⟨t,z,et,hT,fz⟩:=(rt.same s1).at hd;have ip:=qM hd;have lz:zs.length<=100:=by rw[ez,length_map,pI];have:=Xc ds i;lia
   rw[Int.zero_add];refine⟨dU.1,dU.2,?_⟩;refine⟨_,rfl,_,rfl,r,_,_,_,rfl,rfl,s1.seq sl,bQ et,t,_,_,_,rfl,rfl,hT,rfl,rfl,_,rfl,?_⟩
   by_cases hk:k=.ho
   ·refine L2.ifT (by show decide (V.str k.wd=V.str "hold")=true;rw[Sl];exact decide_eq_true hk) ⟨_,rfl,e1,bN (),hC _ _ ⟨s1.change hD,aB,?_⟩⟩;rw[ez,Xg (by rw[ip];exact decide_eq_true hk),uJ,map_append];rfl
   ·refine L2.ifF (by show decide (V.str k.wd=V.str "hold")=false;rw[Sl];exact decide_eq_false hk) (hC _ _ ⟨s1,e1,?_⟩);rw[ez,qc9 (by rw[ip,decide_eq_false hk];decide)]
  ·rintro zs H1 ⟨s1,e1,ez⟩;refine hX _ _ ⟨s1,D,rfl,?_⟩;rw[e1,ez,show ((us.length:Nat):Int).toNat=ds.length by lia]
 rintro σ1 H1 ⟨s1,L,rfl,eL⟩
 try dsimp only
 refine rJ (λσ' H'=>aS H1 H'/\∃M ps,σ'=[some (.ref n),some (.ref r),some (.int (a:Int)),some (.int (b:Int)),some (.ref L),some (.ref M),none,none]/\H' M=some (.lst ps)/\ps.length=(pcs ds).length) (λX hX=>?_) ?_
 ·refine⟨_,rfl,r,rfl,⟨_,s1.seq sl⟩,λD hD=>?_⟩;have sD:=aE hD (.lst []);refine dL (xs:=us) (λi zs H'=>aS H1 H'/\H' D=some (.lst zs)/\zs.length=(yK ds i).length) ⟨sD,aB,rfl⟩ (λi zs H' h=>h.2.1) (λi zs H' _ h=>h.1.seq (s1.seq sl)) ?_ ?_
  ·rintro i zs x H2 hx ⟨s2,e2,ez⟩ C hC;have hi:i < ds.length:=by
    have:=(List.getElem?_eq_some_iff.mp hx).1;lia
   obtain⟨⟨k,u,v,p⟩,hd⟩:∃d,ds[i]?=some d:=⟨_,getElem?_eq_getElem hi⟩
   obtain⟨t,z,et,hT,fz⟩:=(rt.same (s1.trans s2)).at hd;obtain rfl:x=.ref t:=by rw[et] at hx;exact(Option.some.inj hx).symm
   have ip:=wQ hd;have lz:zs.length<=100:=by have:=Eo ds i;lia
   refine⟨dU.1,dU.2,?_⟩;refine⟨_,rfl,t,_,_,_,rfl,rfl,hT,rfl,rfl,_,rfl,?_⟩
   by_cases hk:k=.pc
   ·refine L2.ifT (by show decide (V.str k.wd=V.str "piece")=true;rw[Iv];exact decide_eq_true hk) ⟨_,rfl,e2,bN (),hC _ _ ⟨s2.change hD,aB,?_⟩⟩;rw[El (by rw[ip];exact decide_eq_true hk),List.length_append,List.length_append,ez];rfl
   ·refine L2.ifF (by show decide (V.str k.wd=V.str "piece")=false;rw[Iv];exact decide_eq_false hk) (hC _ _ ⟨s2,e2,?_⟩);rw[ez,Ja (by rw[ip,decide_eq_false hk];decide)]
  ·rintro zs H2 ⟨s2,e2,ez⟩;refine hX _ _ ⟨s2,D,zs,rfl,e2,?_⟩;rw[ez,lu];rfl
 rintro σ2 H2 ⟨s2,M,ps,rfl,eM,lp⟩;have s02:=s1.trans s2;have eL2:=s2 _ _ eL;clear s1 s2 eL
 try dsimp only
 refine⟨zl9 3,λW hW=>?_⟩;have sW:=aE hW (.lst [.str "trees",.str "partings",.str "sum"]);have eW:upd H2 W (.lst [.str "trees",.str "partings",.str "sum"]) W=some (.lst [.str "trees",.str "partings",.str "sum"]):=aB;generalize upd H2 W (.lst [.str "trees",.str "partings",.str "sum"])=H3 at sW eW ⊢;refine⟨W,rfl,⟨_,SqL.of eW⟩,?_⟩;have eL3:=sW _ _ eL2;have eM3:=sW _ _ eM;have s03:=s02.trans sW;have px:(cV (m:Int) (.int (a:Int)) && cV (m:Int) (.int (b:Int)))=true:=by
  have h1:cV (m:Int) (.int (a:Int))=true:=decide_eq_true ⟨(),()⟩;have h2:cV (m:Int) (.int (b:Int))=true:=decide_eq_true ⟨(),()⟩;rw[h1,h2];rfl
 clear eL2 eM s02 sW;refine dX (xs:=[.str "trees",.str "partings",.str "sum"]) (λi σ H'=>aS H3 H'/\∃z6 z7,σ=[some (.ref n),some (.ref r),some (.int (a:Int)),some (.int (b:Int)),some (.ref L),some (.ref M),z6,z7]) ⟨aS.refl _,none,none,rfl⟩ (λi σ H' _ h=>SqL.of (h.1 _ _ eW)) ?_ ?_
 ·rintro i y σ H4 hy ⟨s4,z6,z7,rfl⟩;obtain⟨wd,rfl,hwd⟩:∃wd:Str,y=.str wd/\(wd = "trees"\/wd = "sum"\/wd = "partings"):=by
   match i,hy with
   |0,e=>exact⟨_,(Option.some.inj e).symm,.inl rfl⟩
   |1,e=>exact⟨_,(Option.some.inj e).symm,.inr (.inr rfl)⟩
   |2,e=>exact⟨_,(Option.some.inj e).symm,.inr (.inl rfl)⟩
  refine⟨_,rfl,_,rfl,_,rfl,_,rfl,?_⟩
  skip
  refine⟨n,l,_,_,m,ds,A.same (s03.trans s4),.inl ⟨_,rfl⟩,.inl ⟨_,rfl⟩,wd,rfl,.inr (.inr ⟨px,hwd,QSt.of λx H5 s5 kp=>?_⟩)⟩;have s35:=s4.trans s5;refine⟨_,rfl,zl9 0,λe he=>?_⟩;have s6:=aE he (.lst []);have e6:upd H5 e (.lst []) e=some (.lst []):=aB;generalize upd H5 e (.lst [])=H6 at s6 e6 ⊢;have s36:=s35.trans s6;refine xR (ns:=zi (hoI ds ds.length)) (SqL.of (s36 _ _ eL3)) (SqL.of e6) ⟨_,rfl,?_⟩
  cases hG:hoI ds ds.length with
  |cons k rr=>
   refine L2.ifT rfl ?_;obtain⟨o,dx,rfl,eo,ed⟩:=kp.hd k rr hG;refine⟨_,rfl,o,Z.c_Held,some dx,12,"Held",rfl,⟨s6 _ _ eo,λdx' e=>by cases e;exact⟨_,s6 _ _ ed⟩⟩,kH,rfl,λl1 H7 s7 n7 e7=>?_⟩;refine⟨zl9 1,λl2 hl2=>?_⟩;have s8:=aE hl2 (.lst [.str "Held"]);have e8:upd H7 l2 (.lst [.str "Held"]) l2=some (.lst [.str "Held"]):=aB;generalize upd H7 l2 (.lst [.str "Held"])=H8 at s8 e8 ⊢;have s68:=s7.trans s8;refine uS (SqL.of (s8 _ _ e7)) (SqL.of e8) ∅ ⟨_,rfl,L2.ifF rfl ?_⟩;refine⟨_,rfl,o,Z.c_Held,dx,_,_,rfl,s68 _ _ (s6 _ _ eo),s68 _ _ (s6 _ _ ed),kH.ex,fh.hh,fh.nn,rfl,?_⟩;have eLk:atI ((zi (hoI ds ds.length)).map V.int) ((0:Nat):Int)=some (.int (k:Int)):=bQ (by rw[hG];rfl);refine⟨_,rfl,L,_,_,_,rfl,rfl,SqL.of (s68 _ _ (s36 _ _ eL3)),eLk,rfl,_,rfl,L2.ifF ⋯ ?_⟩;exact⟨s36.trans s68,_,_,rfl⟩
  |nil=>
   refine L2.ifF rfl ?_;refine⟨_,rfl,rfl,_,rfl,?_⟩
   by_cases hs:wd = "sum"
   ·refine L2.ifF (by subst hs;decide +kernel) (L2.ifF rfl ?_);obtain rfl:=kp.ok hG λz=>absurd hs z;exact⟨_,rfl,_,rfl,L2.ifF rfl ⟨s36,_,_,rfl⟩⟩
   refine L2.ifT (by simpa using hs) ?_;refine⟨_,rfl,M,ps,rfl,.inl (SqL.of (s36 _ _ eM3)),_,_,rfl,rfl,_,rfl,?_⟩
   by_cases c:12 < (pcs ds).length
   ·refine L2.ifT (decide_eq_true ()) ?_;obtain⟨o,rfl,eo⟩:=kp.tm hG hs c;refine⟨_,rfl,o,Z.c_TooMany,none,8,"TooMany",rfl,⟨s6 _ _ eo,λdx e=>by cases e⟩,kT,rfl,λl1 H7 s7 n7 e7=>?_⟩;refine⟨zl9 1,λl2 hl2=>?_⟩;have s8:=aE hl2 (.lst [.str "TooMany"]);have e8:upd H7 l2 (.lst [.str "TooMany"]) l2=some (.lst [.str "TooMany"]):=aB;generalize upd H7 l2 (.lst [.str "TooMany"])=H8 at s8 e8 ⊢;exact uS (SqL.of (s8 _ _ e7)) (SqL.of e8) ∅ ⟨_,rfl,L2.ifF rfl ⟨s36.trans (s7.trans s8),_,_,rfl⟩⟩
   ·refine L2.ifF (decide_eq_false ()) ?_;obtain rfl:=kp.ok hG λ_=>by lia
    exact⟨_,rfl,_,rfl,L2.ifF rfl ⟨s36,_,_,rfl⟩⟩
 ·rintro σ H4 ⟨s4,z6,z7,rfl⟩;exact q H4 (s03.trans s4)
theorem Rlaw:FZ CX0 13 Z.f84 (W.fnOf ("law") ("law") (eJ Am) (cU Am) (aI Am) .none Z.kV84 Z.dc84 Z.pm84 Z.an84 Z.cd84 Z.ct84) ["_law_script"] (Fa Z.K):=by
 refine F84.ok9 tO λ_ _ _ s H _ Q E hr h=>?_;obtain⟨a,ns,rfl,hS,h63,q⟩:=h;have r1:=hr.mono (show 1<=12 by lia);have r2:=hr.mono (show 2<=12 by lia);have r3:=hr.mono (show 3<=12 by lia);have r4:=hr.mono (show 4<=12 by lia);have r5:=hr.mono (show 5<=12 by lia);have r6:=hr.mono (show 6<=12 by lia);have r11:=hr.mono (show 11<=12 by lia);have hu:=hr.units;refine⟨_,(aD (aQ (i:=1) tO.nd rfl (Or.inl rfl) (bB gD aG (bB wL (aH Y67.G r1 rfl m67 F67.kp Y67.b .nil aM (aA (pv 0) (aA aG aC))) aG)))
  (aD (aQ (i:=2) tO.nd rfl (Or.inl rfl) (aH Y79.G r2 rfl m79 F79.kp Y79.b .nil aM (aA (pv 0) (aA (pv 1) aC))))
  (aD (aQ (i:=3) tO.nd rfl (Or.inl rfl) (aH Y73.G r6 rfl m73 F73.kp Y73.b .nil aM (aA (pv 1) (aA (pv 2) aC))))
  (aD (aQ (i:=4) tO.nd rfl (Or.inl rfl) (aH Y68.G r1 rfl m68 F68.kp Y68.b .nil aM (aA (aH Y67.G r1 rfl m67 F67.kp Y67.b .nil aM (aA (pv 0) (aA aG aC))) (aA aG (aA (pv 1) aC)))))
  (aD (aQ (i:=5) tO.nd rfl (Or.inl rfl) (aH Y68.G r1 rfl m68 F68.kp Y68.b .nil aM (aA (aH Y67.G r1 rfl m67 F67.kp Y67.b .nil aM (aA (pv 0) (aA aG aC))) (aA aG (aA (pv 1) aC)))))
  (aD (aQ (i:=6) tO.nd rfl (Or.inl rfl) (aT bM (bU (aA (Ag sQ aG) (aA (pv 1) (aA jE (aA xX (aA aX (aA (cQ (aA aG (aA aG aC))) aC))))))) (aH Y68.G r1 rfl m68 F68.kp Y68.b .nil aM (aA (aH Y67.G r1 rfl m67 F67.kp Y67.b .nil aM (aA (pv 0) (aA aG aC))) (aA aG (aA aG aC)))) (λ_ _=>rfl)))
  (aD (bX (gZ (fE (aH Y82.G hr rfl m82 F82.kp Y82.b .nil aM (aA (pv 3) (aA (pv 4) (aA (pv 5) (aA (pv 6) aC))))))) (aF (aV jE)) bC)
  (aD (bX (PW.pt (tL (gZ (fE (aH Y78.G r5 rfl m78 F78.kp Y78.b .nil aM (aA (aH Y81.G r11 rfl m81 F81.kp Y81.b .nil aM (aA aX (aA (pv 3) (aA (pv 4) (aA (pv 5) aC))))) (aA (pv 2) (aA (pv 1) aC)))))) (rM (gZ (fE (aH Y83.G hr rfl m83 F83.kp Y83.b .nil aM (aA (pv 3) (aA (pv 2) (aA (pv 4) (aA (pv 5) aC)))))))))) (aF (aV jE)) bC)
  (aD (dQ PassesOwn.never rfl (cE (aH Y77.G r4 rfl m77 F77.kp Y77.b .nil aM (aA (pv 2) (aA (pv 1) aC)))) (aZ (i:=7) tO.nd rfl (Or.inl rfl))
   (aD (bS (oU PySem.F.plainAttrs_list PySem.F.slot_list_append PySem.F.type_list_append eY (pv 2) (aA (cQ (aA aX (aA (pv 7) (aA aG (aA (cQ (aA aG (aA aG aC))) aC))))) aC)))
  (aF (bS (Ju (pv 3) NTx.cl X6 R29 r5 b29 .nil aM (aA (aH Y22.G r3 rfl m22 F22.kp Y22.b .nil aM (aA (aT bM (pv 2) (Ag sQ aG) (λ_ _=>rfl)) aC)) aC))))))
  (aF (aV (aH Y78.G r5 rfl m78 F78.kp Y78.b .nil aM (aA (aH Y81.G r11 rfl m81 F81.kp Y81.b .nil aM (aA aX (aA (pv 3) (aA (pv 4) (aA (pv 5) aC))))) (aA (pv 2) (aA (pv 1) aC))))))))))))))),?_⟩
 refine rJ (λσ' H'=>aS H H'/\∃m:Nat,1<=m/\m<=4/\σ'=[some (.ref a),some (.int (m:Int)),none,none,none,none,none,none]) (λX hX=>?_) ?_
 ·refine⟨_,rfl,a,ns,0,0,rfl,rfl,hS,h63,λc H1 s1=>?_⟩;have c0:=Int.emod_nonneg c (show (3:Int)≠0 by decide);have c1:=Int.emod_lt_of_pos c (show (0:Int) < 3 by decide);obtain⟨m,hm⟩:∃m:Nat,2+c % 3=(m:Int):=⟨(2+c % 3).toNat,()⟩
  exact⟨_,_,rfl,rfl,(show (0:Int) < 3 by decide),_,_,rfl,rfl,hX _ _ ⟨s1,m,(),(),by rw[<- hm];rfl⟩⟩
 rintro σ1 H1 ⟨s1,m,m67,m68,rfl⟩;refine⟨_,rfl,_,rfl,a,ns,m,rfl,s1.seq hS,h63,m67,(),λr us ds H2 s2 nr er hR D l16=>?_⟩;refine⟨_,rfl,_,rfl,(m:Int),r,us,ds,rfl,(),(),SqL.of er,hR,λd hd=>(D d hd).rd,(),λn ln H3 s3 nln nt=>?_⟩;have lr:ln≠r:=λz=>by rw[z,er] at nln;cases nln
 have s03:=s1.trans (s2.trans s3);have er3:=s3 _ _ er;have nr3:NR Z.c_Net Z.K H3 n ln r us m ds:=⟨⟨nt,D,m67,(),()⟩,SqL.of er3,hR.same s3⟩
 clear er hR nt s1 s2 s3
 try dsimp only
 refine qg9 (λσ' H'=>aS H3 H'/\∃(p q':Nat) (x:V),σ'=[some (.ref a),some (.int (m:Int)),some (.ref r),some (.ref n),some (.int (p:Int)),some (.int (q':Int)),some x,none]/\p < m/\q' < m/\(∀H'',aS H' H''->jU Z.K H'' x)/\cV (m:Int) x=false) (λX hX=>?_) ?_
 ·refine⟨_,rfl,a,ns,3,3,rfl,rfl,s03.seq hS,h63,λc H4 s4=>?_⟩;refine⟨_,rfl,c,3,(m:Int),rfl,(),(),(),λp H5 p0 pm s5=>?_⟩;obtain⟨p,rfl⟩:∃k:Nat,p=(k:Int):=⟨p.toNat,()⟩
  refine⟨_,rfl,a,ns,3,3,rfl,rfl,(s03.trans (s4.trans s5)).seq hS,h63,λc H6 s6=>?_⟩;refine⟨_,rfl,c,4,(m:Int),rfl,(),(),(),λq' H7 q0 qm s7=>?_⟩;obtain⟨q',rfl⟩:∃k:Nat,q'=(k:Int):=⟨q'.toNat,()⟩
  have s37:=s4.trans (s5.trans (s6.trans s7));refine⟨1,rfl,_,rfl,zl9 2,λt ht=>?_⟩;have s8:=aE ht (.tup [.int 0,.int 1]);have e8:upd H7 t (.tup [.int 0,.int 1]) t=some (.tup [.int 0,.int 1]):=aB;generalize upd H7 t (.tup [.int 0,.int 1])=H8 at s8 e8 ⊢;refine⟨zl9 6,λL hL=>?_⟩;have s9:=aE hL (.lst [V.int (-1),.int (m:Int),.bl true,.non,.str "0",.ref t]);have e9:upd H8 L (.lst [V.int (-1),.int (m:Int),.bl true,.non,.str "0",.ref t]) L=some (.lst [V.int (-1),.int (m:Int),.bl true,.non,.str "0",.ref t]):=aB;generalize upd H8 L (.lst [V.int (-1),.int (m:Int),.bl true,.non,.str "0",.ref t])=H9 at s9 e9 ⊢;have s39:=s37.trans (s8.trans s9);refine⟨_,rfl,a,ns,3,3,rfl,rfl,(s03.trans s39).seq hS,h63,λc HA sA=>?_⟩;refine⟨c,5,6,rfl,(),(),(),λj HB j0 j6 sB=>?_⟩;obtain⟨x,ex,hx,px⟩:=Za (K:=Z.K) m ((s9.trans (sA.trans sB)) _ _ e8) j0 j6;exact⟨L,_,_,_,rfl,rfl,SqL.of ((sA.trans sB) _ _ e9),ex,hX _ _ ⟨s39.trans (sA.trans sB),p,q',x,rfl,(),(),hx,px⟩⟩
 rintro σ4 H4 ⟨s4,p,q',x,rfl,hp,hq,hx,px⟩;have nr4:=nr3.same s4;have er4:=s4 _ _ er3;clear hS h63 s03 nr3 er3 s4
 try dsimp only
 refine qj7 (λσ' H'=>aS H4 H'/\σ'=[some (.ref a),some (.int (m:Int)),some (.ref r),some (.ref n),some (.int (p:Int)),some (.int (q':Int)),some x,none]) (λX hX=>?_) ?_
 ·refine⟨_,rfl,_,rfl,_,rfl,_,rfl,n,ln,x,p,q',m,ds,rfl,nr4.a,hx,px,λH5 s5=>⟨_,rfl,L2.ifF rfl ?_⟩⟩;have nr5:=nr4.same s5;refine⟨_,rfl,_,rfl,_,rfl,?_⟩;refine Yi nr5.a hp hq λx2 H6 s6 kp=>?_;have nr6:=nr5.same s6;refine⟨_,rfl,_,rfl,x2,r,us,m,ds,rfl,nr6.sl,nr6.rt,nr6.a.pt,m67,(),nr6.a.ln,nr6.a.lf,kp,λH7 s7=>⟨_,rfl,L2.ifF rfl ?_⟩⟩;have nr7:=nr6.same s7;refine⟨_,rfl,_,rfl,_,rfl,_,rfl,n,ln,r,us,p,q',m,ds,rfl,nr7.a,nr7.sl,nr7.rt,hp,hq,λH8 s8=>⟨_,rfl,L2.ifF rfl ?_⟩⟩;exact hX _ _ ⟨s5.trans (s6.trans (s7.trans s8)),rfl⟩
 rintro σ8 H8 ⟨s8,rfl⟩;have nr8:=nr4.same s8;have er8:=s8 _ _ er4;have lf5:=Ux m m67 ds;clear nr4 er4 s8 hx px
 try dsimp only
 refine rJ (λσ' H'=>∃us' z8,σ'=[some (.ref a),some (.int (m:Int)),some (.ref r),some (.ref n),some (.int (p:Int)),some (.int (q':Int)),some x,z8]/\NR Z.c_Net Z.K H' n ln r us' m (ds++pcF (eU m ds))) (λX hX=>?_) ?_
 ·refine⟨_,rfl,_,rfl,r,us,m,ds,rfl,nr8.sl,nr8.rt,nr8.a.pt,m67,(),nr8.a.ln,nr8.a.lf,λl H9 s9 nl el=>?_⟩;have er9:=s9 _ _ er8;have l_r:l≠r:=λz=>by rw[z,er8] at nl;cases nl
  have l_n:l≠ln:=λz=>by
   obtain⟨_,ts,e,_⟩:=nr8.a.nt;rw[z,e] at nl;cases nl
  have nr9:=nr8.same s9;refine⟨l,rfl,⟨_,SqL.of el⟩,?_⟩;refine dX (xs:=(eU m ds).map V.int) (λi σ H'=>H' l=some (.lst ((eU m ds).map V.int))/\∃us' z8,σ=[some (.ref a),some (.int (m:Int)),some (.ref r),some (.ref n),some (.int (p:Int)),some (.int (q':Int)),some x,z8]/\H' r=some (.lst us')/\Rts Z.K H' us' (ds++pcF ((eU m ds).take i))/\dW Z.c_Net Z.K H' n ln (m:Int) (ds++pcF ((eU m ds).take i))) ⟨el,us,none,rfl,er9,by simpa[pcF] using nr9.rt,by simpa[pcF] using nr9.a.nt⟩ (λi σ H' _ h=>SqL.of h.1) ?_ ?_
  rotate_left
  ·rintro σ HA ⟨_,us',z8,rfl,erA,hRA,ntA⟩;rw[length_map,take_length] at hRA ntA;refine hX _ _ ⟨us',z8,rfl,⟨ntA,?_,m67,(),?_⟩,SqL.of erA,hRA⟩
   rotate_left
   ·rw[List.length_append];unfold pcF;rw[length_map];lia
   ·intro d hd;rcases mem_append.mp hd with z | z
    ·exact D d z
    ·obtain⟨p1,hp1,rfl⟩:=mem_map.mp z;obtain⟨p',rfl,pm⟩:=Jp hp1;exact d53 m67 () ()
  rintro i y σ HA hy ⟨elA,us',z8,rfl,erA,hRA,ntA⟩;obtain⟨p,hp,rfl⟩:∃p,(eU m ds)[i]?=some p/\y=.int p:=by
   rw[getElem?_map] at hy
   cases h:(eU m ds)[i]? with
   |none=>rw[h] at hy;cases hy
   |some p=>rw[h] at hy;cases hy;exact⟨p,rfl,rfl⟩
  have hi:=(List.getElem?_eq_some_iff.mp hp).1;obtain⟨p',rfl,pm⟩:=Jp (mem_of_getElem? hp);have lA:=hRA.length;have lpc:(ds++pcF ((eU m ds).take i)).length<=19:=by
   rw[List.length_append];unfold pcF;rw[length_map,length_take];lia
  refine⟨_,rfl,.inl ⟨rfl,_,SqL.of erA⟩,_,rfl,zl9 2,λz hz=>?_⟩;have sz:=aE hz (.tup [.int 5,.int 3]);have ez:upd HA z (.tup [.int 5,.int 3]) z=some (.tup [.int 5,.int 3]):=aB;generalize upd HA z (.tup [.int 5,.int 3])=HB at sz ez ⊢;refine⟨zl9 4,λt ht=>?_⟩;have st:=aE ht (.tup [.str "piece",.int (p':Int),.int 0,.ref z]);have et:upd HB t (.tup [.str "piece",.int (p':Int),.int 0,.ref z]) t=some (.tup [.str "piece",.int (p':Int),.int 0,.ref z]):=aB;generalize upd HB t (.tup [.str "piece",.int (p':Int),.int 0,.ref z])=HC at st et ⊢;have sC:=sz.trans st;have erC:=sC _ _ erA;refine⟨r,us',.ref t,rfl,rfl,erC,bN (),?_⟩;have TC:SqT Z.K HC t [.str "piece",.int (p':Int),.int 0,.ref z]:=SqT.of et;have FC:Fq Z.K HC z (5,3):=Fq.of (p:=(5,3)) (st _ _ ez);have RD1:Rts Z.K (upd HC r (.lst (us'++[.ref t]))) (us'++[.ref t]) ((ds++pcF ((eU m ds).take i))++[(.pc,(p':Int),0,(5,3))]):=Rts.upd erC ((hRA.same sC).app (.cons (k:=.pc) TC FC .nil));have xD:kQ r HC (upd HC r (.lst (us'++[.ref t]))):=λb o h ne=>by rw[aR ne];exact h
  have ntD:=(ntA.same sC).x erC xD lr;have elD:upd HC r (.lst (us'++[.ref t])) l=some (.lst ((eU m ds).map V.int)):=xD _ _ (sC _ _ elA) l_r;have TD:=xD.seqT erC TC;have FD:=xD.seqT erC FC;have erD:upd HC r (.lst (us'++[.ref t])) r=some (.lst (us'++[.ref t])):=aB;clear xD TC FC et ez erC sC st sz ntA hRA erA elA;generalize upd HC r (.lst (us'++[.ref t]))=HD at RD1 ntD elD TD FD erD ⊢;obtain⟨dn,hn⟩:=ntD.ob;refine⟨_,rfl,n,dn,_,rfl,hn,cY _ _ ∅ ∅,_,rfl,1,rfl,r,_,_,.ref t,rfl,rfl,SqL.of erD,?_,?_⟩
  ·exact Dw us' (.ref t)
  refine⟨t,_,_,_,_,rfl,TD,.pc,rfl,λy HE sE ny rw=>?_⟩;have d5:=d53 (m:=m) (p:=(p':Int)) m67 () ();refine⟨n,ln,y,z,(m:Int),_,.pc,(p':Int),0,(5,3),rfl,ntD.same sE,rw,sE.fq FD,d5.rd,(),λHF xF ntF=>?_⟩;have tk:(eU m ds).take (i+1)=(eU m ds).take i++[(p':Int)]:=by rw[take_add_one,hp];rfl
  have pk:ds++pcF ((eU m ds).take (i+1))=(ds++pcF ((eU m ds).take i))++[(.pc,(p':Int),0,(5,3))]:=by rw[tk];unfold pcF;rw[map_append,List.append_assoc];rfl
  obtain⟨ts,hts,_⟩:=(ntD.same sE).ls;refine⟨xF _ _ (sE _ _ elD) l_n,us'++[.ref t],_,rfl,xF _ _ (sE _ _ erD) (Ne.symm lr),?_,?_⟩
  ·rw[pk];exact kQ.rts hts xF (RD1.same sE)
  ·rw[pk];exact ntF
 rintro σ9 H9 ⟨us',z8,rfl,nr9⟩;refine⟨_,rfl,_,rfl,_,rfl,?_⟩;refine Yi nr9.a hp hq λx2 HA sA kp=>?_;have nrA:=nr9.same sA;exact⟨_,rfl,_,rfl,x2,r,us',m,_,rfl,nrA.sl,nrA.rt,nrA.a.pt,m67,(),nrA.a.ln,nrA.a.lf,kp,λHB _=>q HB⟩
end
theorem qe8 (c:CZ){fa:Addr}(hfa:c.mg "law"=some (.ref fa))(h:GZ c):
  ∃fd:FuncData,(∀(s:Shared) (v:Value),BindsTo s fd ⟨[v],[]⟩ [("_law_script",v)])/\∀base:Heap,c.K.In base->base.Ns mainGlobals c.mg->aK c.P c.w c.K c.mg base CX0 13 fa fd ["_law_script"] (Fa c.K):=by
 have e:=hfa.symm.trans h.m84
 cases e
 refine⟨W.fnOf "law" "law" (eJ Am) (cU Am) (aI Am) .none c.kV84 c.dc84 c.pm84 c.an84 c.cd84 c.ct84,λs v=>.of_eq rfl,λbase _ _=>?_⟩
 refine Classical.byContradiction λn=>?_
 have e:=Classical.epsilon_spec (p:=λx:CZ×Heap=>GZ x.1/\¬OZ x.1 x.2) ⟨(c,base),h,n⟩
 have i:GZ Z:=by unfold Z;exact e.1
 have j:=@Rlaw i
 unfold FZ Z ZB at j;exact e.2 j
theorem qr2 {l:W.OpenLaw}{XP:(Str->Option Value)->Heap->Prop}{K:Params->Frag}(hn:l.most=some 63)(hdf:d.params.defaults=[])(hY:∀(w:World) (h:Heap),YP w h->(K w.params).In h)(F:∀(w:World) (mg:Str->Option Value) (fa:Addr) (h:Heap),(K w.params).In h->h.Ns mainGlobals mg->mg d.name=some (.ref fa)->
   ∃fd:FuncData,(∀(s:Shared) (u:Value),BindsTo s fd ⟨[u],[]⟩ [("_law_script",u)])/\∀base:Heap,(K w.params).In base->base.Ns mainGlobals mg->aK l.prog w (K w.params) mg base CX0 13 fa fd ["_law_script"] (Fa (K w.params))):
  W.WalkO q loose XP YP l.row.toRowW d [] (λf vs=>PySem.call f vs):=
 L2.Vk (n:=63) (k:=13) (x:="_law_script") (CX:=λ_=>CX0) (sp:=λw=>Fa (K w.params)) hn ∅ hdf ⟨rfl,∅,∅⟩ hY F (λ_ _ a ns hl _ hS=>⟨a,ns,rfl,hS,hl,λ_=>rfl⟩) λ_ _ _ _ _ z=>z
end K70
local macro_rules | `(tactic| walk_at "F9")=>`(tactic| (refine' L2.uH ?l9 ?c9 ?kk9;(case l9=>k_is);(case c9=>k_is);(case kk9=>show _=_;k_is)))
namespace PySem.W.Fast
noncomputable section
def Q:=Nat
def tw5577823105940947503:=Q
def tw6117353776868636091:=Q
def tw14940529809262219622:=Q
def tw7356641588235225192:=Q
def tw6460965951879507329:=Q
def tw2836991836818226403:=Q
def tw17007966431941212200:=Q
def tw2194423988054326681:=Q
def tw673202278561160629:=Q
def tw11100707852548801799:=Q
def tw17267740310388842198:=Q
def tw16668353094572817310:=Q
def tw10725701143490486376:=Q
def tw10568555382043364251:=Q
def tw446445385146775841:=Q
def tw16317236059557821426:=Q
def tw6701257325258384856:=Q
def tw11673396524404689969:=Q
def tw2708084297635780227:=Q
def tw13297001022451020008:=Q
def tw14360469739431936163:=Q
def tw826959774144630432:=Q
def tw5277679471352389344:=Q
def tw14727595326895834027:=Q
def tw9210712454429363463:=Q
def tw12307489486283894906:=Q
def tw7340251246910803758:=Q
def tw14062509989948722566:=Q
def tw17691772785167072298:=Q
def tw2428964189309735718:=Q
def tw15676602972747930691:=Q
def tw5558942286522751368:=Q
def tw4539885484452374908:=Q
def tw15144358966940531081:=Q
def tw7166443715702699778:=Q
def tw8950444909938345725:=Q
def tw7373395410151764762:=Q
def tw9505529897511828243:=Q
def tw13289929466261249594:=Q
def tw3809536513313298509:=Q
def tw6812060063747630836:=Q
def tw14177427524987919418:=Q
def tw16977638683537550868:=Q
def tw460498560359275112:=Q
def tw8568346923602287971:=Q
def tw943153684636539480:=Q
def tw8197267145548440352:=Q
def tw17072307299994299739:=Q
def tw5494673824317258863:=Q
def tw13833911519202768674:=Q
def tw8301383417970395616:=Q
def tw18290411967271012025:=Q
def tw377020519612215098:=Q
def tw4622189013857882791:=Q
def tw14918286329849595567:=Q
def tw5434714606970132261:=Q
def tw8746002284834112805:=Q
def tw3675756835803394599:=Q
def tw14925305371517896908:=Q
def tw14398923564610555966:=Q
def tw13504206739736379460:=Q
def tw17427773256106540566:=Q
def tw7958102286032303794:=Q
def tw15805567844454934701:=Q
def tw6527056575153818387:=Q
def tw10988401157794334119:=Q
def tw12003151060703217961:=Q
def tw18354870765193379425:=Q
def tw5102070762262363283:=Q
def tw17040088131188859017:=Q
def tw6940095505497465224:=Q
def tw2626090257295702720:=Q
def tw6739746693994006361:=Q
def tw1819883171951593162:=Q
def tw5920993264287883714:=Q
def tw1141035102011506860:=Q
def tw15415667517957979622:=Q
def tw13242687164069251148:=Q
def tw1057486186420569122:=Q
def tw7702454133491758686:=Q
def tw13382533552630319853:=Q
def tw655451932504085951:=Q
def tw6641765229693809755:=Q
def tw9018578321815619056:=Q
def tw930415798344421220:=Q
def tw1622498483070193892:=Q
def tw3042500891424463307:=Q
def tw5173922825999101940:=Q
def tw9850584341405928377:=Q
def tw57659206651509127:=Q
def tw11127401870404582887:=Q
def tw3153864429809471673:=Q
def tw14341879473429529111:=Q
def tw35692694427787450:=Q
def tw12272627125771652005:=Q
def tw9133105745382224318:=Q
def tw9668199799948709281:=Q
def tw11633998592600908913:=Q
def tw7257445414918661423:=Q
def tw8295841316604740594:=Q
def tw9116807460966984381:=Q
def tw5185854948243054788:=Q
def tw13327040857504754750:=Q
def tw1320262482803993208:=Q
def tw3908035557161212295:=Q
def tw16799828745254884047:=Q
def tw966689714983383096:=Q
def tw15626792548225521783:=Q
def tw4919325331789084404:=Q
def tw2422199689992214096:=Q
def tw11826344091257388711:=Q
def tw17272669543184399138:=Q
def tw644722609548950598:=Q
def tw7077006482828880834:=Q
def tw16166985440817649796:=Q
def tw3848297329398484422:=Q
def tw18221241612588485225:=Q
def tw6236222640642512983:=Q
def tw2114943422864479286:=Q
def tw13249878134753545636:=Q
def tw1178756977460239667:=Q
def tw6203687734955451257:=Q
def tw17215552802399755847:=Q
def tw2640090916979551789:=Q
def tw12852119644937076167:=Q
def tw10001968484183721628:=Q
def tw13352061176309087139:=Q
def tw293454433657122049:=Q
def tw677390180678854046:=Q
def tw2808963291411063231:=Q
def tw9055690882518597409:=Q
def tw1769735089368275371:=Q
def tw14422723220223721642:=Q
def tw13832776118721213339:=Q
def tw1705012846089782531:=Q
def tw13505786092620418074:=Q
def tw10840897279818816907:=Q
def tw2437602313695404522:=Q
def tw12632357894881472291:=Q
def tw11837251099168116998:=Q
def tw16684376301874390784:=Q
def tw580227449085187761:=Q
def tw17433181827699748544:=Q
def tw2192429219469345506:=Q
def tw759118901947193336:=Q
def tw274471972308588461:=Q
def tw1012942222828857050:=Q
def tw11027208477682071928:=Q
def tw5707756534804927575:=Q
def tw7040736941968415114:=Q
def tw2011683649781830301:=Q
def tw460050651498794624:=Q
def tw3388866210857623940:=Q
def tw4511558119534500406:=Q
def tw6682826341369924772:=Q
def tw17553189544933250027:=Q
def tw2232624041355542479:=Q
def tw17594550083405210375:=Q
def tw3947591098793612156:=Q
def tw799270509648874313:=Q
def tw9090063423350914138:=Q
def tw4676799824834619915:=Q
def tw14355361145947413366:=Q
def tw1897712261590740440:=Q
def tw11701482816619109880:=Q
def tw13838659194503677477:=Q
def tw14279592789743003981:=Q
def tw1564921167114129224:=Q
def tw16503341535384875323:=Q
def tw5553774164852127713:=Q
def tw14478011584989062585:=Q
def tw10165388207587241796:=Q
def tw14364652508998489835:=Q
def tw9449580783965916969:=Q
def tw16850791715049933433:=Q
def tw2770899277641962082:=Q
def tw16312795505029025620:=Q
def tw14303389819079076197:=Q
def tw12361736166469981961:=Q
def tw8494376601014479218:=Q
def tw3824008292511543548:=Q
def tw8118191131463673565:=Q
def tw3521690500568573281:=Q
def tw8413936512631113156:=Q
def tw16867409144372848788:=Q
def tw14367918850060112255:=Q
def tw1879831593499630233:=Q
def tw14103184954347847999:=Q
def tw17104573538574603249:=Q
def tw12472233925107983790:=Q
def tw8824571019690654558:=Q
def tw9616867505128289296:=Q
def tw17387842627035977927:=Q
def tw873368260523738195:=Q
def tw1067328223186740254:=Q
def tw4274510385957586640:=Q
def tw16737038173420396426:=Q
def tw877191114500044984:=Q
def tw1075565393201909331:=Q
def tw13409066865709428440:=Q
def tw696665010077390408:=Q
def tw3528474486969579491:=Q
def tw3014745247170990070:=Q
def tw8177616471346553369:=Q
def tw10758147022194347106:=Q
def tw5876615842055958513:=Q
def tw4306423591136535649:=Q
def tw3628765529710999966:=Q
def tw7250233325250839640:=Q
def tw7470363887231322266:=Q
def tw8523027415524123537:=Q
def tw9042607597899127688:=Q
def tw15562399373437561644:=Q
def tw5406340047558838586:=Q
def tw13684912091535213116:=Q
def tw10186084681013657377:=Q
def tw14155364594383118141:=Q
def tw1106427984608911203:=Q
def tw1847862408881917150:=Q
def tw6907544719940006778:=Q
def tw10988967547471952928:=Q
def tw5587387578498537282:=Q
def tw14066962028877070643:=Q
def tw3078372150259180401:=Q
def tw9955920090187961033:=Q
def tw14015490871771478700:=Q
def tw14225587904893677940:=Q
def tw4532156471327977568:=Q
def tw16644992863498986231:=Q
def tw16504553847243383726:=Q
def tw8298924083569936542:=Q
def tw4571441512150597091:=Q
def tw347197429790953031:=Q
def tw9356228994175044503:=Q
def tw8010204490545371015:=Q
def tw3639118151648668832:=Q
def tw5074205959650950669:=Q
def tw17734070530474198103:=Q
def tw15253669805895075077:=Q
def tw15111904985942121561:=Q
def tw8569532851468258151:=Q
def tw5109426362828776535:=Q
def tw9192001015650630968:=Q
def tw4455403284402149445:=Q
def tw5678134839312790145:=Q
def tw15594076080058538015:=Q
def tw16574415742876563046:=Q
def tw7843641969863365538:=Q
def tw494443129486604016:=Q
def tw3709848339083452696:=Q
def tw5822575208566359163:=Q
def tw3509513619150644142:=Q
def tw5288035413164840089:=Q
def tw8132594161783764635:=Q
def tw146792104853727541:=Q
def tw548487815988046516:=Q
def tw7230452111585339170:=Q
def tw8557971413698728999:=Q
def tw11473780974601265505:=Q
def tw11170842932959287744:=Q
def tw13407347909015351950:=Q
def tw277732720929034906:=Q
def tw9936427035510059613:=Q
def tw8030352549163530651:=Q
def tw12215343851495372971:=Q
def tw1392734117276969953:=Q
def tw603752900411956225:=Q
def tw11101729521502637949:=Q
def tw2330995882388493472:=Q
def tw9701911497862822475:=Q
def tw9616840834560935663:=Q
def tw7773241857755864593:=Q
def tw13256257758464899584:=Q
def tw2793422764468528095:=Q
def tw9782378536707657658:=Q
def tw2950304418772502715:=Q
def tw14496542317157058392:=Q
def tw11529547955360171133:=Q
def tw10590114376159851336:=Q
def tw12388019647924947481:=Q
def tw324938231529976159:=Q
def tw475533280672839290:=Q
def tw8520312267018504165:=Q
def tw1589659792375906853:=Q
def tw3250391224775446147:=Q
def tw14123957916997991982:=Q
def tw17185235118248627668:=Q
def tw3836796562182665178:=Q
def tw13034262313070475266:=Q
def tw18032905551625606292:=Q
def tw16571036197330078949:=Q
def tw9650219871590418166:=Q
def tw16314611196346577675:=Q
def tw2158189025082489918:=Q
def tw12481462016323217728:=Q
def tw8604063403748126785:=Q
def tw3739883444430533921:=Q
def tw5661081780878204493:=Q
def tw15027853379614075796:=Q
def tw13483352900892268065:=Q
def tw5721833572219311189:=Q
def tw18061455249605972802:=Q
def tw9895635336560172426:=Q
def tw3940078839875085566:=Q
def tw3163490012743110893:=Q
def tw602347991822625294:=Q
def tw11453067018057412646:=Q
def tw14522538080276412470:=Q
def tw14856086468255953297:=Q
def tw2607239992109276848:=Q
def tw15536364142399775001:=Q
def tw18372167188364806286:=Q
def tw314914752030584799:=Q
def tw8859901046096134532:=Q
def tw16769390881061811045:=Q
def tw4092616427913573570:=Q
def tw9069274602308825078:=Q
def tw3801841286692395787:=Q
def tw5482003589596622767:=Q
def tw18285503885996560836:=Q
def tw13241065305542021564:=Q
def tw1091682497341053046:=Q
def tw2117867813781939917:=Q
def tw386999464236547018:=Q
def tw16519222915758557840:=Q
def tw12084619787501846319:=Q
def tw3786650936415564755:=Q
def tw1945998114766684639:=Q
def tw16280979725777504870:=Q
def tw15818304886664537536:=Q
def tw10588332983042052082:=Q
def tw7608871866483749381:=Q
def tw15768503623422670394:=Q
def tw1251372837684095917:=Q
def tw14958308762241010800:=Q
def tw17561504397467670698:=Q
def tw3903149046931215916:=Q
def tw14315005107021616252:=Q
def tw3920386184989940890:=Q
def tw7862349608205626976:=Q
def tw1753950099217803970:=Q
def tw10563176523663721144:=Q
def tw16311499172392012706:=Q
def tw11660720221060718085:=Q
def tw3097314250220226308:=Q
def tw2106410356208834388:=Q
def tw5038439674337926170:=Q
def tw1313198295781126498:=Q
end
end PySem.W.Fast
open PySem PySem.W PyProof.Rows
set_option maxRecDepth 100000 in
set_option maxHeartbeats 0 in
theorem PySem.Challenge.cw_ohmyard_k70_refused_between_holds : PySem.Challenge.rw_ohmyard_k70_refused_between.Holds := by
  w_on; o_law; z_head; (case hw => w_witness2)
  k_fill
  refine L2.Rt (fun _ => by kernel_rfl) (K70.qr2 (l := PySem.Challenge.rw_ohmyard_k70_refused_between) rfl rfl (fun w h Y => Y) ?F)
  case F =>
    intro w mg fa h KX G hmg
    refine' K70.qe8 {P:=PySem.Challenge.rw_ohmyard_k70_refused_between.prog,w:=w,mg:=mg,K:=PySem.Challenge.cw_ohmyard_k70_refused_between_holds.heap_805 w.params,..} hmg (.mk ?_ ?_ ?_ ?_ ?_ ?_ ?_ ?_ ?_ ?_ ?_ ?_ ?_ ?_ ?_ ?_ ?_ ?_ ?_ ?_ ?_ ?_ ?_ ?_ ?_ ?_ ?_ ?_ ?_ ?_ ?_ ?_ ?_ ?_ ?_ ?_ ?_ ?_ ?_ ?_ ?_ ?_ ?_ ?_ ?_ ?_ ?_ ?_ ?_ ?_ ?_ ?_ ?_ ?_ ?_ ?_ ?_ ?_ ?_ ?_ ?_ ?_ ?_ ?_ ?_ ?_ ?_ ?_ ?_ ?_ ?_ ?_ ?_ ?_ ?_ ?_ ?_ ?_ ?_ ?_ ?_ ?_ ?_ ?_ ?_ ?_ ?_ ?_ ?_ ?_ ?_ ?_ ?_ ?_ ?_ ?_ ?_ ?_ ?_ ?_ ?_ ?_ ?_ ?_ ?_ ?_ ?_ ?_ ?_ ?_ ?_ ?_ ?_ ?_ ?_ ?_ ?_ ?_ ?_ ?_ ?_ ?_ ?_ ?_ ?_ ?_ ?_ ?_ ?_ ?_ ?_ ?_ ?_ ?_ ?_ ?_ ?_ ?_ ?_ ?_ ?_ ?_ ?_ ?_ ?_ ?_ ?_ ?_ ?_ ?_ ?_ ?_ ?_ ?_ ?_ ?_ ?_ ?_ ?_ ?_ ?_ ?_ ?_ ?_ ?_ ?_ ?_ ?_ ?_ ?_ ?_ ?_ ?_ ?_ ?_ ?_ ?_ ?_ ?_ ?_ ?_ ?_ ?_ ?_ ?_ ?_ ?_ ?_ ?_ ?_ ?_ ?_ ?_ ?_ ?_ ?_ ?_ ?_ ?_ ?_ ?_ ?_ ?_ ?_ ?_ ?_ ?_ ?_ ?_ ?_ ?_ ?_ ?_ ?_ ?_ ?_ ?_ ?_ ?_ ?_ ?_ ?_ ?_ ?_ ?_ ?_ ?_ ?_ ?_ ?_ ?_ ?_ ?_ ?_ ?_ ?_ ?_ ?_ ?_ ?_ ?_ ?_ ?_ ?_ ?_ ?_ ?_ ?_ ?_ ?_ ?_ ?_ ?_ ⟨(mg_none_of KX G ?_),(mg_none_of KX G ?_),(mg_none_of KX G ?_),(mg_none_of KX G ?_)⟩ ⟨L2.kE ⟨?_,?_,?_,?_⟩ ⟨?_,?_,?_,?_⟩ ⟨?_,?_,?_,?_⟩,L2.kE ?_ ?_ ?_,L2.kE ?_ ?_ ?_,L2.kE ?_ ?_ ?_,L2.kE ?_ ?_ ?_,?_,?_,L2.kE ?_ ?_ ?_,L2.kE ?_ ?_ ?_,L2.kE (L2.kE (L2.rE _ _) ?_ ?_) (L2.kE ?_ (L2.rE _ _) ?_) (L2.kE ?_ ?_ (L2.rE _ _)),(mg_of KX G ?_),L2.kE (mg_of KX G ?_) (mg_of KX G ?_) (mg_of KX G ?_)⟩ (L2.Fq.mod ?_) (L2.Fq.mod ?_) ⟨⟨?_,?_,?_,?_⟩,?_,?_,?_,?_,?_,?_,(mg_of KX G ?_)⟩ (K70.Wg (mg_of KX G ?_) (mg_of KX G ?_) (mg_of KX G ?_) (mg_of KX G ?_) (mg_of KX G ?_) (mg_of KX G ?_) (mg_of KX G ?_) (mg_of KX G ?_) (mg_of KX G ?_) (mg_of KX G ?_) (mg_of KX G ?_) (mg_of KX G ?_) (mg_of KX G ?_)) ⟨_,(mg_of KX G ?_),?_,?_,?_,?_,?_⟩ ⟨?_,?_,?_,?_,?_⟩ ⟨?_,?_⟩ ⟨⟨_,_,_,_,_,_,_,_,_,_,_,_,_,_,?_⟩,⟨_,_,_,_,_,_,_,_,_,_,_,_,_,_,_,?_⟩,?_,?_,?_⟩ ⟨⟨_,_,_,_,_,_,_,_,_,_,_,_,_,_,?_⟩,⟨_,_,_,_,_,_,_,_,_,_,_,_,_,_,_,?_⟩,?_,?_,?_⟩ ⟨?_,?_,?_⟩ ⟨?_,?_⟩ ⟨?_,?_⟩ ⟨?_,?_⟩ ⟨⟨_,_,_,_,_,_,_,_,_,_,_,_,_,_,?_⟩,⟨_,_,_,_,_,_,_,_,_,_,_,_,_,_,_,?_⟩,?_,?_,?_⟩ ⟨?_,?_⟩ (L2.kE (⟨?_,?_,?_,?_⟩) (⟨?_,?_,?_,?_⟩) (⟨?_,?_,?_,?_⟩)) ⟨?_,?_,?_,?_⟩)
    any_goals first|(refine mg_of KX G ?_;k_is)|(refine mg_none_of KX G ?_;k_is)
    all_goals try dsimp only
    any_goals first|k_is|walk_at "F9"|kit_is|kts_exm|k_exc|(unfold L2.My;k_exc)|(show _=_;k_is)|rfl|decide
    any_goals first|k_is|walk_at "F9"|kit_is|kts_exm|k_exc|(unfold L2.My;k_exc)|(show _=_;k_is)|rfl|decide
