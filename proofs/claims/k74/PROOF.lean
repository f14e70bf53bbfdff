import PyProof.Rows.All
import Wide.All
import OpenK.AllK
import Wide.FinOn
import Lean
import PyProof.EqAt
import PyProof.EqKinds
import PyProof.TupleCall
import PyProof.Cells
import PyProof.SumWalkG
import PyProof.EnumStmt
import PyProof.EnumMake
import PyProof.InstStoreFacts
import KE.KDictList
import PySem.Challenge.RW_ohmyard_k74_whole_the_rest_stays
set_option Elab.async false
set_option linter.all false
set_option maxRecDepth 100000
open PySem.W (Frag)
set_option maxHeartbeats 4000000
open List
namespace L2
open PySem PySem.Spec PyProof.Rows
abbrev Key:=Sum Int Str
def xX:Key->Value->Bool
 | .inl k,v=>Value.isInt k v
 | .inr x,v=>Value.isStrOf x v
def qm6 (w:World):Key->Int
 | .inl k=>hashInt k
 | .inr x=>hashStr w x
theorem eT:∀{k:Key} {v:Value},xX k v=true->(∃i t,k=Sum.inl i/\v=Value.int i t)\/(∃x t,k=Sum.inr x/\v=Value.str x t)
 | .inl i,v,h=>by
  obtain⟨t,e⟩:=Value.isInt_shape (k:=i) (v:=v) h;exact .inl ⟨i,t,rfl,e⟩
 | .inr x,v,h=>by
  obtain⟨t,e⟩:=Value.isStrOf_shape (x:=x) (v:=v) h;exact .inr ⟨x,t,rfl,e⟩
theorem Kh (i:Int)(t:Tok):xX (.inl i) (.int i t)=true:=by simp[xX,Value.isInt]
theorem Kj (x:Str)(t:Tok):xX (.inr x) (.str x t)=true:=by simp[xX,Value.isStrOf]
theorem Zg (a b:Int):decide ((Sum.inl a:Key)=Sum.inl b)=(a == b):=by
 by_cases e:a=b
 ·subst e;simp
 ·have h:¬(Sum.inl a:Key)=Sum.inl b:=fun q=>e (Sum.inl.inj q);rw[decide_eq_false h];exact(beq_eq_false_iff_ne.mpr e).symm
theorem qc4 (a b:Str):decide ((Sum.inr a:Key)=Sum.inr b)=decide (a=b):=by
 by_cases e:a=b
 ·subst e;simp
 ·have h:¬(Sum.inr a:Key)=Sum.inr b:=fun q=>e (Sum.inr.inj q);rw[decide_eq_false h,decide_eq_false e]
theorem qd1 (a:Int)(b:Str):decide ((Sum.inl a:Key)=Sum.inr b)=false:=decide_eq_false (fun q=>nomatch q)
theorem qb3 (a:Str)(b:Int):decide ((Sum.inr a:Key)=Sum.inl b)=false:=decide_eq_false (fun q=>nomatch q)
def eU (prog:Program)(w:World):PySem.KeyKind prog w Key where
 is:=xX
 hash:=qm6 w
 inj:=fun v a b ha hb=>by
  rcases eT ha with ⟨i,t,rfl,rfl⟩ | ⟨x,t,rfl,rfl⟩
  ·rcases eT hb with ⟨j,u,rfl,e⟩ | ⟨y,u,rfl,e⟩
   ·injection e with e1 _;rw[e1]
   ·exact nomatch e
  ·rcases eT hb with ⟨j,u,rfl,e⟩ | ⟨y,u,rfl,e⟩
   ·exact nomatch e
   ·injection e with e1 _;rw[e1]
 byValue:=fun k v h=>by
  rcases eT h with ⟨i,t,rfl,rfl⟩ | ⟨x,t,rfl,rfl⟩<;>rfl
 pyHash:=fun hv h=>by
  rcases eT hv with ⟨i,t,rfl,rfl⟩ | ⟨x,t,rfl,rfl⟩
  ·exact wpAny_pyHash_int h
  ·exact wpAny_pyHash_str h
 eqBool:=fun hu hv h=>by
  rcases eT hu with ⟨i,t,rfl,rfl⟩ | ⟨x,t,rfl,rfl⟩
  ·rcases eT hv with ⟨j,u,rfl,rfl⟩ | ⟨y,u,rfl,rfl⟩
   ·rw[Zg] at h;exact wpAny_eqBool_int h
   ·rw[qd1] at h;exact SeqAt.EqAt.int_str i t y u _ _ _ _ h
  ·rcases eT hv with ⟨j,u,rfl,rfl⟩ | ⟨y,u,rfl,rfl⟩
   ·rw[qb3] at h;exact SeqAt.EqAt.str_int x t j u _ _ _ _ h
   ·rw[qc4] at h;exact wpAny_eqBool_str h
 «strs»:=fun k x t v h=>by
  rcases eT h with ⟨i,u,rfl,e⟩ | ⟨y,u,rfl,e⟩
  ·exact nomatch e
  ·injection e with e1 _
   subst e1
   cases v<;>rfl
theorem Cl (prog:Program)(w:World)(i:Int)(t:Tok):(eU prog w).is (.inl i) (.int i t)=true:=Kh i t
theorem Ay (prog:Program)(w:World)(x:Str)(t:Tok):(eU prog w).is (.inr x) (.str x t)=true:=Kj x t
inductive V where
 |non | bl (b:Bool) | int (i:Int) | str (x:Str) | byt (b:Array UInt8) | flt (b:UInt64) | ref (a:Addr) | ty (n:String)
 deriving DecidableEq
def cH:V->Value->Prop
 | .non,u=>u=Value.none
 | .bl b,u=>u=Value.bool b
 | .int i,u=>∃t,u=Value.int i t
 | .str x,u=>∃t,u=Value.str x t
 | .byt b,u=>∃t,u=Value.bytes b t
 | .flt b,u=>∃t,u=Value.float b t
 | .ref a,u=>u=Value.ref a
 | .ty n,u=>u=Value.type n
abbrev cC:List V->List Value->Prop:=Paired cH
theorem cC.length (r:cC xs us):xs.length=us.length:=Paired.length r
theorem cC.get:∀{xs:List V} {us:List Value} {i:Nat} {x:V},cC xs us->xs[i]?=some x->∃u,us[i]?=some u/\cH x u
 |_,_,_,_,.nil,e=>by simp at e
 |_,_,0,_,.cons r _,e=>by simp at e;subst e;exact⟨_,rfl,r⟩
 |_,_,i+1,x,.cons _ t,e=>by
  obtain⟨u,h1,h2⟩:=cC.get (i:=i) (x:=x) t (by simpa using e);exact⟨u,by simpa using h1,h2⟩
theorem cC.set (r:cH x u):∀{xs:List V} {us:List Value} (i:Nat),cC xs us->cC (xs.set i x) (us.set i u)
 |_,_,_,.nil=>.nil
 |_,_,0,.cons _ t=>.cons r t
 |_,_,i+1,.cons q t=>.cons q (cC.set r i t)
theorem cC.append:∀{xs ys:List V} {us ws:List Value},cC xs us->cC ys ws->cC (xs++ys) (us++ws)
 |_,_,_,_,.nil,s=>s
 |_,_,_,_,.cons r t,s=>.cons r (cC.append t s)
theorem cC.take:∀{xs:List V} {us:List Value} (n:Nat),cC xs us->cC (xs.take n) (us.take n)
 |_,_,0,_=>.nil
 |_,_,_+1,.nil=>.nil
 |_,_,n+1,.cons r t=>.cons r (cC.take n t)
theorem cC.drop:∀{xs:List V} {us:List Value} (n:Nat),cC xs us->cC (xs.drop n) (us.drop n)
 |_,_,0,r=>r
 |_,_,_+1,.nil=>.nil
 |_,_,n+1,.cons _ t=>cC.drop n t
def kT:Option V->Option Value->Prop
 |some v,some u=>cH v u
 |none,none=>True
 |_,_=>False
def KV {κ:Type}:List (κ × V)->List (κ × Value)->Prop:=Paired fun (p:κ × V) (q:κ × Value)=>p.1=q.1/\cH p.2 q.2
def kV:Key->V
 | .inl i=>.int i
 | .inr x=>.str x
inductive HO where
 |lst (xs:List V)
 |tup (xs:List V)
 |dK (kvs:List (Key × V)) | dT (kvs:List (List Key × V))
 |set (S:Int->Bool) (n:Nat)
 |ins (C dx:Addr) (fs:List (Str × V))
 |own (x:Addr)
 |xd (fs:List (Str × V))
 |met (f x:Addr)
 |rng (lo hi:Int)
 |frz (o:Obj) (u:HO)
 |tbl (ps:Array Value)
 |ext (φ:Heap->Prop)
abbrev Hp:=Addr->Option HO
def upd (H:Hp)(a:Addr)(o:HO):Hp:=fun b=>if b=a then some o else H b
theorem aD:upd H a o a=some o:=by unfold upd;rw[if_pos rfl]
theorem aY (h:b≠a):upd H a o b=H b:=by unfold upd;rw[if_neg h]
theorem oQ:upd (upd H a o) a u=upd H a u:=by
 funext b;unfold upd;split<;>rfl
theorem dL {H:Hp}(h:H a=some o)(h':H b=some u)(d:o≠u):a≠b:=by
 intro e;subst e;rw[h] at h';exact d (Option.some.inj h')
theorem aU {H:Hp}(h:H a=some o)(h':H b=none):a≠b:=by
 intro e;subst e;rw[h] at h';cases h'
section
variable (P:Program) (w:World)
def eP (H:Hp)(h:Heap)(a:Addr):HO->Prop
 | .lst xs=>xs.length<=sizeLine/\∃(its:List Value) (n:Nat),cC xs its/\h.get? a=some { cls:=.type "list",data:=.seq its.toArray n }
 | .tup xs=>xs.length<=sizeLine/\∃its:List Value,cC xs its/\IsTup h a its.toArray
 | .dK kvs=>kvs.length<=sizeLine/\(a == sysModules)=false/\∃vs,KV kvs vs/\h.DictOf (eU P w) a vs
 | .dT kvs=>kvs.length<=sizeLine/\(a == sysModules)=false/\∃xs:List (List Key × Addr × Value),
   Paired (fun (p:List Key × V) (q:List Key × Addr × Value)=>p.1=q.1/\H q.2.1=some (.tup (p.1.map kV))/\cH p.2 q.2.2) kvs xs/\
   ∃o es ep,h.get? a=some o/\o.ExactDict/\o.data=.dict es ep/\es.toList=xs.map (entryOfKey (tupleKind (eU P w)))/\(xs.map (·.1)).Nodup
 | .set S n=>h.SetOf (intKind P w) a S n
 | .ins C dx fs=>H dx=some (.own a)/\fs.length<=1000/\dx≠a/\h.get? a=some (W.instObj C dx)/\
   ∃mA,h.Ns1 dx mA/\(∀f,kT (fs.lookup f) (mA f))/\PySem.Within mA (fs.map (·.1))
 | .own _=>∃o,h.get? a=some o
 | .xd fs=>∃mA,h.Ns1 a mA/\∀f,kT (fs.lookup f) (mA f)
 | .rng lo hi=>∃t u v,h.get? a=some { cls:=.type "range",data:=.fields #[.int lo t,.int hi u,.int 1 v] }
 | .frz o u=>h.get? a=some o/\eP H h a u
 | .tbl ps=>h.get? a=some { cls:=.none,data:=.fields ps }
 | .met f x=>h.get? a=some (W.methodObj (.ref f) (.ref x))
 | .ext φ=>φ h/\(∃o,h.get? a=some o)/\∀h1 h2:Heap,φ h1->(∀o,h1.get? a=some o->h2.get? a=some o)->φ h2
def HOk (H:Hp)(h:Heap):Prop:=∀a o,H a=some o->eP P w H h a o
end
section
variable {P:Program} {w:World} {H H':Hp} {h h':Heap} {a:Addr} {o:HO}
theorem eP.lt (x:eP P w H h a o):a < h.objs.size:=by
 cases o with
 |lst xs=>obtain⟨_,_,_,_,e⟩:=x;exact Heap.lt_size e
 |tup xs=>obtain⟨_,_,_,p⟩:=x;exact p.lt
 |dK kvs=>obtain⟨_,_,_,_,o,_,_,e,_⟩:=x;exact Heap.lt_size e
 |dT kvs=>obtain⟨_,_,_,_,o,_,_,e,_⟩:=x;exact Heap.lt_size e
 |set S n=>obtain⟨o,_,_,_,e,_⟩:=x;exact Heap.lt_size e
 |ins C dx fs=>obtain⟨_,_,_,e,_⟩:=x;exact Heap.lt_size e
 |own y=>obtain⟨_,e⟩:=x;exact Heap.lt_size e
 |xd fs=>obtain⟨_,⟨_,_,_,e,_⟩,_⟩:=x;exact Heap.lt_size e
 |rng lo hi=>obtain⟨_,_,_,e⟩:=x;exact Heap.lt_size e
 |frz ob u=>obtain⟨e,_⟩:=x;exact Heap.lt_size e
 |tbl ps=>exact Heap.lt_size (show h.get? a=some _ from x)
 |met f y=>exact Heap.lt_size (show h.get? a=some _ from x)
 |ext φ=>obtain⟨_,⟨_,e⟩,_⟩:=x;exact Heap.lt_size e
theorem Paired.mapP:∀{l₁:List α} {l₂:List β},Paired F l₁ l₂->(∀a b,F a b->G a b)->Paired G l₁ l₂
 |_,_,.nil,_=>.nil
 |_,_,.cons r t,f=>.cons (f _ _ r) (Paired.mapP t f)
theorem eP.stay (x:eP P w H h a o)(k:∀b u,(b=a\/H b=some (.own a))->h.get? b=some u->h'.get? b=some u)(ho:∀b,H b=some (.own a)->H' b=some (.own a))(ht:∀b xs,H b=some (.tup xs)->H' b=some (.tup xs)):eP P w H' h' a o:=by
 induction o with
 |lst xs=>obtain⟨z,its,n,r,e⟩:=x;exact⟨z,its,n,r,k _ _ (.inl rfl) e⟩
 |tup xs=>obtain⟨z,its,r,ob,e,c⟩:=x;exact⟨z,its,r,ob,k _ _ (.inl rfl) e,c⟩
 |dK kvs=>obtain⟨z,y,vs,r,ob,es,ep,e,c⟩:=x;exact⟨z,y,vs,r,ob,es,ep,k _ _ (.inl rfl) e,c⟩
 |dT kvs=>
  obtain⟨z,y,xs,r,ob,es,ep,e,c⟩:=x;exact⟨z,y,xs,Paired.mapP r fun p q z=>⟨z.1,ht _ _ z.2.1,z.2.2⟩,ob,es,ep,k _ _ (.inl rfl) e,c⟩
 |set S n=>obtain⟨ob,es,ep,t,e,c⟩:=x;exact⟨ob,es,ep,t,k _ _ (.inl rfl) e,c⟩
 |ins C dx fs=>
  obtain⟨d,z,ne,e,mA,⟨od,es,ep,e2,c⟩,r⟩:=x;exact⟨ho _ d,z,ne,k _ _ (.inl rfl) e,mA,⟨od,es,ep,k _ _ (.inr d) e2,c⟩,r⟩
 |own y=>obtain⟨ob,e⟩:=x;exact⟨ob,k _ _ (.inl rfl) e⟩
 |xd fs=>obtain⟨mA,⟨od,es,ep,e,c⟩,r⟩:=x;exact⟨mA,⟨od,es,ep,k _ _ (.inl rfl) e,c⟩,r⟩
 |rng lo hi=>obtain⟨t,u,v,e⟩:=x;exact⟨t,u,v,k _ _ (.inl rfl) e⟩
 |frz ob u ih=>obtain⟨e,q⟩:=x;exact⟨k _ _ (.inl rfl) e,ih q⟩
 |tbl ps=>
  have e:h.get? a=some { cls:=.none,data:=.fields ps }:=x;show h'.get? a=some { cls:=.none,data:=.fields ps };exact k a _ (.inl rfl) e
 |met f y=>
  have e:h.get? a=some (W.methodObj (.ref f) (.ref y)):=x;show h'.get? a=some (W.methodObj (.ref f) (.ref y));exact k a _ (.inl rfl) e
 |ext φ=>obtain⟨p,⟨o,e⟩,st⟩:=x;exact⟨st _ _ p fun o q=>k _ _ (.inl rfl) q,⟨o,k _ _ (.inl rfl) e⟩,st⟩
theorem HOk.lt (x:HOk P w H h)(e:H a=some o):a < h.objs.size:=(x a o e).lt
theorem HOk.fresh (x:HOk P w H h)(e:h.objs.size<=a):H a=none:=by
 cases q:H a with
 |none=>rfl
 |some u=>exact absurd (Nat.lt_of_lt_of_le (x.lt q) e) (Nat.lt_irrefl _)
theorem HOk.kept (x:HOk P w H h)(k:∀b u,h.get? b=some u->h'.get? b=some u):HOk P w H h':=fun a o e=>
 (x a o e).stay (fun b u _ q=>k b u q) (fun _ q=>q) fun _ _ q=>q
theorem HOk.laid (x:HOk P w H h)(k:∀b u,h.get? b=some u->h'.get? b=some u)(hp:h.objs.size<=a)(new:eP P w (upd H a o) h' a o):HOk P w (upd H a o) h':=fun b u e=>by
 have hn:=x.fresh hp
 by_cases hb:b=a
 ·subst hb;rw[aD] at e;cases e;exact new
 ·rw[aY hb] at e;exact(x b u e).stay (fun c v _ q=>k c v q) (fun c q=>by rw[aY (aU q hn)];exact q) fun c xs q=>by rw[aY (aU q hn)];exact q
end
def Rd (H:Hp)(a:Addr)(u:HO):Prop:=H a=some u\/∃o,H a=some (.frz o u)
theorem Rd.ok (r:Rd H a u)(x:HOk P w H h):eP P w H h a u:=by
 rcases r with r | ⟨o,r⟩
 ·exact x a u r
 ·obtain⟨_,q⟩:=x a _ r;exact q
def Mut:Option HO->Prop
 |some (.lst _)=>True
 |some (.dK _)=>True
 |some (.dT _)=>True
 |some (.set _ _)=>True
 |some (.ins _ _ _)=>True
 |some (.ext _)=>True
 |_=>False
section
variable {P:Program} {w:World} {H:Hp} {h h':Heap} {x e:Addr} {o':HO}
theorem HOk.write (ok:HOk P w H h)(mu:Mut (H x))(he:e=x\/H e=some (.own x))(k:∀b u,b≠e->h.get? b=some u->h'.get? b=some u)(heo:∃u,h'.get? e=some u)(new:eP P w (upd H x o') h' x o'):HOk P w (upd H x o') h':=fun b u q=>by
 have nown:∀c y,H c=some (.own y)->c≠x:=fun c y r z=>by subst z;rw[r] at mu;exact mu
 have ntup:∀c xs,H c=some (.tup xs)->c≠x:=fun c xs r z=>by subst z;rw[r] at mu;exact mu
 by_cases hb:b=x
 ·subst hb;rw[aD] at q;cases q;exact new
 ·rw[aY hb] at q
  by_cases hbe:b=e
  ·have q':H b=some (.own x):=by
    rcases he with z | z
    ·exact absurd (hbe.trans z) hb
    ·rw[hbe];exact z
   rw[q] at q';cases q';obtain⟨v,hv⟩:=heo;exact⟨v,by rw[hbe];exact hv⟩
  ·refine(ok b u q).stay (fun c v hc r=>k c v ?_ r) (fun c r=>by rw[aY (nown c b r)];exact r) fun c xs r=>by rw[aY (ntup c xs r)];exact r
   rcases hc with rfl | hc
   ·exact hbe
   ·rintro rfl;rcases he with z | z
    ·exact nown c b hc z
    ·rw[hc] at z;cases z;exact hb rfl
end
structure Un (fs ex:List Addr) (H H':Hp) (h h':Heap):Prop where
 keep:∀b o,h.get? b=some o->H b=none->b∉fs->b∉ex->h'.get? b=some o
 slot:∀b o,h.get? b=some o->H b=none->b∈fs->b∉ex->∃sl,h'.get? b=some { o with slots:=sl }
 free:∀b o,h.get? b=some o->H b=none->b∉ex->H' b=none
 there:∀b o,h.get? b=some o->b∉ex->∃o',h'.get? b=some o'
 tups:∀b xs,H b=some (.tup xs)->H' b=some (.tup xs)
 frzs:∀b o u,H b=some (.frz o u)->H' b=some (.frz o u)
 tbls:∀b ps,H b=some (.tbl ps)->∃more,H' b=some (.tbl (ps++more))
section
variable {fs fs' ex ex':List Addr} {H H1 H2:Hp} {h h1 h2 h':Heap} {a x e:Addr} {o:HO}
theorem Un.any (u:Un fs ex H H1 h h1)(q:h.get? b=some ob)(n:H b=none)(hx:b∉ex):∃sl,h1.get? b=some { ob with slots:=sl }:=by
 by_cases hb:b∈fs
 ·exact u.slot b ob q n hb hx
 ·exact⟨ob.slots,u.keep b ob q n hb hx⟩
theorem Un.kept (k:∀b u,h.get? b=some u->h'.get? b=some u):Un fs ex H H h h':=
 ⟨fun b ob q _ _ _=>k b ob q,fun b ob q _ _ _=>⟨ob.slots,k b ob q⟩,fun _ _ _ n _=>n,fun b ob q _=>⟨ob,k b ob q⟩,fun _ _ q=>q,fun _ _ _ q=>q,fun _ ps q=>⟨#[],by rw[q];simp⟩⟩
theorem Un.refl:Un fs ex H H h h:=Un.kept fun _ _ q=>q
theorem Un.laid (k:∀b u,h.get? b=some u->h'.get? b=some u)(hp:h.objs.size<=a)(hn:H a=none):Un fs ex H (upd H a o) h h' where
 keep:=fun b u q _ _ _=>k b u q
 slot:=fun b u q _ _ _=>⟨u.slots,k b u q⟩
 free:=fun b u q n _=>by rw[aY (Nat.ne_of_lt (Nat.lt_of_lt_of_le (Heap.lt_size q) hp))];exact n
 there:=fun b u q _=>⟨u,k b u q⟩
 tups:=fun b xs q=>by rw[aY (aU q hn)];exact q
 frzs:=fun b u xs q=>by rw[aY (aU q hn)];exact q
 tbls:=fun b ps q=>⟨#[],by rw[aY (aU q hn),q];simp⟩
theorem Un.write (mu:Mut (H x))(he:e=x\/H e=some (.own x))(k:∀b u,b≠e->h.get? b=some u->h'.get? b=some u)(heo:∃u,h'.get? e=some u):Un fs ex H (upd H x o) h h':=by
 have hx:∀b,H b=none->b≠x:=fun b n z=>by subst z;rw[n] at mu;exact mu
 have hb:∀b,H b=none->b≠e:=fun b n z=>by
  subst z;rcases he with r | r
  ·exact hx b n r
  ·rw[n] at r;cases r
 have hm:∀b u,H b=some u->¬Mut (some u)->b≠x:=fun b u q nm z=>by subst z;rw[q] at mu;exact nm mu
 refine⟨fun b u q n _ _=>k b u (hb b n) q,fun b u q n _ _=>⟨u.slots,k b u (hb b n) q⟩,fun b u q n _=>by rw[aY (hx b n)];exact n,fun b u q _=>?_,
  fun b xs q=>by rw[aY (hm b _ q fun z=>z)];exact q,fun b u xs q=>by rw[aY (hm b _ q fun z=>z)];exact q,fun b ps q=>⟨#[],by rw[aY (hm b _ q fun z=>z),q];simp⟩⟩
 by_cases hbe:b=e
 ·subst hbe;exact heo
 ·exact⟨u,k b u hbe q⟩
end
def trk (h:Heap)(H:Hp):List Addr:=(List.range h.objs.size).filter fun a=>(H a).isSome
def yN (h:Heap)(H:Hp):Heap:=W.hideAll h (trk h H)
theorem Le (h:Heap)(H:Hp):(yN h H).objs.size=h.objs.size:=W.hideAll_size _ _
theorem Py (e:h.get? b=some o)(n:H b=none):(yN h H).get? b=some o:=
 W.hideAll_get _ e fun hm=>by
  have q:(H b).isSome=true:=(mem_filter.mp hm).2;rw[n] at q;simp at q
theorem Vp (e:(yN h H).get? b=some o):h.get? b=some o/\H b=none:=by
 have e':h.get? b=some o:=W.of_hideAll (trk h H) e;refine⟨e',?_⟩
 cases q:H b with
 |none=>rfl
 |some x=>
  have hm:b∈trk h H:=mem_filter.mpr ⟨mem_range.mpr (Heap.lt_size e'),by simp[q]⟩;have z:(yN h H).get? b=none:=W.hideAll_none (trk h H) hm;rw[z] at e;cases e
structure Mod (K:Frag) (mg:Str->Option Value) (base:Heap):Prop where
 kin:K.In base
 glob:base.Ns mainGlobals mg
 blt:∃mb,base.Ns builtinsNs mb/\∀x:Str,x≠"__name__"->mb x=bootBuiltins x
 nolimit:base.NoLimit
structure Cx where
 prog:Program
 w:World
 K:Frag
 mg:Str->Option Value
 base:Heap
 A:Around
 N:List Str
 s₀:Shared
 H₀:Hp
 env:Env
 outer:List Env
 stack:List Env
 ex:List Addr
 fn:Str->Bool
 calm:Bool
 pn:List (Addr × Obj)
 xe:Value->Shared->Prop
def frs (l:List Env):List Addr:=l.filterMap (·.frame)
abbrev Cx.fs (X:Cx):List Addr:=frs X.outer
def Vis (sc:Scope)(x:Str):Prop:=sc.names.lookup x=some .local\/sc.names.lookup x=some .cell\/sc.names.lookup x=some .free
def Loc (sc:Scope)(x:Str):Prop:=sc.names.lookup x=some .local\/sc.names.lookup x=some .cell
def qk5 (env:Env)(h:Heap)(m:Str->Option Value)(x:Str)(u:Value):Prop:=
 (env.kindOf x=some .local/\m x=some u)\/((env.kindOf x=some .cell\/env.kindOf x=some .free)/\∃c,env.cells.lookup x=some c/\h.IsCell c (some u))
structure Cx.Ok (X:Cx):Prop where
 mod:Mod X.K X.mg X.base
 kind:X.env.scope.kind=.function
 glob:X.env.globals=mainGlobals
 blt:X.env.builtins=builtinsNs
 above:X.s₀.heap.objs.size<=X.env.locals
 inj:∀x y c,X.env.cells.lookup x=some c->X.env.cells.lookup y=some c->x=y
 has:∀x,(X.env.kindOf x=some .cell\/X.env.kindOf x=some .free)->∃c,X.env.cells.lookup x=some c
 cab:∀x c,X.fn x=true->X.env.cells.lookup x=some c->X.s₀.heap.objs.size<=c
 hd:X.calm=true->X.A.handled=none
 frames:X.A.frames=some X.stack
 stk:X.stack=X.outer\/(X.stack=X.env :: X.outer/\X.env.frame=some X.env.locals)
 exf:∀b∈X.ex,b≠X.env.locals/\∀x c,X.env.cells.lookup x=some c->c≠b
 bs:∀b o,X.base.get? b=some o->X.s₀.heap.get? b=some o/\X.H₀ b=none
 bsz:X.base.objs.size<=X.s₀.heap.objs.size
 noex:∀b o,X.base.get? b=some o->b∉X.ex
 exfs:∀b∈X.ex,b∉X.fs
 funs:X.s₀.heap.FunFrames X.base X.outer
 frf:∀b∈X.fs,X.H₀ b=none
structure Inv (X:Cx) (pins:List (Addr × Obj)) (σ:List (Option V)) (H:Hp) (s:Shared):Prop where
 ok:X.Ok
 os:s.os=X.s₀.os
 bare:AllBare s.gens
 base:Un X.fs X.ex X.H₀ H X.s₀.heap s.heap
 loc:∃m,s.heap.Ns X.env.locals m/\∀(i:Nat) (x:Str) (v:V),X.N[i]?=some x->σ[i]?=some (some v)->Vis X.env.scope x->∃u,cH v u/\qk5 X.env s.heap m x u
 cell:∀x c,X.env.cells.lookup x=some c->∃v,s.heap.IsCell c v
 free:H X.env.locals=none
 freeC:∀x c,X.env.cells.lookup x=some c->H c=none
 pin:∀p∈X.pn++pins,s.heap.get? p.1=some p.2/\H p.1=none/\p.1≠X.env.locals/\p.1∉X.fs/\∀v,p.2.data≠.cell v
 hok:HOk X.prog X.w H s.heap
 len:σ.length=X.N.length
section
variable {X:Cx} {pins:List (Addr × Obj)} {σ:List (Option V)} {H H':Hp} {s:Shared} {h':Heap}
theorem Cx.Ok.nofr (ok:X.Ok)(e:X.base.get? b=some o):b∉X.fs:=fun hb=>by
 have:=(ok.funs.mem hb).1;rw[e] at this;cases this
theorem Inv.bs (I:Inv X pins σ H s):∀b o,X.base.get? b=some o->s.heap.get? b=some o/\H b=none:=fun b o e=>
 ⟨I.base.keep b o (I.ok.bs b o e).1 (I.ok.bs b o e).2 (I.ok.nofr e) (I.ok.noex b o e),I.base.free b o (I.ok.bs b o e).1 (I.ok.bs b o e).2 (I.ok.noex b o e)⟩
theorem Inv.bk (I:Inv X pins σ H s):∀b o,X.base.get? b=some o->s.heap.get? b=some o:=fun b o e=>(I.bs b o e).1
theorem Inv.mod (I:Inv X pins σ H s):Mod X.K X.mg X.base:=I.ok.mod
theorem Inv.kIn (I:Inv X pins σ H s):X.K.In s.heap:=I.ok.mod.kin.keeps I.bk
theorem Inv.lt (I:Inv X pins σ H s):X.env.locals < s.heap.objs.size:=let ⟨_,hn,_⟩:=I.loc;hn.lt
theorem Inv.sz (I:Inv X pins σ H s):X.s₀.heap.objs.size<=s.heap.objs.size:=Nat.le_trans I.ok.above (Nat.le_of_lt I.lt)
theorem Inv.nofs (I:Inv X pins σ H s)(h:s.heap.objs.size<=a):a∉X.fs:=fun hb=>by
 obtain⟨_,o,ho,_⟩:=I.ok.funs.mem hb;exact absurd (Nat.lt_of_lt_of_le (Heap.lt_size ho) (Nat.le_trans I.sz h)) (Nat.lt_irrefl _)
theorem Inv.cne (I:Inv X pins σ H s):∀x c,X.env.cells.lookup x=some c->c≠X.env.locals:=fun x c e z=>by
 obtain⟨v,o,ho,hd⟩:=I.cell x c e;obtain⟨m,⟨o',es,ep,ho',hd',_⟩,_⟩:=I.loc;rw[z,ho'] at ho;cases ho;rw[hd'] at hd;cases hd
theorem Inv.funs (I:Inv X pins σ H s):s.heap.FunFrames X.base X.outer:=by
 have all:∀(l:List Env),(∀b∈frs l,b∈X.fs)->X.s₀.heap.FunFrames X.base l->s.heap.FunFrames X.base l:=by
  intro l
  induction l with
  |nil=>intro _ _;trivial
  |cons env r ih=>
   intro hs hl;obtain⟨hk,⟨L,o,hf,hn,ho,hd⟩,hr⟩:=hl;have hL:L∈X.fs:=hs L (by unfold frs;rw[filterMap_cons,hf];exact mem_cons_self);obtain⟨sl,e⟩:=I.base.slot L o ho (I.ok.frf L hL) hL fun z=>I.ok.exfs L z hL;exact⟨hk,⟨L,_,hf,hn,e,hd⟩,ih (fun b hb=>hs b (by unfold frs;rw[filterMap_cons,hf];exact mem_cons_of_mem _ hb)) hr⟩
 exact all X.outer (fun _ hb=>hb) I.ok.funs
theorem Inv.stack (I:Inv X pins σ H s):s.heap.FunFrames X.base X.stack:=by
 rcases I.ok.stk with e | ⟨e,hf⟩
 ·rw[e];exact I.funs
 ·rw[e];obtain⟨m,hn,_⟩:=I.loc;refine .cons (by rw[I.ok.kind];decide) hf hn ?_ I.funs;exact Heap.get?_none_of_le (Nat.le_trans I.ok.bsz I.ok.above)
theorem Inv.stkSub (I:Inv X pins σ H s):∀b∈frs X.stack,b∈X.env.locals :: X.fs:=fun b hb=>by
 rcases I.ok.stk with e | ⟨e,hf⟩
 ·rw[e] at hb;exact mem_cons_of_mem _ hb
 ·rw[e] at hb;unfold frs at hb;rw[filterMap_cons,hf] at hb;exact hb
theorem Inv.stkFree (I:Inv X pins σ H s):∀b∈frs X.stack,H b=none:=fun b hb=>by
 rcases mem_cons.mp (I.stkSub b hb) with e | hb
 ·rw[e];exact I.free
 ·obtain⟨_,o,ho,_⟩:=I.ok.funs.mem hb;exact I.base.free b o ho (I.ok.frf b hb) fun z=>I.ok.exfs b z hb
theorem Inv.step {ch:List Addr}(I:Inv X pins σ H s)(hch:∀b∈ch,(b∈X.ex\/X.s₀.heap.objs.size<=b)/\b≠X.env.locals/\(∀x c,X.env.cells.lookup x=some c->c≠b)/\∀p∈X.pn++pins,p.1≠b)(keep:∀b o,b≠X.env.locals->b∉X.fs->b∉ch->s.heap.get? b=some o->H b=none->h'.get? b=some o)(slot:∀b o,b≠X.env.locals->b∈X.fs->b∉ch->s.heap.get? b=some o->H b=none->∃sl,h'.get? b=some { o with slots:=sl })(free:∀b o,b∉ch->s.heap.get? b=some o->H b=none->H' b=none)(there:∀b o,b∉ch->s.heap.get? b=some o->∃o',h'.get? b=some o')(tups:∀b xs,H b=some (.tup xs)->H' b=some (.tup xs))(frzs:∀b o u,H b=some (.frz o u)->H' b=some (.frz o u))(tbls:∀b ps,H b=some (.tbl ps)->∃more,H' b=some (.tbl (ps++more)))(ns:∀m,s.heap.Ns X.env.locals m->h'.Ns X.env.locals m)(hok:HOk X.prog X.w H' h')(hg:AllBare g'):
  Inv X pins σ H' { s with heap:=h',gens:=g',drawn:=d',toks:=t' }:=by
 have neL:∀b o,X.s₀.heap.get? b=some o->b≠X.env.locals:=fun b o e=>Nat.ne_of_lt (Nat.lt_of_lt_of_le (Heap.lt_size e) I.ok.above);have neC:∀b o,X.s₀.heap.get? b=some o->b∉X.ex->b∉ch:=fun b o e hx hb=>by
  rcases (hch b hb).1 with z | z
  ·exact hx z
  ·exact absurd (Nat.lt_of_lt_of_le (Heap.lt_size e) z) (Nat.lt_irrefl _)
 have cellK:∀x c,X.env.cells.lookup x=some c->∀v,s.heap.IsCell c v->h'.IsCell c v:=fun x c e v ⟨o,ho,hd⟩=>by
  have nch:c∉ch:=fun z=>(hch c z).2.2.1 x c e rfl
  by_cases hc:c∈X.fs
  ·obtain⟨sl,q⟩:=slot c o (I.cne x c e) hc nch ho (I.freeC x c e);exact⟨_,q,hd⟩
  ·exact⟨o,keep c o (I.cne x c e) hc nch ho (I.freeC x c e),hd⟩
 refine⟨I.ok,I.os,hg,⟨fun b o e n hb hx=>?_,fun b o e n hb hx=>?_,fun b o e n hx=>?_,fun b o e hx=>?_,fun b xs e=>tups b xs (I.base.tups b xs e),fun b o xs e=>frzs b o xs (I.base.frzs b o xs e),fun b ps e=>?_⟩,?_,fun x c e=>?_,?_,fun x c e=>?_,fun p hp=>?_,hok,I.len⟩
 ·exact keep b o (neL b o e) hb (neC b o e hx) (I.base.keep b o e n hb hx) (I.base.free b o e n hx)
 ·obtain⟨sl,e1⟩:=I.base.slot b o e n hb hx;obtain⟨sl',e2⟩:=slot b _ (neL b o e) hb (neC b o e hx) e1 (I.base.free b o e n hx);exact⟨sl',e2⟩
 ·obtain⟨o',e1⟩:=I.base.there b o e hx;exact free b o' (neC b o e hx) e1 (I.base.free b o e n hx)
 ·obtain⟨o',e1⟩:=I.base.there b o e hx;exact there b o' (neC b o e hx) e1
 ·obtain⟨m1,e1⟩:=I.base.tbls b ps e;obtain⟨m2,e2⟩:=tbls b _ e1;exact⟨m1++m2,by rw[e2,Array.append_assoc]⟩
 ·obtain⟨m,hn,hl⟩:=I.loc;refine⟨m,ns m hn,fun i x v e1 e2 e3=>?_⟩;obtain⟨u,r,l⟩:=hl i x v e1 e2 e3;refine⟨u,r,?_⟩;rcases l with l | ⟨k,c,e,z⟩
  ·exact .inl l
  ·exact .inr ⟨k,c,e,cellK x c e _ z⟩
 ·obtain⟨v,z⟩:=I.cell x c e;exact⟨v,cellK x c e v z⟩
 ·obtain⟨m,⟨o,_,_,ho,_⟩,_⟩:=I.loc;exact free _ o (fun z=>(hch _ z).2.1 rfl) ho I.free
 ·obtain⟨v,o,ho,hd⟩:=I.cell x c e;exact free c o (fun z=>(hch c z).2.2.1 x c e rfl) ho (I.freeC x c e)
 ·obtain⟨e,n,ne,nf,d⟩:=I.pin p hp;have nch:p.1∉ch:=fun z=>(hch p.1 z).2.2.2 p hp rfl;exact⟨keep p.1 p.2 ne nf nch e n,free p.1 p.2 nch e n,ne,nf,d⟩
theorem Inv.un (I:Inv X pins σ H s)(u:Un X.fs [] H H' s.heap h')(hok:HOk X.prog X.w H' h'):Inv X pins σ H' { s with heap:=h',toks:=t' }:=by
 obtain⟨m,⟨o,es,ep,ho,r⟩,_⟩:=id I.loc;obtain⟨sl,hL⟩:=u.any ho I.free (by simp);exact I.step (g':=s.gens) (d':=s.drawn) (ch:=[]) (fun _ z=>nomatch z) (fun b o _ hb _ e n=>u.keep b o e n hb (by simp)) (fun b o _ hb _ e n=>u.slot b o e n hb (by simp)) (fun b o _ e n=>u.free b o e n (by simp)) (fun b o _ e=>u.there b o e (by simp)) u.tups u.frzs u.tbls (fun m' hm=>by
  obtain⟨o',es',ep',ho',r'⟩:=hm;rw[ho] at ho';cases ho';exact⟨_,es',ep',hL,r'⟩) hok I.bare
theorem Inv.call (I:Inv X pins σ H s)(u:Un (frs X.stack) ch H H' s.heap h')(hok:HOk X.prog X.w H' h')(hg:AllBare g')(hch:∀b∈ch,(b∈X.ex\/X.s₀.heap.objs.size<=b)/\b≠X.env.locals/\(∀x c,X.env.cells.lookup x=some c->c≠b)/\∀p∈X.pn++pins,p.1≠b):
  Inv X pins σ H' { s with heap:=h',gens:=g',drawn:=d',toks:=t' }:=by
 obtain⟨m,⟨o,es,ep,ho,r⟩,_⟩:=id I.loc;obtain⟨sl,hL⟩:=u.any ho I.free fun z=>(hch _ z).2.1 rfl;exact I.step (ch:=ch) hch (fun b o hL hb hc e n=>u.keep b o e n (fun z=>(mem_cons.mp (I.stkSub b z)).elim hL hb) hc) (fun b o _ _ hc e n=>u.any e n hc) (fun b o hc e n=>u.free b o e n hc) (fun b o hc e=>u.there b o e hc) u.tups u.frzs u.tbls (fun m' hm=>by
  obtain⟨o',es',ep',ho',r'⟩:=hm;rw[ho] at ho';cases ho';exact⟨_,es',ep',hL,r'⟩) hok hg
theorem Inv.turned (I:Inv X pins σ H s)(k:∀b o,b≠it->s.heap.get? b=some o->h'.get? b=some o)(hn:H it=none)(hL:it≠X.env.locals)(h1:it∈X.ex\/X.s₀.heap.objs.size<=it)(h2:∀x c,X.env.cells.lookup x=some c->c≠it)(h3:∀p∈X.pn++pins,p.1≠it):Inv X pins σ H { s with heap:=h',toks:=t' }:=by
 have nit:∀b u,H b=some u->b≠it:=fun b u e z=>by rw[z,hn] at e;cases e
 refine I.step (g':=s.gens) (d':=s.drawn) (ch:=[it]) (fun b hb=>?_) (fun b o _ _ hc e _=>k b o (fun z=>hc (by simp[z])) e) (fun b o _ _ hc e _=>⟨o.slots,k b o (fun z=>hc (by simp[z])) e⟩) (fun _ _ _ _ n=>n)
  (fun b o hc e=>⟨o,k b o (fun z=>hc (by simp[z])) e⟩) (fun _ _ e=>e) (fun _ _ _ e=>e) (fun b ps e=>⟨#[],by rw[e];simp⟩) (fun m hm=>?_) (fun b u e=>?_) I.bare
 ·have e:b=it:=by simpa using hb
  subst e;exact⟨h1,hL,h2,h3⟩
 ·obtain⟨o,es,ep,ho,r⟩:=hm;exact⟨o,es,ep,k _ o (Ne.symm hL) ho,r⟩
 ·refine(I.hok b u e).stay (fun c v hc q=>k c v ?_ q) (fun _ q=>q) fun _ _ q=>q;rcases hc with z | z
  ·rw[z];exact nit b u e
  ·exact nit c _ z
theorem Inv.tok (I:Inv X pins σ H s)(t:Nat):Inv X pins σ H { s with toks:=t }:=I.un (h':=s.heap) (t':=t) Un.refl I.hok
theorem Inv.kept (I:Inv X pins σ H s)(k:∀b u,s.heap.get? b=some u->h'.get? b=some u):Inv X pins σ H { s with heap:=h',toks:=t' }:=I.un (Un.kept k) (I.hok.kept k)
theorem Inv.laid (I:Inv X pins σ H s)(k:∀b u,s.heap.get? b=some u->h'.get? b=some u)(hp:s.heap.objs.size<=a)(new:eP X.prog X.w (upd H a o) h' a o):
  Inv X pins σ (upd H a o) { s with heap:=h',toks:=t' }:=I.un (Un.laid k hp (I.hok.fresh hp)) (I.hok.laid k hp new)
theorem Inv.write (I:Inv X pins σ H s)(mu:Mut (H x))(he:e=x\/H e=some (.own x))(k:∀b u,b≠e->s.heap.get? b=some u->h'.get? b=some u)(heo:∃u,h'.get? e=some u)(new:eP X.prog X.w (upd H x o) h' x o):Inv X pins σ (upd H x o) { s with heap:=h',toks:=t' }:=I.un (Un.write mu he k heo) (I.hok.write mu he k heo new)
theorem Inv.weak (I:Inv X pins σ H s)(hl:σ'.length=σ.length)(w:∀(i:Nat) v,σ'[i]?=some (some v)->σ[i]?=some (some v)):Inv X pins σ' H s:=
 ⟨I.ok,I.os,I.bare,I.base,let ⟨m,hn,hl'⟩:=I.loc;⟨m,hn,fun i x v e1 e2 e3=>hl' i x v e1 (w i v e2) e3⟩,I.cell,I.free,I.freeC,I.pin,I.hok,hl.trans I.len⟩
theorem Inv.pins_of (I:Inv X pins σ H s)(h:∀p∈pins',s.heap.get? p.1=some p.2/\H p.1=none/\p.1≠X.env.locals/\p.1∉X.fs/\∀v,p.2.data≠.cell v):Inv X pins' σ H s:=
 ⟨I.ok,I.os,I.bare,I.base,I.loc,I.cell,I.free,I.freeC,fun p hp=>(mem_append.mp hp).elim (fun z=>I.pin p (mem_append_left _ z)) (h p),I.hok,I.len⟩
theorem By {N:List Str}(hN:N.Nodup){i j:Nat}(a:N[i]?=some x)(b:N[j]?=some x):i=j:=by
 obtain⟨h1,e1⟩:=List.getElem?_eq_some_iff.mp a;obtain⟨h2,e2⟩:=List.getElem?_eq_some_iff.mp b;exact(getElem_inj hN).mp (e1.trans e2.symm)
theorem xY (I:Inv X pins σ H s)(hN:X.N.Nodup)(hi:X.N[i]?=some x)(hx:Loc X.env.scope x)(r:cH v u)(h:∀s',Inv X pins (σ.set i (some v)) H s'->(∃a,Heap.SameBut a s.heap s'.heap/\(a=X.env.locals\/X.env.cells.lookup x=some a))->Q () s')(hf:X.fn x=true\/X.env.scope.names.lookup x=some .local:=by first | exact .inl rfl | exact .inr rfl | assumption):wpAny M A (storeName X.env x u) Q E s:=by
 obtain⟨m,hn,hl⟩:=id I.loc;have hcls:(X.env.scope.kind == .class || (X.env.scope.kind == .module && X.env.locals != X.env.globals))=false:=by rw[I.ok.kind];rfl
 have hiσ:i < σ.length:=by rw[I.len];exact(List.getElem?_eq_some_iff.mp hi).1
 have cne:=I.cne;have tracked:∀{a:Addr} {h':Heap},(∃o,s.heap.get? a=some o/\H a=none)->Heap.SameBut a s.heap h'->HOk X.prog X.w H h':=fun {a h'} ha hs b ob e=>by
  obtain⟨_,_,hfree⟩:=ha;refine(I.hok b ob e).stay (fun c w' hc q=>(hs.2 c ?_).trans q) (fun _ q=>q) fun _ _ q=>q;rintro rfl;rcases hc with rfl | hc
  ·rw[hfree] at e;cases e
  ·rw[hfree] at hc;cases hc
 rcases hx with hk | hk
 ·refine wpAny_storeName_local hk hn (fun h' hn' hs=>?_) hcls;obtain⟨oL,_,_,hoL,_⟩:=id hn;refine h _ ⟨I.ok,I.os,I.bare,⟨fun b o e n hb hx=>?_,fun b o e n hb hx=>?_,I.base.free,fun b o e hx=>?_,I.base.tups,I.base.frzs,I.base.tbls⟩,⟨_,hn',fun j y v' e1 e2 e3=>?_⟩,fun y c e=>?_,I.free,I.freeC,fun p hp=>?_,tracked ⟨oL,hoL,I.free⟩ hs,by simpa using I.len⟩ ⟨_,hs,.inl rfl⟩
  ·exact(hs.2 b (Nat.ne_of_lt (Nat.lt_of_lt_of_le (Heap.lt_size e) I.ok.above))).trans (I.base.keep b o e n hb hx)
  ·obtain⟨sl,e1⟩:=I.base.slot b o e n hb hx;exact⟨sl,(hs.2 b (Nat.ne_of_lt (Nat.lt_of_lt_of_le (Heap.lt_size e) I.ok.above))).trans e1⟩
  ·obtain⟨o',e1⟩:=I.base.there b o e hx;exact⟨o',(hs.2 b (Nat.ne_of_lt (Nat.lt_of_lt_of_le (Heap.lt_size e) I.ok.above))).trans e1⟩
  ·by_cases hj:j=i
   ·subst hj;rw[hi] at e1;cases e1;rw[getElem?_set_self hiσ] at e2
    cases e2
    exact⟨u,r,.inl ⟨hk,by simp⟩⟩
   ·rw[getElem?_set_ne (Ne.symm hj)] at e2;obtain⟨u',r',q⟩:=hl j y v' e1 e2 e3;refine⟨u',r',?_⟩;rcases q with ⟨k,e⟩ | ⟨k,c,e,z⟩
    ·refine .inl ⟨k,?_⟩;have:y≠x:=fun e=>hj (By hN e1 (e ▸ hi));simp[this,e]
    ·exact .inr ⟨k,c,e,z.sameBut hs (cne y c e)⟩
  ·obtain⟨w',z⟩:=I.cell y c e;exact⟨w',z.sameBut hs (cne y c e)⟩
  ·obtain⟨e,n,ne,nf,d⟩:=I.pin p hp;exact⟨(hs.2 p.1 ne).trans e,n,ne,nf,d⟩
 ·have hfn:X.fn x=true:=by
   rcases hf with z | z
   ·exact z
   ·rw[z] at hk;cases hk
  obtain⟨c,hc⟩:=I.ok.has x (.inl hk);obtain⟨w',z⟩:=I.cell x c hc;refine wpAny_storeName_cell I.ok.kind hk hc z (fun h' hc' hs=>?_);obtain⟨oc,hoc,hocd⟩:=id z;refine h { s with heap:=h' } ⟨I.ok,I.os,I.bare,⟨fun b o e n hb hx=>?_,fun b o e n hb hx=>?_,I.base.free,fun b o e hx=>?_,I.base.tups,I.base.frzs,I.base.tbls⟩,⟨m,hn.sameBut hs (Ne.symm (cne x c hc)),fun j y v' e1 e2 e3=>?_⟩,fun y c' e=>?_,I.free,I.freeC,fun p hp=>?_,tracked ⟨oc,hoc,I.freeC x c hc⟩ hs,by simpa using I.len⟩ ⟨c,hs,.inr hc⟩
  ·exact(hs.2 b (Nat.ne_of_lt (Nat.lt_of_lt_of_le (Heap.lt_size e) (I.ok.cab x c hfn hc)))).trans (I.base.keep b o e n hb hx)
  ·obtain⟨sl,e1⟩:=I.base.slot b o e n hb hx;exact⟨sl,(hs.2 b (Nat.ne_of_lt (Nat.lt_of_lt_of_le (Heap.lt_size e) (I.ok.cab x c hfn hc)))).trans e1⟩
  ·obtain⟨o',e1⟩:=I.base.there b o e hx;exact⟨o',(hs.2 b (Nat.ne_of_lt (Nat.lt_of_lt_of_le (Heap.lt_size e) (I.ok.cab x c hfn hc)))).trans e1⟩
  ·by_cases hj:j=i
   ·subst hj;rw[hi] at e1;cases e1;rw[getElem?_set_self hiσ] at e2
    cases e2
    exact⟨u,r,.inr ⟨.inl hk,c,hc,hc'⟩⟩
   ·rw[getElem?_set_ne (Ne.symm hj)] at e2;obtain⟨u',r',q⟩:=hl j y v' e1 e2 e3;refine⟨u',r',?_⟩;rcases q with q | ⟨k,c',e,z'⟩
    ·exact .inl q
    ·refine .inr ⟨k,c',e,z'.sameBut hs ?_⟩;rintro rfl;exact hj (By hN e1 (I.ok.inj _ _ _ e hc ▸ hi))
  ·by_cases hcc:c'=c
   ·subst hcc;exact⟨_,hc'⟩
   ·obtain⟨w2,z2⟩:=I.cell y c' e;exact⟨w2,z2.sameBut hs hcc⟩
  ·obtain⟨e,n,ne,nf,d⟩:=I.pin p hp;refine⟨(hs.2 p.1 ?_).trans e,n,ne,nf,d⟩;intro q;rw[q,hoc] at e;have q':oc=p.2:=Option.some.inj e;exact d w' (by rw[<- q'];exact hocd)
theorem lV (I:Inv X pins σ H s)(hN:X.N.Nodup)(hi:X.N[i]?=some x)(hx:Loc X.env.scope x)(r:cH v u)(h:∀s',Inv X pins (σ.set i (some v)) H s'->Q () s')(hf:X.fn x=true\/X.env.scope.names.lookup x=some .local:=by first | exact .inl rfl | exact .inr rfl | assumption):wpAny M A (storeName X.env x u) Q E s:=
 xY I hN hi hx r (fun s' I' _=>h s' I') hf
theorem Inv.call' (I:Inv X pins σ H s)(ho:s'.os=s.os)(u:Un (frs X.stack) ch H H' s.heap s'.heap)(hok:HOk X.prog X.w H' s'.heap)(hg:AllBare s'.gens)(hch:∀b∈ch,(b∈X.ex\/X.s₀.heap.objs.size<=b)/\b≠X.env.locals/\(∀x c,X.env.cells.lookup x=some c->c≠b)/\∀p∈X.pn++pins,p.1≠b):Inv X pins σ H' s':=by
 obtain⟨h',g',d',t',o'⟩:=s';have e:o'=s.os:=ho;subst e;exact I.call (g':=g') (t':=t') (d':=d') u hok hg hch
end
abbrev XK:=Value->Option Addr->Hp->Prop
abbrev St:=List (Option V)
abbrev VK:=V->Hp->Prop
abbrev TE:=St->Hp->VK->Prop
abbrev TT:=St->Hp->(Bool->Hp->Prop)->Prop
abbrev TA:=St->Hp->(List V->Hp->Prop)->Prop
structure mE where
 nx:St->Hp->Prop
 rt:VK
 bk:St->Hp->Prop:=fun _ _=>False
 ct:St->Hp->Prop:=fun _ _=>False
abbrev TS:=mE->St->Hp->Prop
def EP (X:Cx)(pins:List (Addr × Obj))(σ:St)(Q:VK)(u:Value)(s':Shared):Prop:=∃v H',Inv X pins σ H' s'/\cH v u/\Q v H'
def TP (X:Cx)(pins:List (Addr × Obj))(σ:St)(Q:Bool->Hp->Prop)(b:Bool)(s':Shared):Prop:=∃H',Inv X pins σ H' s'/\Q b H'
def AP (X:Cx)(pins:List (Addr × Obj))(σ:St)(Q:List V->Hp->Prop)(us:List Value)(s':Shared):Prop:=∃vs H',Inv X pins σ H' s'/\cC vs us/\Q vs H'
def SP (X:Cx)(pins:List (Addr × Obj))(D:mE)(f:Flow)(s':Shared):Prop:=
 match f with
 | .next=>∃σ' H',Inv X pins σ' H' s'/\D.nx σ' H'
 | .brk=>∃σ' H',Inv X pins σ' H' s'/\D.bk σ' H'
 | .cont=>∃σ' H',Inv X pins σ' H' s'/\D.ct σ' H'
 | .ret u=>∃v σ' H',Inv X pins σ' H' s'/\cH v u/\D.rt v H'
def PE (X:Cx)(e:Expr)(t:TE):Prop:=
 ∀(pins:List (Addr × Obj)) (s:Shared) (σ:St) (H:Hp) (Q:VK),Inv X pins σ H s->t σ H Q->wpAny (model X.prog X.w) X.A (eval e X.env) (EP X pins σ Q) X.xe s
def PT (X:Cx)(e:Expr)(t:TT):Prop:=
 ∀(pins:List (Addr × Obj)) (s:Shared) (σ:St) (H:Hp) (Q:Bool->Hp->Prop),Inv X pins σ H s->t σ H Q->wpAny (model X.prog X.w) X.A (isTrue e X.env (eval e X.env)) (TP X pins σ Q) X.xe s
def PW (X:Cx)(e:Expr)(t:TT):Prop:=
 ∀(whole:Sem Value) (pins:List (Addr × Obj)) (s:Shared) (σ:St) (H:Hp) (Q:Bool->Hp->Prop),Inv X pins σ H s->t σ H Q->wpAny (model X.prog X.w) X.A (isTrue e X.env whole) (TP X pins σ Q) X.xe s
theorem PW.pt (h:PW X e t):PT X e t:=h _
def PA (X:Cx)(es:List Expr)(t:TA):Prop:=
 ∀(pos:Pos) (pins:List (Addr × Obj)) (s:Shared) (σ:St) (H:Hp) (Q:List V->Hp->Prop),Inv X pins σ H s->t σ H Q->wpAny (model X.prog X.w) X.A (spliced (backTo pos (starEach es X.env))) (AP X pins σ Q) X.xe s
def PS (X:Cx)(st:Stmt)(t:TS):Prop:=
 ∀(pins:List (Addr × Obj)) (s:Shared) (σ:St) (H:Hp) (D:mE),Inv X pins σ H s->t D σ H->wpAny (model X.prog X.w) X.A (exec st X.env) (SP X pins D) X.xe s
def PSs (X:Cx)(st:List Stmt)(t:TS):Prop:=
 ∀(pins:List (Addr × Obj)) (s:Shared) (σ:St) (H:Hp) (D:mE),Inv X pins σ H s->t D σ H->wpAny (model X.prog X.w) X.A (execs st X.env) (SP X pins D) X.xe s
theorem thn (h:wpAny M A t Q E s)(hQ:∀a s,Q a s->Q' a s):wpAny M A t Q' E s:=wpAny_mono h hQ fun _ _ x=>x
section
variable {X:Cx}
inductive Ow (i:Nat) (σ:St) (H:Hp) (Q:VK):Prop where
 |mk (v):σ[i]?=some (some v)->Q v H->Ow i σ H Q
def tC (v:V):TE:=fun _ H Q=>Q v H
theorem Qj (hN:X.N[i]?=some x)(hv:Vis X.env.scope x)(hd:(x == ("__debug__":Str))=false:=by decide)(hcd:(x == ("__classdict__":Str))=false:=by decide):PE X (.Name x pos) (Ow i):=by
 intro pins s σ H Q I h;obtain⟨v,e,h⟩:=h;obtain⟨m,hn,hl⟩:=I.loc;obtain⟨u,r,l⟩:=hl i x v hN e hv;have fin:EP X pins σ Q u s:=⟨v,H,I,r,h⟩
 rcases l with ⟨hk,hm⟩ | ⟨hk,c,hc,hcell⟩
 ·exact wpAny_Name (wpAny_loadName_local I.ok.kind hk hn hm fin) hd
 ·rcases hk with hk | hk
  ·exact wpAny_Name (wpAny_loadName_cell I.ok.kind hk hc hcell fin) hd
  ·exact wpAny_Name (wpAny_loadName_free I.ok.kind hk hc hcell fin hcd) hd
theorem aE {i j pos}:PE X (.Constant (.int i) j pos) (tC (.int i)):=fun _ _ _ H _ I h=>wpAny_Constant_int ⟨.int i,H,I.tok _,⟨_,rfl⟩,h⟩
theorem jL {b j pos}:PE X (.Constant (.bool b) j pos) (tC (.bl b)):=fun _ _ _ H _ I h=>Constant_bool ⟨.bl b,H,I,rfl,h⟩
theorem qa1 {j pos}:PE X (.Constant .none j pos) (tC .non):=fun _ _ _ H _ I h=>Constant_none ⟨.non,H,I,rfl,h⟩
theorem cF {x j pos}:PE X (.Constant (.str x) j pos) (tC (.str x)):=fun _ _ _ H _ I h=>Calls.Constant_str ⟨.str x,H,I.tok _,⟨_,rfl⟩,h⟩
def Gl (X:Cx)(x:Str):Prop:=X.env.kindOf x=some .globalImplicit
theorem zP (I:Inv X pins σ H s)(hg:Gl X x)(hm:X.mg x=some u)(h:Q u s)(hd:(x == ("__debug__":Str))=false:=by decide):wpAny (model X.prog X.w) X.A (eval (.Name x pos) X.env) Q E s:=
 Calls.Name_function_global I.ok.kind hg (Calls.loadGlobal_global (by rw[I.ok.glob];exact I.mod.glob.keeps I.bk) hm h) hd
theorem kE (I:Inv X pins σ H s)(hg:Gl X x)(hm:X.mg x=none)(hv:bootBuiltins x=some u)(h:Q u s)(hn:x≠"__name__":=by decide)(hd:(x == ("__debug__":Str))=false:=by decide):wpAny (model X.prog X.w) X.A (eval (.Name x pos) X.env) Q E s:=by
 obtain⟨mb,h1,h2⟩:=I.mod.blt;exact Calls.Name_function_global I.ok.kind hg (Calls.loadGlobal_builtin (by rw[I.ok.glob];exact I.mod.glob.keeps I.bk) hm (by rw[I.ok.blt];exact h1.keeps I.bk) ((h2 x hn).trans hv) h) hd
theorem cT (hg:Gl X x)(hm:X.mg x=some u)(r:cH v u)(hd:(x == ("__debug__":Str))=false:=by decide):PE X (.Name x pos) (tC v):=
 fun _ _ _ H _ I h=>zP I hg hm ⟨v,H,I,r,h⟩ hd
theorem Vu (hg:Gl X x)(hm:X.mg x=none)(hv:bootBuiltins x=some u)(r:cH v u)(hn:x≠"__name__":=by decide)(hd:(x == ("__debug__":Str))=false:=by decide):PE X (.Name x pos) (tC v):=
 fun _ _ _ H _ I h=>kE I hg hm hv ⟨v,H,I,r,h⟩ hn hd
variable {a b:Expr} {ta tb:TE} {pos:Pos}
def PC (X:Cx)(op:CmpOp)(a b:Expr)(t:TE):Prop:=
 ∀(pins:List (Addr × Obj)) (s:Shared) (σ:St) (H:Hp) (Q:VK),Inv X pins σ H s->t σ H Q->
  wpAny (model X.prog X.w) X.A (eval a X.env) (fun v s₁=>wpAny (model X.prog X.w) X.A (eval b X.env) (fun u s₂=>wpAny (model X.prog X.w) X.A (compareOp op v u) (EP X pins σ Q) X.xe s₂) X.xe s₁) X.xe s
theorem Mv (b:Expr)(h:op≠.In)(h2:op≠.NotIn):behindInMarks op b=false:=by
 have e1:(op == CmpOp.In)=false:=by cases op<;>first | rfl | exact absurd rfl h
 have e2:(op == CmpOp.NotIn)=false:=by cases op<;>first | rfl | exact absurd rfl h2
 cases b<;>simp[behindInMarks,e1,e2]
def ql5 (ta:TE):TE:=fun σ H Q=>ta σ H fun x H1=>Q (.bl (decide (x=.non))) H1
theorem cH.none_iff (r:cH x v):(v == Value.none)=decide (x=.non):=by
 cases x with
 |non=>cases r;rfl
 |bl _=>cases r;rfl
 |int _=>obtain⟨t,rfl⟩:=r;rfl
 |str _=>obtain⟨t,rfl⟩:=r;rfl
 |byt _=>obtain⟨t,rfl⟩:=r;rfl
 |flt _=>obtain⟨t,rfl⟩:=r;rfl
 |ref _=>cases r;rfl
 |ty _=>cases r;rfl
theorem Gd {j pos'}(ha:PE X a ta):PC X .Is a (.Constant .none j pos') (ql5 ta):=by
 intro pins s σ H Q I h;refine thn (ha pins s σ H _ I h) fun v s1 ⟨x,H1,I1,r1,q1⟩=>?_;exact Constant_none (is_none_gen ⟨.bl _,H1,I1,by rw[r1.none_iff];rfl,q1⟩)
inductive BlT (x:V) (q:Bool->Prop):Prop where
 |mk (c:Bool) (_:x=.bl c) (_:q c):BlT x q
def tB (t:TE):TT:=fun σ H Q=>t σ H fun x H1=>BlT x fun c=>Q c H1
theorem yP (h:PC X op a b t)(h1:behindInMarks op b=false:=by first | exact Mv _ (by decide) (by decide) | rfl):PT X (.Compare a [op] [b] pos) (tB t):=by
 intro pins s σ H Q I hw;refine wpAny_isTrue_Compare1 (thn (h pins s σ H _ I hw) fun v s1 h1=>thn h1 fun u s2 h2=>thn h2 fun c s3 ⟨x,H1,I1,r1,q1⟩=>?_) h1;obtain⟨d,rfl,q⟩:=q1
 cases r1
 exact wpAny_truthy_bool ⟨H1,I1,q⟩
theorem fF (h:PE X e t)(he:∀whole,isTrue e X.env whole=(do let v <- whole;standAt e.pos;holding [v] (truthy v)):=by intro _;rfl):PT X e (tB t):=by
 intro pins s σ H Q I hw;refine isTrue_plain (thn (h pins s σ H _ I hw) fun v s1 ⟨x,H1,I1,r1,q1⟩=>?_) (he _);obtain⟨d,rfl,q⟩:=q1
 cases r1
 exact wpAny_truthy_bool ⟨H1,I1,q⟩
variable {tA tB':TT} {rest:List Expr}
def qn0 (t u:TT):TT:=fun σ H Q=>t σ H fun c H1=>if c=true then u σ H1 Q else Q false H1
def tOr (t u:TT):TT:=fun σ H Q=>t σ H fun c H1=>if c=true then Q true H1 else u σ H1 Q
def qn2 (t:TT):TT:=fun σ H Q=>t σ H fun c H1=>Q (!c) H1
theorem oW (ha:PT X a tA):PW X (.BoolOp .And [a] pos) tA:=by
 intro wh pins s σ H Q I h;refine isTrue_and (thn (ha pins s σ H Q I h) fun c s1 e=>?_)
 cases c with
 |true=>exact isTrue_and_nil e
 |false=>exact e
theorem nY (ha:PT X a tA):PW X (.BoolOp .Or [a] pos) tA:=by
 intro wh pins s σ H Q I h;refine isTrue_or (thn (ha pins s σ H Q I h) fun c s1 e=>?_)
 cases c with
 |false=>exact isTrue_or_nil e
 |true=>exact e
theorem vY (ha:PT X a tA)(hb:PW X (.BoolOp .And (b :: rest) pos) tB'):PW X (.BoolOp .And (a :: b :: rest) pos) (qn0 tA tB'):=by
 intro wh pins s σ H Q I h;refine isTrue_and (thn (ha pins s σ H _ I h) fun c s1 ⟨H1,I1,q1⟩=>?_)
 cases c with
 |true=>exact hb wh pins s1 σ H1 Q I1 q1
 |false=>exact⟨H1,I1,q1⟩
theorem pJ (ha:PT X a tA)(hb:PW X (.BoolOp .Or (b :: rest) pos) tB'):PW X (.BoolOp .Or (a :: b :: rest) pos) (tOr tA tB'):=by
 intro wh pins s σ H Q I h;refine isTrue_or (thn (ha pins s σ H _ I h) fun c s1 ⟨H1,I1,q1⟩=>?_)
 cases c with
 |true=>exact⟨H1,I1,q1⟩
 |false=>exact hb wh pins s1 σ H1 Q I1 q1
theorem gX (ha:PT X a tA):PT X (.UnaryOp .Not a pos) (qn2 tA):=by
 intro pins s σ H Q I h;exact isTrue_not (ha pins s σ H (fun c H1=>Q (!c) H1) I h)
def qi6 (ta tb:TE):TE:=fun σ H Q=>ta σ H fun x H1=>BlT x fun c=>if c=true then tb σ H1 Q else Q (.bl false) H1
def qj5 (ta:TE):TE:=fun σ H Q=>ta σ H fun x H1=>BlT x fun c=>Q (.bl (!c)) H1
theorem tS {op}(h:PE X a t):PE X (.BoolOp op [a] pos) t:=fun pins s σ H Q I hw=>BoolOp_one (h pins s σ H Q I hw)
theorem qD (ha:PE X a ta)(hb:PE X (.BoolOp .And (b :: rest) pos) tb):PE X (.BoolOp .And (a :: b :: rest) pos) (qi6 ta tb):=by
 intro pins s σ H Q I h;refine BoolOp_and (thn (ha pins s σ H _ I h) fun v s1 ⟨x,H1,I1,r1,q1⟩=>?_);obtain⟨c,rfl,q1⟩:=q1
 cases r1
 refine wpAny_truthy_bool ?_
 cases c with
 |true=>exact hb pins s1 σ H1 Q I1 q1
 |false=>exact⟨.bl false,H1,I1,rfl,q1⟩
theorem qd7 (ha:PE X a ta):PE X (.UnaryOp .Not a pos) (qj5 ta):=by
 intro pins s σ H Q I h;refine UnaryOp_ (thn (ha pins s σ H _ I h) fun v s1 ⟨x,H1,I1,r1,q1⟩=>?_);obtain⟨c,rfl,q1⟩:=q1
 cases r1
 exact not_of (wpAny_truthy_bool ⟨.bl (!c),H1,I1,rfl,q1⟩)
def tIf (t:TT)(ta tb:TE):TE:=fun σ H Q=>t σ H fun c H1=>if c=true then ta σ H1 Q else tb σ H1 Q
theorem kZ (hc:PT X c tA)(ha:PE X a ta)(hb:PE X b tb):PE X (.IfExp c a b pos) (tIf tA ta tb):=by
 intro pins s σ H Q I h;refine wpAny_IfExp (thn (hc pins s σ H _ I h) fun d s1 ⟨H1,I1,q1⟩=>?_)
 cases d with
 |true=>exact ha pins s1 σ H1 Q I1 q1
 |false=>exact hb pins s1 σ H1 Q I1 q1
end
def SqL (K:Frag)(H:Hp)(a:Addr)(xs:List V):Prop:=
 Rd H a (.lst xs)\/
  ∃(o:Obj) (its:Array Value) (n:Nat),K.lookup a=some o/\o.cls=.type "list"/\o.dict=none/\o.data=.seq its n/\its.size<=sizeLine/\cC xs its.toList
def SqT (K:Frag)(H:Hp)(a:Addr)(xs:List V):Prop:=
 Rd H a (.tup xs)\/
  ∃(o:Obj) (its:Array Value) (n:Nat),K.lookup a=some o/\o.cls=.type "tuple"/\o.data=.seq its n/\its.size<=sizeLine/\cC xs its.toList
def ql7:Value->Option V
 | .none=>some .non
 | .bool b=>some (.bl b)
 | .int i _=>some (.int i)
 | .str x _=>some (.str x)
 | .bytes b _=>some (.byt b)
 | .float b _=>some (.flt b)
 | .ref a=>some (.ref a)
 | .type n=>some (.ty n)
 |_=>none
theorem cH.abs (r:cH x u):ql7 u=some x:=by
 cases x with
 |non=>cases r;rfl
 |bl _=>cases r;rfl
 |int _=>obtain⟨t,rfl⟩:=r;rfl
 |str _=>obtain⟨t,rfl⟩:=r;rfl
 |byt _=>obtain⟨t,rfl⟩:=r;rfl
 |flt _=>obtain⟨t,rfl⟩:=r;rfl
 |ref _=>cases r;rfl
 |ty _=>cases r;rfl
theorem cH.inj (r:cH x u)(q:cH y u):x=y:=Option.some.inj (r.abs.symm.trans q.abs)
theorem cC.inj:∀{xs ys:List V} {us:List Value},cC xs us->cC ys us->xs=ys
 |_,_,_,.nil,.nil=>rfl
 |_,_,_,.cons r t,.cons r' t'=>by rw[r.inj r',cC.inj t t']
section
variable {X:Cx} {pins:List (Addr × Obj)} {σ:St} {H:Hp} {s:Shared} {a:Addr} {xs ys:List V}
theorem SqL.of {K:Frag}(h:H a=some (.lst xs)):SqL K H a xs:=.inl (.inl h)
theorem SqT.of {K:Frag}(h:H a=some (.tup xs)):SqT K H a xs:=.inl (.inl h)
theorem Inv.list (I:Inv X pins σ H s)(h:SqL X.K H a xs):∃its:List Value,cC xs its/\PlainL s.heap a its.toArray/\xs.length<=sizeLine:=by
 rcases h with h | ⟨o,its,n,hk,hc,hd,hs,hz,r⟩
 ·obtain⟨z,its,n,r,e⟩:=h.ok I.hok;exact⟨its,r,⟨_,n,e,rfl,rfl,rfl⟩,z⟩
 ·refine⟨its.toList,r,⟨o,n,I.kIn a o hk,hc,hd,by simpa using hs⟩,?_⟩;have e:=r.length;simp only[Array.length_toList] at e;lia
theorem Inv.tuple (I:Inv X pins σ H s)(h:SqT X.K H a xs):∃its:List Value,cC xs its/\IsTup s.heap a its.toArray/\xs.length<=sizeLine:=by
 rcases h with h | ⟨o,its,n,hk,hc,hs,hz,r⟩
 ·obtain⟨z,its,r,p⟩:=h.ok I.hok;exact⟨its,r,p,z⟩
 ·refine⟨its.toList,r,⟨o,I.kIn a o hk,hc,n,by simpa using hs⟩,?_⟩;have e:=r.length;simp only[Array.length_toList] at e;lia
theorem Inv.list_inj (I:Inv X pins σ H s)(h:SqL X.K H a xs)(h':SqL X.K H a ys):xs=ys:=by
 obtain⟨its,r,⟨o,n,e,_,_,d⟩,_⟩:=I.list h;obtain⟨its',r',⟨o',n',e',_,_,d'⟩,_⟩:=I.list h';rw[e] at e';cases e';rw[d] at d';injection d' with d1 _
 have:its=its':=by simpa using congrArg Array.toList d1
 subst this;exact r.inj r'
theorem Inv.tuple_inj (I:Inv X pins σ H s)(h:SqT X.K H a xs)(h':SqT X.K H a ys):xs=ys:=by
 obtain⟨its,r,⟨o,e,_,n,d⟩,_⟩:=I.tuple h;obtain⟨its',r',⟨o',e',_,n',d'⟩,_⟩:=I.tuple h';rw[e] at e';cases e';rw[d] at d';injection d' with d1 _
 have:its=its':=by simpa using congrArg Array.toList d1
 subst this;exact r.inj r'
end
abbrev Cx.wish (X:Cx)(E:Value->Shared->Prop):Cx:={ X with xe:=E }
abbrev Cx.nox (X:Cx):Cx:=X.wish fun _ _=>False
theorem Cx.Ok.wish {X:Cx}(ok:X.Ok)(E:Value->Shared->Prop):(X.wish E).Ok:=
 ⟨ok.mod,ok.kind,ok.glob,ok.blt,ok.above,ok.inj,ok.has,ok.cab,ok.hd,ok.frames,ok.stk,ok.exf,ok.bs,ok.bsz,ok.noex,ok.exfs,ok.funs,ok.frf⟩
theorem Cx.Ok.unwish {X:Cx}(ok:(X.wish E).Ok):X.Ok:=
 ⟨ok.mod,ok.kind,ok.glob,ok.blt,ok.above,ok.inj,ok.has,ok.cab,ok.hd,ok.frames,ok.stk,ok.exf,ok.bs,ok.bsz,ok.noex,ok.exfs,ok.funs,ok.frf⟩
section
variable {X:Cx} {pins:List (Addr × Obj)} {σ:St} {H:Hp} {s:Shared} {E:Value->Shared->Prop}
theorem Inv.wish (I:Inv X pins σ H s)(E:Value->Shared->Prop):Inv (X.wish E) pins σ H s:=⟨I.ok.wish E,I.os,I.bare,I.base,I.loc,I.cell,I.free,I.freeC,I.pin,I.hok,I.len⟩
theorem Inv.unwish (I:Inv (X.wish E) pins σ H s):Inv X pins σ H s:=⟨I.ok.unwish,I.os,I.bare,I.base,I.loc,I.cell,I.free,I.freeC,I.pin,I.hok,I.len⟩
theorem SP.unwish (h:SP (X.wish E) pins D f s'):SP X pins D f s':=by
 cases f with
 |next=>obtain⟨σ',H',I,q⟩:=h;exact⟨σ',H',I.unwish,q⟩
 |brk=>obtain⟨σ',H',I,q⟩:=h;exact⟨σ',H',I.unwish,q⟩
 |cont=>obtain⟨σ',H',I,q⟩:=h;exact⟨σ',H',I.unwish,q⟩
 |ret u=>obtain⟨v,σ',H',I,r,q⟩:=h;exact⟨v,σ',H',I.unwish,r,q⟩
theorem PSs.nox {st:List Stmt}(h:PSs X.nox st t):PSs X st t:=fun pins s σ H D I hw=>
 wpAny_mono (h pins s σ H D (I.wish _) hw) (fun _ _ q=>q.unwish) fun _ _ z=>False.elim z
end
section
variable {X:Cx} {st:Stmt} {rest:List Stmt} {t u:TS} {e:Expr} {te:TE} {pos:Pos}
def qh7:TS:=fun D σ H=>D.nx σ H
def jH (t u:TS):TS:=fun D σ H=>t { D with nx:=u D } σ H
theorem bN:PSs X [] qh7:=fun _ _ σ H _ I h=>wpAny_execs_nil ⟨σ,H,I,h⟩
theorem aB (h1:PS X st t)(h2:PSs X rest u):PSs X (st :: rest) (jH t u):=by
 intro pins s σ H D I h;refine wpAny_execs_cons (thn (h1 pins s σ H { D with nx:=u D } I h) fun f s1 q=>?_)
 cases f with
 |next=>
  obtain⟨σ',H',I',q⟩:=q;exact h2 pins s1 σ' H' D I' q
 |ret v=>exact q
 |brk=>exact q
 |cont=>exact q
theorem aF (h1:PS X st t):PSs X [st] t:=by
 intro pins s σ H D I h;refine wpAny_execs_cons (thn (h1 pins s σ H D I h) fun f s1 q=>?_)
 cases f with
 |next=>exact wpAny_execs_nil q
 |ret v=>exact q
 |brk=>exact q
 |cont=>exact q
def qe3:TS:=fun D σ H=>D.ct σ H
theorem rF:PS X (.Continue pos) qe3:=fun _ _ σ H _ I h=>wpAny_Continue ⟨σ,H,I,h⟩
theorem Inv.quiet (I:Inv X pins σ H s):interactive X.env=false:=by simp[interactive,I.ok.kind]
def qj2 (te:TE):TS:=fun D σ H=>te σ H fun _ H1=>D.nx σ H1
theorem bY (he:PE X e te)(hs:swapsWith e none pos.line X.env=pure false:=by rfl):PS X (.Expr e pos) (qj2 te):=by
 intro pins s σ H D I h;exact wpAny_Expr_any (thn (he pins s σ H _ I h) fun v s1 ⟨x,H1,I1,r1,q1⟩=>⟨σ,H1,I1,q1⟩) I.quiet hs
def qm7 (te:TE):TS:=fun D σ H=>te σ H D.rt
theorem aW (he:PE X e te):PS X (.Return (some e) pos) (qm7 te):=by
 intro pins s σ H D I h;exact wpAny_Return_some (thn (he pins s σ H _ I h) fun v s1 ⟨x,H1,I1,r1,q1⟩=>⟨x,σ,H1,I1,r1,q1⟩)
def qn3 (c:TT)(t u:TS):TS:=fun D σ H=>c σ H fun b H1=>if b=true then t D σ H1 else u D σ H1
theorem cG (hc:PT X c tc)(ha:PSs X a t)(hb:PSs X b u):PS X (.If c a b pos) (qn3 tc t u):=by
 intro pins s σ H D I h;refine wpAny_If (thn (hc pins s σ H _ I h) fun d s1 ⟨H1,I1,q1⟩=>?_)
 cases d with
 |true=>exact ha pins s1 σ H1 D I1 q1
 |false=>exact hb pins s1 σ H1 D I1 q1
def Pm:TS:=fun _ _ _=>False
theorem fK:PS X st Pm:=fun _ _ _ _ _ _ h=>h.elim
theorem Ln:PSs X sts Pm:=fun _ _ _ _ _ _ h=>h.elim
end
abbrev TG:=V->St->Hp->(St->Hp->Prop)->Prop
abbrev TGs:=List V->St->Hp->(St->Hp->Prop)->Prop
def PG (X:Cx)(target:Expr)(t:TG):Prop:=
 ∀(pins:List (Addr × Obj)) (s:Shared) (σ:St) (H:Hp) (v:V) (u:Value) (Q:St->Hp->Prop),Inv X pins σ H s->cH v u->t v σ H Q->
  wpAny (model X.prog X.w) X.A (assign target X.env u) (fun _ s'=>∃σ' H',Inv X pins σ' H' s'/\Q σ' H') X.xe s
def PGs (X:Cx)(ts:List Expr)(t:TGs):Prop:=
 ∀(pins:List (Addr × Obj)) (s:Shared) (σ:St) (H:Hp) (vs:List V) (us:List Value) (Q:St->Hp->Prop),Inv X pins σ H s->cC vs us->t vs σ H Q->
  wpAny (model X.prog X.w) X.A (assignInOrder ((assignEach ts X.env).map (·.2)) us) (fun _ s'=>∃σ' H',Inv X pins σ' H' s'/\Q σ' H') X.xe s
abbrev qb9:=V->V->V->Hp->(Hp->Prop)->Prop
def qf1 (X:Cx)(t:qb9):Prop:=
 ∀(pins:List (Addr × Obj)) (s:Shared) (σ:St) (H:Hp) (o i v:V) (ov iv u:Value) (Q:Hp->Prop),Inv X pins σ H s->cH o ov->cH i iv->cH v u->t o i v H Q->
  wpAny (model X.prog X.w) X.A (setItem ov iv u) (fun _ s'=>∃H',Inv X pins σ H' s'/\Q H') X.xe s
abbrev TIp:=V->V->Hp->VK->Prop
def PIp (X:Cx)(op:Operator)(t:TIp):Prop:=
 ∀(pins:List (Addr × Obj)) (s:Shared) (σ:St) (H:Hp) (x y:V) (v u:Value) (Q:VK),Inv X pins σ H s->cH x v->cH y u->t x y H Q->
  wpAny (model X.prog X.w) X.A (inplaceOp op v u) (EP X pins σ Q) X.xe s
section
variable {X:Cx} {pos:Pos}
def iX (i:Nat):TG:=fun v σ H Q=>Q (σ.set i (some v)) H
theorem bH (hN:X.N.Nodup)(hi:X.N[i]?=some x)(hx:Loc X.env.scope x)(hf:X.fn x=true\/X.env.scope.names.lookup x=some .local:=by first | exact .inl rfl | exact .inr rfl | assumption):PG X (.Name x pos) (iX i):=by
 intro pins s σ H v u Q I r h;exact wpAny_assign_Name (lV I hN hi hx r (fun s' I'=>⟨_,H,I',h⟩) hf)
def Gp:TGs:=fun vs σ H Q=>vs=[]/\Q σ H
def jU (t:TG)(u:TGs):TGs:=fun vs σ H Q=>∃v r,vs=v :: r/\t v σ H fun σ' H'=>u r σ' H' Q
theorem iT:PGs X [] Gp:=by
 intro pins s σ H vs us Q I r h;obtain⟨e,h⟩:=h;subst e
 cases r
 exact assignInOrder_nil ⟨σ,H,I,h⟩
theorem dB (h1:PG X e t)(h2:PGs X es u)(hs:(assignEach (e :: es) X.env).map (·.2)=assign e X.env :: (assignEach es X.env).map (·.2):=by rfl):PGs X (e :: es) (jU t u):=by
 intro pins s σ H vs us Q I r h;obtain⟨v,vr,e1,h⟩:=h;subst e1
 cases r with
 |cons r rr=>
  rw[hs];refine assignInOrder_cons (thn (h1 pins s σ H _ _ _ I r h) fun _ s1 ⟨σ1,H1,I1,q1⟩=>?_);exact h2 pins s1 σ1 H1 _ _ Q I1 rr q1
def Ed (K:Frag)(n:Nat)(t:TGs):TG:=fun v σ H Q=>∃a xs,v=.ref a/\SqT K H a xs/\xs.length=n/\t xs σ H Q
theorem kF (hc:X.calm=true)(h:PGs X es t)(hn:(assignEach es X.env).length=n:=by rfl)(hst:(assignEach es X.env).findIdx? (·.1)=none:=by rfl):PG X (.Tuple es k pos) (Ed X.K n t):=by
 intro pins s σ H v u Q I r hw;obtain⟨a,xs,e1,hq,hl,hw⟩:=hw;subst e1
 cases r
 obtain⟨its,rv,ht,hz⟩:=I.tuple hq;refine assign_Tuple_tuple (I.ok.hd hc) ht (by simp[hn,<- hl,rv.length]) hst fun h' hx=>?_;have I1:Inv X pins σ H { s with heap:=h' }:=I.kept (t':=s.toks) fun b o e=>hx b o (Nat.ne_of_lt (Heap.lt_size e)) e;exact h pins _ σ H xs _ Q I1 (by simpa using rv) hw
def ql6 (to ti:TE)(t:qb9):TG:=fun v σ H Q=>to σ H fun o H1=>ti σ H1 fun i H2=>t o i v H2 fun H3=>Q σ H3
theorem oF (ho:PE X o to)(hi:PE X i ti)(hs:qf1 X t)(ha:∀v,assign (.Subscript o i pos) X.env v=(do
   let ov <- holding [v] (eval o X.env)
   let iv <- holding [v,ov] (eval i X.env)
   standAt pos
   holding [v,ov,iv] (setItem ov iv v)
   release [v,ov,iv] []):=by intro _;rfl):PG X (.Subscript o i pos) (ql6 to ti t):=by
 intro pins s σ H v u Q I r h;rw[ha];refine wpAny_bind (wpAny_holding (thn (ho pins s σ H _ I h) fun ov s1 ⟨x,H1,I1,r1,q1⟩=>?_));refine wpAny_bind (wpAny_holding (thn (hi pins s1 σ H1 _ I1 q1) fun iv s2 ⟨y,H2,I2,r2,q2⟩=>?_));refine wpAny_bind (wpAny_standAt (wpAny_bind (wpAny_holding (thn (hs pins s2 σ H2 x y v ov iv u _ I2 r1 r2 r q2) fun _ s3 ⟨H3,I3,q3⟩=>?_))));exact wpAny_release ⟨σ,H3,I3,q3⟩
def Xf (te:TE)(g:TG):TS:=fun D σ H=>te σ H fun x H1=>g x σ H1 D.nx
theorem kW (he:PE X e te)(hg:PG X tg g)(hs:swapsWithSole [tg] e pos.line X.env=pure false:=by rfl)(hw:swappedStores [tg] e X.env=pure none:=by rfl)(h1:(assignEach [tg] X.env).map (·.2)=[assign tg X.env]:=by rfl):PS X (.Assign [tg] e pos) (Xf te g):=by
 intro pins s σ H D I h;refine wpAny_Assign_stores (thn (he pins s σ H _ I h) fun v s1 ⟨x,H1,I1,r1,q1⟩=>?_) hs hw;rw[h1];exact thn (hg pins s1 σ H1 x v _ I1 r1 q1) fun _ s2 q=>q
theorem aS (hN:X.N.Nodup)(hi:X.N[i]?=some x)(hx:Loc X.env.scope x)(he:PE X e te)(hs:swapsWith e (some (.Name x pos')) pos.line X.env=pure false:=by rfl)(hf:X.fn x=true\/X.env.scope.names.lookup x=some .local:=by first | exact .inl rfl | exact .inr rfl | assumption):
  PS X (.Assign [.Name x pos'] e pos) (Xf te (iX i)):=by
 intro pins s σ H D I h;refine wpAny_Assign_Name (thn (he pins s σ H _ I h) fun v s1 ⟨y,H1,I1,r1,q1⟩=>?_) hs;exact lV I1 hN hi hx r1 (fun s2 I2=>⟨_,H1,I2,q1⟩) hf
inductive Xd (i j:Nat) (D:mE) (σ:St) (vs:List V) (H1:Hp):Prop where
 |mk (v w):vs=[v,w]->D.nx ((σ.set i (some v)).set j (some w)) H1->Xd i j D σ vs H1
def qk4 (i j:Nat)(ta:TA):TS:=fun D σ H=>ta σ H fun vs H1=>Xd i j D σ vs H1
theorem Mp {kt k2 pt2}(hc:X.calm=true)(hN:X.N.Nodup)(hi:X.N[i]?=some x)(hj:X.N[j]?=some y)(hij:i≠j)(hx:X.env.scope.names.lookup x=some .local)(hy:X.env.scope.names.lookup y=some .local)(ha:PA X [a,b] ta)(hw:swappedStores [.Tuple [.Name x px,.Name y py] kt pt] (.Tuple [a,b] k2 pt2) X.env=pure (some [x,y]))(hs:swapsWithSole [.Tuple [.Name x px,.Name y py] kt pt] (.Tuple [a,b] k2 pt2) pos.line X.env=pure false:=by rfl):
  PS X (.Assign [.Tuple [.Name x px,.Name y py] kt pt] (.Tuple [a,b] k2 pt2) pos) (qk4 i j ta):=by
 intro pins s σ H D I h;rw[exec_Assign_arm];refine wpAny_bind (wpAny_standAt ?_);rw[hs];refine wpAny_bind (wpAny_pure ?_);rw[if_neg (by decide)];refine wpAny_bind (Tuple_ (thn (ha _ pins s σ H _ I h) fun us s1 ⟨vs,H1,I1,r1,q1⟩=>?_));obtain⟨v,w,e1,q1⟩:=q1;subst e1;obtain⟨u1,u2,rfl,rv,rw'⟩:∃u1 u2,us=[u1,u2]/\cH v u1/\cH w u2:=by
  cases r1 with
  |cons p q=>
   cases q with
   |cons p' q'=>
    cases q'
    exact⟨_,_,rfl,p,p'⟩
 refine wpAny_newObj_type ?_ (by show 2<=sizeLine;decide);have I2:Inv X pins σ H1 { s1 with heap:=s1.heap.push { cls:=.type "tuple",data:=.seq [u1,u2].toArray } }:=I1.kept (t':=s1.toks) fun b o e=>Heap.get?_push_of_some _ e;rw[hw];refine wpAny_bind (wpAny_pure ?_);show wpAny (model X.prog X.w) X.A (do rule "assign.swapped-stores";let items <- unpackItems (.ref s1.heap.objs.size) 2 none;assignInOrder [fun v=>bindName X.env y v,fun v=>bindName X.env x v] items.reverse;pure Flow.next) _ _ _;refine wpAny_bind (wpAny_rule (wpAny_bind (unpackItems_tuple (items:=#[u1,u2]) (I.ok.hd hc) (IsTup.new s1.heap _) fun h' hx'=>?_)));have I3:=I2.kept (h':=h') (t':=s1.toks) fun b o e=>hx' b o (Nat.ne_of_lt (Heap.lt_size e)) e;show wpAny _ _ (assignInOrder [fun v=>bindName X.env y v,fun v=>bindName X.env x v] [u2,u1] >>= fun _=>pure Flow.next) _ _ _;refine wpAny_bind (assignInOrder_cons (wpAny_bindName (lV I3 hN hj (.inl hy) rw' (fun s2 I4=>?_) (.inr hy))));refine assignInOrder_cons (wpAny_bindName (lV I4 hN hi (.inl hx) rv (fun s3 I5=>assignInOrder_nil (wpAny_pure ?_)) (.inr hx)));rw[set_comm _ _ (Ne.symm hij)] at I5;exact⟨_,H1,I5,q1⟩
def qm4 (i:Nat)(te:TE)(ti:TIp):TS:=fun D σ H=>∃x,σ[i]?=some (some x)/\te σ H fun y H1=>ti x y H1 fun z H2=>D.nx (σ.set i (some z)) H2
theorem Hi (hN:X.N.Nodup)(hi:X.N[i]?=some x)(hx:Loc X.env.scope x)(he:PE X e te)(ho:PIp X op ti)(hf:X.fn x=true\/X.env.scope.names.lookup x=some .local:=by first | exact .inl rfl | exact .inr rfl | assumption):
  PS X (.AugAssign (.Name x pos') op e pos) (qm4 i te ti):=by
 intro pins s σ H D I h;obtain⟨v,e1,h⟩:=h;obtain⟨m,hn,hl⟩:=I.loc;have vis:Vis X.env.scope x:=by rcases hx with k | k;exact .inl k;exact .inr (.inl k)
 obtain⟨u,r,l⟩:=hl i x v hi e1 vis;refine wpAny_AugAssign_Name ?_;have go:wpAny (model X.prog X.w) X.A (eval e X.env) (fun w s₂=>wpAny (model X.prog X.w) X.A (inplaceOp op u w) (fun r s₃=>wpAny (model X.prog X.w) X.A (storeName X.env x r) (fun _=>SP X pins D .next) X.xe s₃) X.xe s₂) X.xe s:=by
  refine thn (he pins s σ H _ I h) fun w s1 ⟨y,H1,I1,r1,q1⟩=>?_;refine thn (ho pins s1 σ H1 v y u w _ I1 r r1 q1) fun z s2 ⟨zv,H2,I2,r2,q2⟩=>?_;exact lV I2 hN hi hx r2 (fun s3 I3=>⟨_,H2,I3,q2⟩) hf
 rcases l with ⟨hk,hm⟩ | ⟨hk,c,hc,hcell⟩
 ·exact wpAny_loadName_local I.ok.kind hk hn hm go
 ·rcases hk with hk | hk
  ·exact wpAny_loadName_cell I.ok.kind hk hc hcell go
  ·rcases hx with k | k
   ·have:X.env.scope.names.lookup x=some .free:=hk;rw[k] at this;cases this
   ·have:X.env.scope.names.lookup x=some .free:=hk;rw[k] at this;cases this
def ipI (f:Int->Int->Int):TIp:=fun x y H Q=>∃i j,x=.int i/\y=.int j/\Q (.int (f i j)) H
theorem Fc:PIp X .Add (ipI fun i j=>i+j):=by
 intro pins s σ H x y v u Q I r1 r2 h;obtain⟨i,j,e1,e2,q⟩:=h;subst e1;subst e2;obtain⟨t,rfl⟩:=r1;obtain⟨t',rfl⟩:=r2;exact iadd_int ⟨.int _,H,I.tok _,⟨_,rfl⟩,q⟩
def Oi (c:TT)(tb:TS):TS:=fun D σ H=>∃W:Nat->St->Hp->Prop,(∃m,W m σ H)/\∀m σ H,W m σ H->
 c σ H fun b H1=>if b=true then ∃N:St->Hp->Prop,(∀σ' H',N σ' H'->∃m',m' < m/\W m' σ' H')/\tb { D with nx:=N,ct:=N,bk:=D.nx } σ H1 else D.nx σ H1
theorem vG (hp:PassesOwn (model X.prog X.w) X.A X.env X.xe)(hc:PT X c tc)(hb:PSs X body tb):PS X (.While c body [] pos) (Oi tc tb):=by
 intro pins s σ H D I h;obtain⟨W,⟨m0,w0⟩,turn⟩:=h;refine wpAny_While (codeAny_whileLoop (fun n s'=>∃σ' H',Inv X pins σ' H' s'/\W n σ' H') ?_ m0 ⟨σ,H,I,w0⟩);rintro n s1 ⟨σ1,H1,I1,w1⟩;refine wpAny_passesOwn hp (thn (hc pins s1 σ1 H1 _ I1 (turn n σ1 H1 w1)) fun b s2 ⟨H2,I2,q2⟩=>?_)
 cases b with
 |true=>
  obtain⟨N,hN,q2⟩:=q2;rw[if_pos rfl];refine wpAny_passesOwn hp (thn (hb pins s2 σ1 H2 _ I2 q2) fun f s3 q3=>?_)
  cases f with
  |next=>
   obtain⟨σ3,H3,I3,n3⟩:=q3;obtain⟨m',hm,w3⟩:=hN σ3 H3 n3;exact⟨m',hm,σ3,H3,I3,w3⟩
  |cont=>
   obtain⟨σ3,H3,I3,n3⟩:=q3;obtain⟨m',hm,w3⟩:=hN σ3 H3 n3;exact⟨m',hm,σ3,H3,I3,w3⟩
  |brk=>exact q3
  |ret v=>exact q3
 |false=>
  rw[if_neg Bool.false_ne_true];exact wpAny_execs_nil ⟨σ1,H2,I2,q2⟩
end
structure It where
 go:Nat->Hp->Prop
 yld:Nat->Hp->V->Hp->Prop
 stop:Nat->Hp->Prop
def mY (X:Cx)(pins:List (Addr × Obj))(H:Hp)(b:Addr):Prop:=
 H b=none/\b≠X.env.locals/\b∉X.fs/\(b∈X.ex\/X.s₀.heap.objs.size<=b)/\(∀x c,X.env.cells.lookup x=some c->c≠b)/\∀p∈X.pn++pins,p.1≠b
theorem Inv.fpOk (I:Inv X pins σ H s)(hb:s.heap.objs.size<=b)(hn:H' b=none):mY X pins H' b:=by
 refine⟨hn,Nat.ne_of_gt (Nat.lt_of_lt_of_le I.lt hb),I.nofs hb,.inr (Nat.le_trans I.sz hb),fun x c e z=>?_,fun p hp z=>?_⟩
 ·obtain⟨v,q⟩:=I.cell x c e;exact absurd (Nat.lt_of_lt_of_le q.lt (by rw[z];exact hb)) (Nat.lt_irrefl _)
 ·exact absurd (Nat.lt_of_lt_of_le (Heap.lt_size (I.pin p hp).1) (by rw[z];exact hb)) (Nat.lt_irrefl _)
structure Ku (P:Program) (w:World) (K:Frag) (tg:Expr) (J:It) (fp:List Addr) (it:Addr) (tn:Nat->Heap->Prop):Prop where
 mem:it∈fp
 obj:∀i h,tn i h->∀b∈fp,∃o,h.get? b=some o/\∀v,o.data≠.cell v
 keep:∀i h h',tn i h->(∀b∈fp,∀o,h.get? b=some o->h'.get? b=some o)->tn i h'
 item:∀(X:Cx),X.prog=P->X.w=w->X.K=K->X.calm=true->∀(i:Nat) (pins:List (Addr × Obj)) (s:Shared) (σ:St) (H:Hp) (E:Value->Shared->Prop),Inv X pins σ H s->(∀b∈fp,mY X pins H b)->tn i s.heap->J.go i H->
  wpAny (model P w) X.A (pyNext (.ref it)) (fun r s1=>∃u,r=some u/\
   wpAny (model P w) X.A (letOwnedTupleGo tg (.ref it) u) (fun _ s2=>∃x H',Inv X pins σ H' s2/\cH x u/\J.yld i H x H'/\tn (i+1) s2.heap/\∀b∈fp,H' b=none) E s1) E s
 done:∀(X:Cx),X.prog=P->X.w=w->X.K=K->X.calm=true->∀(i:Nat) (pins:List (Addr × Obj)) (s:Shared) (σ:St) (H:Hp) (E:Value->Shared->Prop),Inv X pins σ H s->(∀b∈fp,mY X pins H b)->tn i s.heap->J.stop i H->
  wpAny (model P w) X.A (pyNext (.ref it)) (fun r s1=>r=none/\Inv X pins σ H s1) E s
 self:∀(A:Around) (i:Nat) (s:Shared) (Q:Value->Shared->Prop) (E:Value->Shared->Prop),tn i s.heap->Q (.ref it) s->wpAny (model P w) A (pyIter (.ref it)) Q E s
abbrev TI:=St->Hp->(It->Hp->Prop)->Prop
def PIE (X:Cx)(pins:List (Addr × Obj))(σ:St)(tg:Expr)(R:It->Hp->Prop)(itv:Value)(s2:Shared):Prop:=
 ∃(it:Addr) (fp:List Addr) (tn:Nat->Heap->Prop) (J:It) (H':Hp),itv=.ref it/\Inv X pins σ H' s2/\Ku X.prog X.w X.K tg J fp it tn/\tn 0 s2.heap/\(∀b∈fp,mY X pins H' b)/\R J H'
def PI (X:Cx)(tg iter:Expr)(wi:TI):Prop:=
 ∀(pins:List (Addr × Obj)) (s:Shared) (σ:St) (H:Hp) (R:It->Hp->Prop),Inv X pins σ H s->wi σ H R->
  wpAny (model X.prog X.w) X.A (eval iter X.env) (fun v s1=>wpAny (model X.prog X.w) X.A (pyIter v) (PIE X pins σ tg R) X.xe s1) X.xe s
theorem Rp (ho : s.heap.get? it = some o)(hc : o.cls = .type n)(hd : o.data = .fields vs)(hn : ["enumerate", "zip", "dict_itemiterator", "dict_reverseitemiterator", "odict_iterator", "itertools.zip_longest", "itertools.pairwise"].contains n = false)(hQ : Q () s): wpAny M A (letOwnedTupleGo tg (.ref it) u) Q E s := by
  unfold letOwnedTupleGo
  cases tg <;> first
    | exact wpAny_pure hQ
    | (cases u <;> first
        | exact wpAny_pure hQ
        | (refine wpAny_bind (wpAny_load ho ?_)
           rw [hc, hd];show wpAny M A (if (["enumerate", "zip", "dict_itemiterator", "dict_reverseitemiterator", "odict_iterator", "itertools.zip_longest", "itertools.pairwise"].contains n && vs[0]? == some (rawInt _)) = true then _ else _) Q E s;rw [if_neg (by intro h; rw [hn, Bool.false_and] at h; cases h)];exact wpAny_pure hQ))
def Itl (K:Frag)(a:Addr):It:=
 ⟨fun i H=>∃xs x,SqL K H a xs/\xs[i]?=some x,fun i H x H'=>H'=H/\∀xs,SqL K H a xs->xs[i]?=some x,fun i H=>∃xs,SqL K H a xs/\xs.length<=i⟩
def Itt (K:Frag)(a:Addr):It:=
 ⟨fun i H=>∃xs x,SqT K H a xs/\xs[i]?=some x,fun i H x H'=>H'=H/\∀xs,SqT K H a xs->xs[i]?=some x,fun i H=>∃xs,SqT K H a xs/\xs.length<=i⟩
def Itr (lo:Int)(n:Nat):It:=⟨fun i _=>i < n,fun i H x H'=>H'=H/\x=.int (lo+i),fun i _=>n<=i⟩
theorem Kv {K:Frag}(a it:Addr):Ku P w K tg (Itl K a) [it] it (fun i h=>h.IsListIter it a i) where
 mem:=by simp
 obj:=fun i h st b hb=>by
  have e:b=it:=by simpa using hb
  subst e;obtain⟨o,e,c,d⟩:=st;exact⟨o,e,fun v z=>by rw[d] at z;cases z⟩
 keep:=fun i h h' st k=>st.at fun o e=>k it (by simp) o e
 item:=by
  intro X hP hw hK hc i pins s σ H E I hf st hg;subst hP hw hK;obtain⟨xs,x,hq,hx⟩:=hg;obtain⟨its,rv,p,hz⟩:=I.list hq;obtain⟨u,hu,ru⟩:=rv.get hx;obtain⟨f0,f1,f2,f3,f4,f5⟩:=hf it (by simp);refine wpAny_pyNext_list_item st p.isList (x:=u) (by simpa using hu) fun h' st' sb=>?_;have I1:Inv X pins σ H { s with heap:=h' }:=I.turned (t':=s.toks) (fun b o hb e=>(sb.2 b hb).trans e) f0 f1 f3 f4 f5;obtain⟨o,e,c,d⟩:=id st';exact⟨u,rfl,Rp (s:={ s with heap:=h' }) e c d (by decide) ⟨x,H,I1,ru,⟨rfl,fun ys hy=>by rw[I.list_inj hy hq];exact hx⟩,st',fun b hb=>(hf b hb).1⟩⟩
 done:=by
  intro X hP hw hK hc i pins s σ H E I hf st hg;subst hP hw hK;obtain⟨xs,hq,hx⟩:=hg;obtain⟨its,rv,p,hz⟩:=I.list hq;obtain⟨f0,f1,f2,f3,f4,f5⟩:=hf it (by simp);have hl:=rv.length;exact wpAny_pyNext_list_end (I.ok.hd hc) st p.isList (by simp;lia) fun h' eb=>⟨rfl,I.turned (t':=s.toks) (fun b o hb e=>eb b o hb e) f0 f1 f3 f4 f5⟩
 self:=fun _ _ _ _ _ st h=>wpAny_pyIter_listiter st h
theorem Gg {K:Frag}(a it:Addr):Ku P w K tg (Itt K a) [it] it (fun i h=>h.IsTupleIter it a i) where
 mem:=by simp
 obj:=fun i h st b hb=>by
  have e:b=it:=by simpa using hb
  subst e;obtain⟨o,e,c,d⟩:=st;exact⟨o,e,fun v z=>by rw[d] at z;cases z⟩
 keep:=fun i h h' st k=>st.at fun o e=>k it (by simp) o e
 item:=by
  intro X hP hw hK hc i pins s σ H E I hf st hg;subst hP hw hK;obtain⟨xs,x,hq,hx⟩:=hg;obtain⟨its,rv,p,hz⟩:=I.tuple hq;obtain⟨u,hu,ru⟩:=rv.get hx;obtain⟨f0,f1,f2,f3,f4,f5⟩:=hf it (by simp);refine wpAny_pyNext_tuple_item st (show s.heap.IsTuple a its.toArray from p) (x:=u) (by simpa using hu) fun h' st' sb=>?_;have I1:Inv X pins σ H { s with heap:=h' }:=I.turned (t':=s.toks) (fun b o hb e=>(sb.2 b hb).trans e) f0 f1 f3 f4 f5;obtain⟨o,e,c,d⟩:=id st';exact⟨u,rfl,Rp (s:={ s with heap:=h' }) e c d (by decide) ⟨x,H,I1,ru,⟨rfl,fun ys hy=>by rw[I.tuple_inj hy hq];exact hx⟩,st',fun b hb=>(hf b hb).1⟩⟩
 done:=by
  intro X hP hw hK hc i pins s σ H E I hf st hg;subst hP hw hK;obtain⟨xs,hq,hx⟩:=hg;obtain⟨its,rv,p,hz⟩:=I.tuple hq;obtain⟨f0,f1,f2,f3,f4,f5⟩:=hf it (by simp);have hl:=rv.length;exact wpAny_pyNext_tuple_end (I.ok.hd hc) st (show s.heap.IsTuple a its.toArray from p) (by simp;lia) fun h' eb=>⟨rfl,I.turned (t':=s.toks) (fun b o hb e=>eb b o hb e) f0 f1 f3 f4 f5⟩
 self:=fun _ _ _ _ _ st h=>wpAny_pyIter_tupleiter st h
theorem Go {K:Frag}(it:Addr)(lo:Int)(n:Nat):Ku P w K tg (Itr lo n) [it] it (fun i h=>IsRangeIter h it (lo+(i:Nat)*1) ((n:Int) - (i:Nat)) 1) where
 mem:=by simp
 obj:=fun i h st b hb=>by
  have e:b=it:=by simpa using hb
  subst e;exact⟨_,st,fun v z=>by
   have z':Data.fields _=Data.cell v:=z
   cases z'⟩
 keep:=fun i h h' st k=>k it (by simp) _ st
 item:=by
  intro X hP hw hK hc i pins s σ H E I hf st hg;subst hP hw hK;obtain⟨f0,f1,f2,f3,f4,f5⟩:=hf it (by simp);have W:=Walks.range (prog:=X.prog) (w:=X.w) (I.ok.hd hc) it lo 1 n;refine W.item i s _ _ hg st fun v h' tk hv st' kk=>?_;obtain⟨t,rfl⟩:=hv;have I1:Inv X pins σ H { s with heap:=h',toks:=tk }:=I.turned (fun b o hb e=>kk b o (by simpa using hb) e) f0 f1 f3 f4 f5;refine⟨_,rfl,Rp (s:={ s with heap:=h',toks:=tk }) (n:="range_iterator") st' rfl rfl (by decide) ⟨.int (lo+i),H,I1,⟨t,?_⟩,⟨rfl,rfl⟩,st',fun b hb=>(hf b hb).1⟩⟩;rw[Int.mul_one]
 done:=by
  intro X hP hw hK hc i pins s σ H E I hf st hg;subst hP hw hK;obtain⟨f0,f1,f2,f3,f4,f5⟩:=hf it (by simp);exact wpAny_pyNext_range_end (I.ok.hd hc) st (by have:n<=i:=hg;lia) fun h' eb=>⟨rfl,I.turned (t':=s.toks) (fun b o hb e=>eb b o hb e) f0 f1 f3 f4 f5⟩
 self:=fun _ _ _ _ _ st h=>wpAny_pyIter_rangeiter st h
section
variable {X:Cx} {tg:Expr}
def qk0 (K:Frag)(tl:TE):TI:=fun σ H R=>tl σ H fun x H1=>∃a,x=.ref a/\(∃xs,SqL K H1 a xs)/\R (Itl K a) H1
def ql2 (K:Frag)(tl:TE):TI:=fun σ H R=>tl σ H fun x H1=>∃a,x=.ref a/\(∃xs,SqT K H1 a xs)/\R (Itt K a) H1
theorem dG (hl:PE X l tl):PI X tg l (qk0 X.K tl):=by
 intro pins s σ H R I h;refine thn (hl pins s σ H _ I h) fun v s1 ⟨x,H1,I1,r1,q1⟩=>?_;obtain⟨a,e,⟨xs,hq⟩,q⟩:=q1;subst e
 cases r1
 obtain⟨its,rv,p,hz⟩:=I1.list hq;refine wpAny_pyIter_list p.isList ?_;refine⟨s1.heap.objs.size,[s1.heap.objs.size],_,_,H1,rfl,I1.kept (t':=s1.toks) fun b o e=>Heap.get?_push_of_some _ e,Kv a _,⟨_,Heap.get?_push_size _ rfl,rfl,rfl⟩,fun b hb=>?_,q⟩;have e:b=s1.heap.objs.size:=by simpa using hb
 subst e;exact I1.fpOk (Nat.le_refl _) (I1.hok.fresh (Nat.le_refl _))
theorem qd6 (hl:PE X l tl):PI X tg l (ql2 X.K tl):=by
 intro pins s σ H R I h;refine thn (hl pins s σ H _ I h) fun v s1 ⟨x,H1,I1,r1,q1⟩=>?_;obtain⟨a,e,⟨xs,hq⟩,q⟩:=q1;subst e
 cases r1
 obtain⟨its,rv,p,hz⟩:=I1.tuple hq;refine wpAny_pyIter_tuple (show s1.heap.IsTuple a its.toArray from p) ?_;refine⟨s1.heap.objs.size,[s1.heap.objs.size],_,_,H1,rfl,I1.kept (t':=s1.toks) fun b o e=>Heap.get?_push_of_some _ e,Gg a _,⟨_,Heap.get?_push_size _ rfl,rfl,rfl⟩,fun b hb=>?_,q⟩;have e:b=s1.heap.objs.size:=by simpa using hb
 subst e;exact I1.fpOk (Nat.le_refl _) (I1.hok.fresh (Nat.le_refl _))
theorem Ch {lo hi:Int}(I:Inv X pins σ H s)(h1:-(2 ^ 62)<=lo)(h2:lo < 2 ^ 62)(h3:-(2 ^ 62)<=hi)(h4:hi < 2 ^ 62)(q:R (Itr lo (hi - lo).toNat) H):wpAny (model X.prog X.w) X.A (pyIter (.ref s.heap.objs.size)) (PIE X pins σ tg R) E { s with heap:=s.heap.push { cls:=.type "range",data:=.fields #[.int lo t,.int hi u,.int 1 v] },toks:=tk }:=by
 refine wpAny_pyIter_range (IsRange.new ..) (small_one h1 h2 h3 h4) ?_;have I1:Inv X pins σ H { s with heap:=s.heap.push { cls:=.type "range",data:=.fields #[.int lo t,.int hi u,.int 1 v] },toks:=tk }:=I.kept fun b o e=>Heap.get?_push_of_some _ e;refine⟨(s.heap.push { cls:=.type "range",data:=.fields #[.int lo t,.int hi u,.int 1 v] }).objs.size,[(s.heap.push { cls:=.type "range",data:=.fields #[.int lo t,.int hi u,.int 1 v] }).objs.size],_,_,H,rfl,
  I1.kept (t':=tk) fun b o e=>Heap.get?_push_of_some _ e,Go _ lo (hi - lo).toNat,?_,fun b hb=>?_,q⟩
 ·have e1:lo+((0:Nat):Int)*1=lo:=by simp
  have e2:(((hi - lo).toNat:Nat):Int) - ((0:Nat):Int)=Builtin.Range.rangeSize lo hi 1:=by rw[rangeSize_one];split<;>lia
  show IsRangeIter _ _ (lo+((0:Nat):Int)*1) ((((hi - lo).toNat:Nat):Int) - ((0:Nat):Int)) 1;rw[e1,e2];exact Heap.get?_push_size _ rfl
 ·have e:b=(s.heap.push { cls:=.type "range",data:=.fields #[.int lo t,.int hi u,.int 1 v] }).objs.size:=by simpa using hb
  subst e;exact I1.fpOk (Nat.le_refl _) (I1.hok.fresh (Nat.le_refl _))
def qh5 (ta:TA):TI:=fun σ H R=>ta σ H fun vs H1=>∃j:Int,vs=[.int j]/\-(2 ^ 62)<=j/\j < 2 ^ 62/\R (Itr 0 j.toNat) H1
def qj4 (ta:TA):TI:=fun σ H R=>ta σ H fun vs H1=>∃i j:Int,vs=[.int i,.int j]/\(-(2 ^ 62)<=i/\i < 2 ^ 62/\-(2 ^ 62)<=j/\j < 2 ^ 62)/\R (Itr i (j - i).toNat) H1
theorem gU (hg:Gl X "range")(hm:X.mg "range"=none)(ha:PA X [a] ta)(hs:starEach [a] X.env=[(false,eval a X.env)]:=by rfl):PI X tg (.Call (.Name "range" p) [a] [] pos) (qh5 ta):=by
 intro pins s σ H R I h;refine Call_ (kE I hg hm boot_range (PyProof.Rows.callWith_type1 (thn (ha pos pins s σ H _ I h) fun us s1 ⟨vs,H1,I1,r1,q1⟩=>?_) hs rfl));obtain⟨j,e,q1,q2,q⟩:=q1;subst e
 cases r1 with
 |cons r rr=>
  cases rr
  obtain⟨t,rfl⟩:=r;exact call_range_1 (Ch I1 (by lia) (by lia) q1 q2 (by simpa using q))
theorem xM (hg:Gl X "range")(hm:X.mg "range"=none)(ha:PA X [a,b] ta)(hs:starEach [a,b] X.env=[(false,eval a X.env),(false,eval b X.env)]:=by rfl)(hs2:starEach [b] X.env=[(false,eval b X.env)]:=by rfl):
  PI X tg (.Call (.Name "range" p) [a,b] [] pos) (qj4 ta):=by
 intro pins s σ H R I h;refine Call_ (kE I hg hm boot_range (PyProof.Rows.callWith_type1 (thn (ha pos pins s σ H _ I h) fun us s1 ⟨vs,H1,I1,r1,q1⟩=>?_) (by rw[hs,hs2]) (by rw[hs2];rfl)));obtain⟨i,j,e,⟨q1,q2,q3,q4⟩,q⟩:=q1;subst e
 cases r1 with
 |cons r rr=>
  cases rr with
  |cons r' rr=>
   cases rr
   obtain⟨t,rfl⟩:=r;obtain⟨t',rfl⟩:=r';exact call_range_2 (Ch I1 q1 q2 q3 q4 q)
def qk3 (wi:TI)(g:TG)(tb:TS):TS:=fun D σ H=>wi σ H fun J H1=>∃W:Nat->Nat->St->Hp->Prop,(∃m,W 0 m σ H1)/\∀i m σ H,W i m σ H->
 (J.stop i H/\D.nx σ H)\/(J.go i H/\∃N:St->Hp->Prop,(∀σ' H',N σ' H'->∃m',m' < m/\W (i+1) m' σ' H')/\∀x H',J.yld i H x H'->g x σ H' fun σ2 H2=>tb { D with nx:=N,ct:=N,bk:=D.nx } σ2 H2)
def uU (fp:List Addr)(h:Heap):List (Addr × Obj):=fp.filterMap fun b=>(h.get? b).map fun o=>(b,o)
theorem kI (hb:b∈fp)(e:h.get? b=some o):(b,o)∈uU fp h:=mem_filterMap.mpr ⟨b,hb,by rw[e];rfl⟩
theorem Kf (hp:p∈uU fp h):p.1∈fp/\h.get? p.1=some p.2:=by
 obtain⟨b,hb,e⟩:=mem_filterMap.mp hp
 cases q:h.get? b with
 |none=>rw[q] at e;cases e
 |some o=>
  rw[q] at e;have e':(b,o)=p:=Option.some.inj e;subst e';exact⟨hb,q⟩
theorem Inv.pinned (I:Inv X pins σ H s)(hf:∀b∈fp,mY X pins H b)(ho:∀b∈fp,∃o,s.heap.get? b=some o/\∀v,o.data≠.cell v):Inv X (pins++uU fp s.heap) σ H s:=
 I.pins_of fun p hp=>(mem_append.mp hp).elim (fun z=>I.pin p (mem_append_right _ z)) fun z=>by
  obtain⟨hb,e⟩:=Kf z;obtain⟨f0,f1,f2,_⟩:=hf p.1 hb;obtain⟨o,e',d⟩:=ho p.1 hb;rw[e] at e';cases e';exact⟨e,f0,f1,f2,d⟩
theorem Inv.unpinned (I:Inv X (pins++pl) σ H s):Inv X pins σ H s:=I.pins_of fun p hp=>I.pin p (mem_append_right _ (mem_append_left _ hp))
theorem fC {iter:Expr}(hp:PassesOwn (model X.prog X.w) X.A X.env X.xe)(hc:X.calm=true)(hi:PI X tg iter wi)(hg:PG X tg g)(hb:PSs X body tb)(hs:∀x,foldedSetIterable iter X.env x=pure x:=by intro _;rfl):PS X (.For tg iter body [] pos) (qk3 wi g tb):=by
 intro pins s σ H D I h;refine wpAny_For (thn (hi pins s σ H _ I h) fun v s1 h1=>thn h1 fun itv s2 h2=>?_) hs;obtain⟨it,fp,tn,J,H2,e,I2,T,st2,f2,W,⟨m0,w0⟩,turn⟩:=h2;subst e;have stat:∀{H':Hp},(∀b∈fp,H' b=none)->∀b∈fp,mY X pins H' b:=fun hn b hb=>⟨hn b hb,(f2 b hb).2⟩
 refine codeAny_forLoop_any (fun n s'=>∃i σ' H',Inv X pins σ' H' s'/\tn i s'.heap/\(∀b∈fp,H' b=none)/\W i n σ' H') ?_ m0 ⟨0,σ,H2,I2,st2,fun b hb=>(f2 b hb).1,w0⟩;rintro n s3 ⟨i,σ3,H3,I3,st3,fr3,w3⟩;rcases turn i n σ3 H3 w3 with ⟨stop,qn⟩ | ⟨go,N,hN,step⟩
 ·refine wpAny_passesOwn hp (thn (T.done X rfl rfl rfl hc i pins s3 σ3 H3 X.xe I3 (stat fr3) st3 stop) fun r s4 ⟨hr,I4⟩=>?_);subst hr;exact wpAny_execs_nil ⟨σ3,H3,I4,qn⟩
 ·refine wpAny_passesOwn hp (thn (T.item X rfl rfl rfl hc i pins s3 σ3 H3 X.xe I3 (stat fr3) st3 go) fun r s4 ⟨u,hr,h4⟩=>?_);subst hr;refine wpAny_passesOwn hp (thn h4 fun _ s5 ⟨x,H5,I5,r5,y5,st5,fr5⟩=>?_);have I5':=I5.pinned (stat fr5) (T.obj _ _ st5);refine wpAny_passesOwn hp (thn (hg _ s5 σ3 H5 x u _ I5' r5 (step x H5 y5)) fun _ s6 ⟨σ6,H6,I6,q6⟩=>?_);refine wpAny_passesOwn hp (thn (hb _ s6 σ6 H6 _ I6 q6) fun f s7 q7=>?_);have again:∀{σ7:St} {H7:Hp},Inv X (pins++uU fp s5.heap) σ7 H7 s7->N σ7 H7->∃m,m < n/\∃i σ' H',Inv X pins σ' H' s7/\tn i s7.heap/\(∀b∈fp,H' b=none)/\W i m σ' H':=fun {σ7 H7} I7 n7=>by
   obtain⟨m',hm,w7⟩:=hN σ7 H7 n7;refine⟨m',hm,i+1,σ7,H7,I7.unpinned,T.keep _ _ _ st5 fun b hb o e=>(I7.pin (b,o) (mem_append_right _ (mem_append_right _ (kI hb e)))).1,fun b hb=>?_,w7⟩;obtain⟨o,e,d⟩:=T.obj _ _ st5 b hb;exact(I7.pin (b,o) (mem_append_right _ (mem_append_right _ (kI hb e)))).2.1
  cases f with
  |next=>obtain⟨σ7,H7,I7,n7⟩:=q7;exact again I7 n7
  |cont=>obtain⟨σ7,H7,I7,n7⟩:=q7;exact again I7 n7
  |brk=>obtain⟨σ7,H7,I7,q7⟩:=q7;exact⟨σ7,H7,I7.unpinned,q7⟩
  |ret v=>obtain⟨x7,σ7,H7,I7,r7,q7⟩:=q7;exact⟨x7,σ7,H7,I7.unpinned,r7,q7⟩
end
theorem gH {K:Frag}{g:TG}{tb:TS}{D:mE}(Pv:Nat->St->Hp->Prop)(h0:Pv 0 σ H)(hl:∀i σ H,i<=xs.length->Pv i σ H->SqL K H a xs)(hs:∀i x σ H,xs[i]?=some x->Pv i σ H->g x σ H fun σ2 H2=>tb { D with nx:=Pv (i+1),ct:=Pv (i+1),bk:=D.nx } σ2 H2)(hd:∀σ H,Pv xs.length σ H->D.nx σ H):
  ∃W:Nat->Nat->St->Hp->Prop,(∃m,W 0 m σ H)/\∀i m σ H,W i m σ H->
   ((Itl K a).stop i H/\D.nx σ H)\/((Itl K a).go i H/\∃N:St->Hp->Prop,(∀σ' H',N σ' H'->∃m',m' < m/\W (i+1) m' σ' H')/\∀x H',(Itl K a).yld i H x H'->g x σ H' fun σ2 H2=>tb { D with nx:=N,ct:=N,bk:=D.nx } σ2 H2):=by
 refine⟨fun i m σ H=>m=xs.length - i/\i<=xs.length/\Pv i σ H,⟨xs.length,by simp,Nat.zero_le _,h0⟩,?_⟩;rintro i m σ H ⟨rfl,hi,p⟩;have q:=hl i σ H hi p
 by_cases hlt:i < xs.length
 ·refine .inr ⟨⟨xs,xs[i],q,by simp[hlt]⟩,Pv (i+1),fun σ' H' p'=>⟨xs.length - (i+1),by lia,rfl,hlt,p'⟩,fun x H' y=>?_⟩;obtain⟨e,y⟩:=y;subst e;exact hs i x σ _ (y xs q) p
 ·have e:i=xs.length:=by lia
  subst e;exact .inl ⟨⟨xs,q,Nat.le_refl _⟩,hd σ H p⟩
theorem Sw {K:Frag}{g:TG}{tb:TS}{D:mE}(Pv:Nat->St->Hp->Prop)(h0:Pv 0 σ H)(hl:∀i σ H,i<=xs.length->Pv i σ H->SqT K H a xs)(hs:∀i x σ H,xs[i]?=some x->Pv i σ H->g x σ H fun σ2 H2=>tb { D with nx:=Pv (i+1),ct:=Pv (i+1),bk:=D.nx } σ2 H2)(hd:∀σ H,Pv xs.length σ H->D.nx σ H):
  ∃W:Nat->Nat->St->Hp->Prop,(∃m,W 0 m σ H)/\∀i m σ H,W i m σ H->
   ((Itt K a).stop i H/\D.nx σ H)\/((Itt K a).go i H/\∃N:St->Hp->Prop,(∀σ' H',N σ' H'->∃m',m' < m/\W (i+1) m' σ' H')/\∀x H',(Itt K a).yld i H x H'->g x σ H' fun σ2 H2=>tb { D with nx:=N,ct:=N,bk:=D.nx } σ2 H2):=by
 refine⟨fun i m σ H=>m=xs.length - i/\i<=xs.length/\Pv i σ H,⟨xs.length,by simp,Nat.zero_le _,h0⟩,?_⟩;rintro i m σ H ⟨rfl,hi,p⟩;have q:=hl i σ H hi p
 by_cases hlt:i < xs.length
 ·refine .inr ⟨⟨xs,xs[i],q,by simp[hlt]⟩,Pv (i+1),fun σ' H' p'=>⟨xs.length - (i+1),by lia,rfl,hlt,p'⟩,fun x H' y=>?_⟩;obtain⟨e,y⟩:=y;subst e;exact hs i x σ _ (y xs q) p
 ·have e:i=xs.length:=by lia
  subst e;exact .inl ⟨⟨xs,q,Nat.le_refl _⟩,hd σ H p⟩
theorem iD {lo:Int}{g:TG}{tb:TS}{D:mE}(Pv:Nat->St->Hp->Prop)(h0:Pv 0 σ H)(hs:∀i σ H,i < n->Pv i σ H->g (.int (lo+i)) σ H fun σ2 H2=>tb { D with nx:=Pv (i+1),ct:=Pv (i+1),bk:=D.nx } σ2 H2)(hd:∀σ H,Pv n σ H->D.nx σ H):
  ∃W:Nat->Nat->St->Hp->Prop,(∃m,W 0 m σ H)/\∀i m σ H,W i m σ H->
   ((Itr lo n).stop i H/\D.nx σ H)\/((Itr lo n).go i H/\∃N:St->Hp->Prop,(∀σ' H',N σ' H'->∃m',m' < m/\W (i+1) m' σ' H')/\∀x H',(Itr lo n).yld i H x H'->g x σ H' fun σ2 H2=>tb { D with nx:=N,ct:=N,bk:=D.nx } σ2 H2):=by
 refine⟨fun i m σ H=>m=n - i/\i<=n/\Pv i σ H,⟨n,by simp,Nat.zero_le _,h0⟩,?_⟩;rintro i m σ H ⟨rfl,hi,p⟩
 by_cases hlt:i < n
 ·refine .inr ⟨hlt,Pv (i+1),fun σ' H' p'=>⟨n - (i+1),by lia,rfl,hlt,p'⟩,fun x H' y=>?_⟩;obtain⟨e,y⟩:=y;subst e y;exact hs i σ _ hlt p
 ·have e:i=n:=by lia
  subst e;exact .inl ⟨Nat.le_refl _,hd σ H p⟩
theorem vF (Pv:St->Hp->Prop)(μ:St->Hp->Nat)(h0:Pv σ H)(hs:∀σ H,Pv σ H->c σ H fun b H1=>if b=true then tb { D with nx:=fun σ' H'=>Pv σ' H'/\μ σ' H' < μ σ H,ct:=fun σ' H'=>Pv σ' H'/\μ σ' H' < μ σ H,bk:=D.nx } σ H1 else D.nx σ H1)(mono:∀σ H Q Q',(∀b H1,Q b H1->Q' b H1)->c σ H Q->c σ H Q'):Oi c tb D σ H:=by
 refine⟨fun m σ H=>m=μ σ H/\Pv σ H,⟨_,rfl,h0⟩,?_⟩;rintro m σ H ⟨rfl,p⟩;refine mono σ H _ _ (fun b H1 q=>?_) (hs σ H p)
 cases b with
 |true=>exact⟨_,fun σ' H' ⟨p',l⟩=>⟨_,l,rfl,p'⟩,q⟩
 |false=>exact q
abbrev R2:=V->V->Hp->VK->Prop
def OpR (X:Cx)(f:Value->Value->Sem Value)(r:R2):Prop:=
 ∀(pins:List (Addr × Obj)) (s:Shared) (σ:St) (H:Hp) (x y:V) (v u:Value) (Q:VK),Inv X pins σ H s->cH x v->cH y u->r x y H Q->
  wpAny (model X.prog X.w) X.A (f v u) (EP X pins σ Q) X.xe s
def UnR (X:Cx)(f:Value->Sem Value)(r:V->Hp->VK->Prop):Prop:=
 ∀(pins:List (Addr × Obj)) (s:Shared) (σ:St) (H:Hp) (x:V) (v:Value) (Q:VK),Inv X pins σ H s->cH x v->r x H Q->
  wpAny (model X.prog X.w) X.A (f v) (EP X pins σ Q) X.xe s
def vL (X:Cx)(f:Value)(r:List V->Hp->VK->Prop):Prop:=
 ∀(pins:List (Addr × Obj)) (s:Shared) (σ:St) (H:Hp) (xs:List V) (us:List Value) (Q:VK),Inv X pins σ H s->cC xs us->r xs H Q->
  wpAny (model X.prog X.w) X.A (call f us) (EP X pins σ Q) X.xe s
def tOp (r:R2)(ta tb:TE):TE:=fun σ H Q=>ta σ H fun x H1=>tb σ H1 fun y H2=>r x y H2 Q
def tUn (r:V->Hp->VK->Prop)(ta:TE):TE:=fun σ H Q=>ta σ H fun x H1=>r x H1 Q
inductive rI (C:Int->Int->Prop) (g:Int->Int->V) (x:V) (y:V) (H:Hp) (Q:VK):Prop where
 |mk (i j):x=.int i->y=.int j->C i j->Q (g i j) H->rI C g x y H Q
inductive rI0 (g:Int->Int->V) (x:V) (y:V) (H:Hp) (Q:VK):Prop where
 |mk (i j):x=.int i->y=.int j->Q (g i j) H->rI0 g x y H Q
inductive rU (g:Int->V) (x:V) (H:Hp) (Q:VK):Prop where
 |mk (i):x=.int i->Q (g i) H->rU g x H Q
section
variable {X:Cx} {a b c:Expr} {ta tb tc:TE} {pos:Pos}
theorem qa3 (ha:PE X a ta)(hb:PE X b tb){R:V->V->Hp->Prop}(I:Inv X pins σ H s)(h:ta σ H fun x H1=>tb σ H1 fun y H2=>R x y H2){f:Value->Value->Sem Value}(hf:∀v u s2 x y H2,Inv X pins σ H2 s2->cH x v->cH y u->R x y H2->wpAny (model X.prog X.w) X.A (f v u) Q X.xe s2):
  wpAny (model X.prog X.w) X.A (eval a X.env) (fun v s₁=>wpAny (model X.prog X.w) X.A (eval b X.env) (fun u s₂=>wpAny (model X.prog X.w) X.A (f v u) Q X.xe s₂) X.xe s₁) X.xe s:=by
 refine thn (ha pins s σ H _ I h) fun v s1 ⟨x,H1,I1,r1,q1⟩=>?_;refine thn (hb pins s1 σ H1 _ I1 q1) fun u s2 ⟨y,H2,I2,r2,q2⟩=>?_;exact hf v u s2 x y H2 I2 r1 r2 q2
theorem aX (ho:OpR X (binaryOp op) r)(ha:PE X a ta)(hb:PE X b tb):PE X (.BinOp a op b pos) (tOp r ta tb):=by
 intro pins s σ H Q I h;exact wpAny_BinOp (qa3 ha hb I h fun v u s2 x y H2 I2 rx ry q=>ho pins s2 σ H2 x y v u Q I2 rx ry q)
theorem Md (ho:UnR X (unaryOp op) r)(ha:PE X a ta):PE X (.UnaryOp op a pos) (tUn r ta):=by
 intro pins s σ H Q I h;exact UnaryOp_ (thn (ha pins s σ H _ I h) fun v s1 ⟨x,H1,I1,r1,q1⟩=>ho pins s1 σ H1 x v Q I1 r1 q1)
theorem opI {g:Int->Int->Int}(rule:∀(i j:Int) (t u:Tok) (s:Shared) (Q:Value->Shared->Prop) (E:Value->Shared->Prop),C i j->Q (.int (g i j) s.toks) { s with toks:=s.toks+1 }->wpAny (model X.prog X.w) X.A (f (.int i t) (.int j u)) Q E s):
  OpR X f (rI C fun i j=>.int (g i j)):=by
 intro pins s σ H x y v u Q I rx ry h;obtain⟨i,j,rfl,rfl,hc,q⟩:=h;obtain⟨t,rfl⟩:=rx;obtain⟨t',rfl⟩:=ry;exact rule i j t t' s _ _ hc ⟨.int (g i j),H,I.tok _,⟨_,rfl⟩,q⟩
theorem qi8 {g:Int->Int->Int}(rule:∀(i j:Int) (t u:Tok) (s:Shared) (Q:Value->Shared->Prop) (E:Value->Shared->Prop),Q (.int (g i j) s.toks) { s with toks:=s.toks+1 }->wpAny (model X.prog X.w) X.A (f (.int i t) (.int j u)) Q E s):
  OpR X f (rI0 fun i j=>.int (g i j)):=by
 intro pins s σ H x y v u Q I rx ry h;obtain⟨i,j,rfl,rfl,q⟩:=h;obtain⟨t,rfl⟩:=rx;obtain⟨t',rfl⟩:=ry;exact rule i j t t' s _ _ ⟨.int (g i j),H,I.tok _,⟨_,rfl⟩,q⟩
theorem qd4 {g:Int->Int->Bool}(rule:∀(i j:Int) (t u:Tok) (s:Shared) (Q:Value->Shared->Prop) (E:Value->Shared->Prop),Q (.bool (g i j)) s->wpAny (model X.prog X.w) X.A (f (.int i t) (.int j u)) Q E s):
  OpR X f (rI0 fun i j=>.bl (g i j)):=by
 intro pins s σ H x y v u Q I rx ry h;obtain⟨i,j,rfl,rfl,q⟩:=h;obtain⟨t,rfl⟩:=rx;obtain⟨t',rfl⟩:=ry;exact rule i j t t' s _ _ ⟨.bl (g i j),H,I,rfl,q⟩
def qm9 (i j:Int):Prop:=0 < j/\j < 1073741824
def qm3 (i j:Int):Prop:=0<=j/\j<=1000000/\i.natAbs < 2 ^ 64
def qc5 (i j:Int):Prop:=(-(2 ^ 64) < i/\i < 2 ^ 64)\/(-(2 ^ 64) < j/\j < 2 ^ 64)
theorem qc5.ok (h:qc5 i j):IntMulOk i j:=by
 rcases h with ⟨h1,h2⟩ | ⟨h1,h2⟩
 ·exact .of_left (intBits_le_64 h1 h2)
 ·exact .of_right (intBits_le_64 h1 h2)
theorem dU:OpR X (binaryOp .Add) (rI0 fun i j=>.int (i+j)):=qi8 fun _ _ _ _ _ _ _ q=>add_int q
theorem iN:OpR X (binaryOp .Sub) (rI0 fun i j=>.int (i - j)):=qi8 fun _ _ _ _ _ _ _ q=>sub_int q
theorem wD:OpR X (binaryOp .Mult) (rI qc5 fun i j=>.int (i*j)):=opI fun _ _ _ _ _ _ _ hc q=>mul_int q hc.ok
theorem pU:OpR X (binaryOp .FloorDiv) (rI qm9 fun i j=>.int (i / j)):=opI fun i j _ _ _ _ _ hc q=>by
 have h1:(0:Int) < j:=hc.1;have h2:j < 1073741824:=hc.2;exact floordiv_int (by lia) (by rw[Int.fdiv_eq_ediv_of_nonneg i (by lia)];exact q) (.inl (PyProof.noPylong_small (by lia)))
theorem lF:OpR X (binaryOp .Mod) (rI (fun _ j=>0 < j) fun i j=>.int (i % j)):=opI fun i j _ _ _ _ _ hc q=>by
 have h1:(0:Int) < j:=hc;exact mod_int' (by lia) (by rw[Int.fmod_eq_emod_of_nonneg i (by lia)];exact q)
theorem kH:OpR X (binaryOp .Mod) (rI (fun _ j=>j≠0) fun i j=>.int (i.fmod j)):=opI fun _ _ _ _ _ _ _ hc q=>mod_int' hc q
theorem lU:OpR X (binaryOp .Pow) (rI qm3 fun i j=>.int (i ^ j.toNat)):=opI fun _ _ _ _ _ _ _ hc q=>pow_int_small hc.1 hc.2.1 hc.2.2 q
theorem unI {g:Int->Int}(rule:∀(i:Int) (t:Tok) (s:Shared) (Q:Value->Shared->Prop) (E:Value->Shared->Prop),Q (.int (g i) s.toks) { s with toks:=s.toks+1 }->wpAny (model X.prog X.w) X.A (f (.int i t)) Q E s):
  UnR X f (rU fun i=>.int (g i)):=by
 intro pins s σ H x v Q I rx h;obtain⟨i,rfl,q⟩:=h;obtain⟨t,rfl⟩:=rx;exact rule i t s _ _ ⟨.int (g i),H,I.tok _,⟨_,rfl⟩,q⟩
theorem Ew:UnR X (unaryOp .USub) (rU fun i=>.int (-i)):=unI fun _ _ _ _ _ q=>neg_int q
end
def qg0:V->V->Bool
 | .non,.non=>true | .non,.int _=>true | .int _,.non=>true | .non,.bl _=>true | .bl _,.non=>true | .non,.str _=>true | .str _,.non=>true
 | .int _,.int _=>true | .bl _,.bl _=>true | .str _,.str _=>true | .byt _,.byt _=>true
 | .int _,.str _=>true | .str _,.int _=>true | .bl _,.str _=>true | .str _,.bl _=>true
 |_,_=>false
def rEq:R2:=fun x y H Q=>qg0 x y=true/\Q (.bl (decide (x=y))) H
def rNe:R2:=fun x y H Q=>qg0 x y=true/\Q (.bl (!decide (x=y))) H
theorem Ig:decide (V.int i=V.int j)=(i == j):=by
 rw[Bool.eq_iff_iff];simp
theorem Mg:decide (V.bl i=V.bl j)=(i == j):=by
 rw[Bool.eq_iff_iff];simp
theorem Ik:decide (V.str i=V.str j)=(i == j):=by
 rw[Bool.eq_iff_iff];simp
theorem Jj:decide (V.byt i=V.byt j)=(i.toList == j.toList):=by
 rw[Bool.eq_iff_iff]
 cases i
 cases j
 simp
section
variable {X:Cx} {a b c:Expr} {ta tb tc:TE} {pos:Pos}
theorem cW (I:Inv X pins σ H s)(q:Q (.bl k) H)(e:k=k'):EP X pins σ Q (.bool k') s:=by
 subst e;exact⟨.bl k,H,I,rfl,q⟩
theorem eV:OpR X (compareOp .Eq) rEq:=by
 intro pins s σ H x y v u Q I rx ry h;obtain⟨hs,q⟩:=h
 cases x with
 |non=>
  cases rx
  cases y with
  |non=>cases ry;exact PySem.EqNone.eq_none_none (cW I q (by simp))
  |bl j=>cases ry;exact PySem.EqNone.eq_none_bool (cW I q (by simp))
  |int j=>obtain⟨t',rfl⟩:=ry;exact PySem.EqNone.eq_none_int (cW I q (by simp))
  |str j=>obtain⟨t',rfl⟩:=ry;exact PySem.EqNone.eq_none_str (cW I q (by simp))
  |_=>exact absurd (show false=true from hs) Bool.false_ne_true
 |bl i=>
  cases rx
  cases y with
  |non=>cases ry;exact PySem.EqNone.eq_bool_none (cW I q (by simp))
  |bl j=>cases ry;exact eq_bool (cW I q Mg)
  |str j=>obtain⟨t',rfl⟩:=ry;exact PySem.EqMixed.eq_bool_str (cW I q (by simp))
  |_=>exact absurd (show false=true from hs) Bool.false_ne_true
 |int i=>
  obtain⟨t,rfl⟩:=rx
  cases y with
  |non=>cases ry;exact PySem.EqNone.eq_int_none (cW I q (by simp))
  |int j=>obtain⟨t',rfl⟩:=ry;exact eq_int (cW I q Ig)
  |str j=>obtain⟨t',rfl⟩:=ry;exact PySem.EqMixed.eq_int_str (cW I q (by simp))
  |_=>exact absurd (show false=true from hs) Bool.false_ne_true
 |str i=>
  obtain⟨t,rfl⟩:=rx
  cases y with
  |non=>cases ry;exact PySem.EqNone.eq_str_none (cW I q (by simp))
  |bl j=>cases ry;exact PySem.EqMixed.eq_str_bool (cW I q (by simp))
  |int j=>obtain⟨t',rfl⟩:=ry;exact PySem.EqMixed.eq_str_int (cW I q (by simp))
  |str j=>obtain⟨t',rfl⟩:=ry;exact eq_str (cW I q Ik)
  |_=>exact absurd (show false=true from hs) Bool.false_ne_true
 |byt i=>
  obtain⟨t,rfl⟩:=rx
  cases y with
  |byt j=>obtain⟨t',rfl⟩:=ry;exact W.eq_bytes (cW I q Jj)
  |_=>exact absurd (show false=true from hs) Bool.false_ne_true
 |_=>cases y<;>exact absurd (show false=true from hs) Bool.false_ne_true
theorem pY:OpR X (compareOp .NotEq) rNe:=by
 intro pins s σ H x y v u Q I rx ry h;obtain⟨hs,q⟩:=h
 cases x with
 |non=>
  cases rx
  cases y with
  |non=>cases ry;exact PySem.EqNone.ne_none_none (cW I q (by simp))
  |bl j=>cases ry;exact PySem.EqNone.ne_none_bool (cW I q (by simp))
  |int j=>obtain⟨t',rfl⟩:=ry;exact PySem.EqNone.ne_none_int (cW I q (by simp))
  |str j=>obtain⟨t',rfl⟩:=ry;exact PySem.EqNone.ne_none_str (cW I q (by simp))
  |_=>exact absurd (show false=true from hs) Bool.false_ne_true
 |bl i=>
  cases rx
  cases y with
  |non=>cases ry;exact PySem.EqNone.ne_bool_none (cW I q (by simp))
  |bl j=>cases ry;exact ne_bool (cW I q (congrArg not Mg))
  |str j=>obtain⟨t',rfl⟩:=ry;exact PySem.EqMixed.ne_bool_str (cW I q (by simp))
  |_=>exact absurd (show false=true from hs) Bool.false_ne_true
 |int i=>
  obtain⟨t,rfl⟩:=rx
  cases y with
  |non=>cases ry;exact PySem.EqNone.ne_int_none (cW I q (by simp))
  |int j=>obtain⟨t',rfl⟩:=ry;exact ne_int (cW I q (congrArg not Ig))
  |str j=>obtain⟨t',rfl⟩:=ry;exact PySem.EqMixed.ne_int_str (cW I q (by simp))
  |_=>exact absurd (show false=true from hs) Bool.false_ne_true
 |str i=>
  obtain⟨t,rfl⟩:=rx
  cases y with
  |non=>cases ry;exact PySem.EqNone.ne_str_none (cW I q (by simp))
  |bl j=>cases ry;exact PySem.EqMixed.ne_str_bool (cW I q (by simp))
  |int j=>obtain⟨t',rfl⟩:=ry;exact PySem.EqMixed.ne_str_int (cW I q (by simp))
  |str j=>obtain⟨t',rfl⟩:=ry;exact ne_str (cW I q (congrArg not Ik))
  |_=>exact absurd (show false=true from hs) Bool.false_ne_true
 |byt i=>
  obtain⟨t,rfl⟩:=rx
  cases y with
  |byt j=>obtain⟨t',rfl⟩:=ry;exact W.ne_bytes (cW I q (congrArg not Jj))
  |_=>exact absurd (show false=true from hs) Bool.false_ne_true
 |_=>cases y<;>exact absurd (show false=true from hs) Bool.false_ne_true
theorem tP:OpR X (compareOp .Lt) (rI0 fun i j=>.bl (decide (i < j))):=qd4 fun _ _ _ _ _ _ _ q=>lt_int q
theorem Ho:OpR X (compareOp .Gt) (rI0 fun i j=>.bl (decide (j < i))):=qd4 fun _ _ _ _ _ _ _ q=>gt_int q
theorem Ng:OpR X (compareOp .GtE) (rI0 fun i j=>.bl (decide (j<=i))):=qd4 fun _ _ _ _ _ _ _ q=>ge_int q
theorem bK (b:Expr)(h:op≠.In:=by decide)(h2:op≠.NotIn:=by decide):behindInMarks op b=false:=by
 have e1:(op == CmpOp.In)=false:=by cases op<;>first | rfl | exact absurd rfl h
 have e2:(op == CmpOp.NotIn)=false:=by cases op<;>first | rfl | exact absurd rfl h2
 cases b<;>simp[behindInMarks,e1,e2]
theorem jK (ho:OpR X (compareOp op) r)(ha:PE X a ta)(hb:PE X b tb)(hm:behindInMarks op b=false):PE X (.Compare a [op] [b] pos) (tOp r ta tb):=by
 intro pins s σ H Q I h;exact wpAny_Compare1 (qa3 ha hb I h fun v u s2 x y H2 I2 rx ry q=>ho pins s2 σ H2 x y v u Q I2 rx ry q) hm
def qg2 (t:TE):TT:=fun σ H Q=>t σ H fun x H'=>BlT x fun k=>Q k H'
theorem bC (ho:OpR X (compareOp op) r)(ha:PE X a ta)(hb:PE X b tb)(hm:behindInMarks op b=false):PT X (.Compare a [op] [b] pos) (qg2 (tOp r ta tb)):=by
 intro pins s σ H Q I h;refine wpAny_isTrue_Compare1 (thn (ha pins s σ H _ I h) fun v s1 ⟨x,H1,I1,r1,q1⟩=>thn (hb pins s1 σ H1 _ I1 q1) fun u s2 ⟨y,H2,I2,r2,q2⟩=>
  thn (ho pins s2 σ H2 x y v u _ I2 r1 r2 q2) fun c s3 ⟨z,H3,I3,r3,k,e,q3⟩=>?_) hm
 subst e
 cases r3
 exact wpAny_truthy_bool ⟨H3,I3,q3⟩
theorem zS:(sizeLine:Nat) < 2 ^ 63:=by rw[sizeLine_eq];decide
theorem Dl (r:cC [x] us):∃u,us=[u]/\cH x u:=by
 cases r with
 |cons r1 r2=>cases r2;exact⟨_,rfl,r1⟩
theorem Mz (r:cC [x,y] us):∃u w',us=[u,w']/\cH x u/\cH y w':=by
 cases r with
 |cons r1 r2=>
  cases r2 with
  |cons r3 r4=>cases r4;exact⟨_,_,rfl,r1,r3⟩
theorem oX:vL X (.builtin "abs") (fun xs H Q=>∃i,xs=[.int i]/\Q (.int (if i < 0 then -i else i)) H):=by
 intro pins s σ H xs us Q I r h;obtain⟨i,rfl,q⟩:=h;obtain⟨u,rfl,t,rfl⟩:=Dl r;exact call_abs_int fun u tk=>⟨.int (if i < 0 then -i else i),H,I.tok _,⟨_,rfl⟩,q⟩
end
structure Dz (h:Heap) (x dx C:Addr) (mA:Str->Option Value):Prop where
 obj:h.get? x=some (W.instObj C dx)
 ns:h.Ns1 dx mA
 ne:dx≠x
theorem Kx {h:Heap}(n:h.Ns1 dx mA):∃od,h.get? dx=some od/\∀name,W.lookIn name od=some (mA name):=by
 obtain⟨o,es,ep,ho,hd,hk,_,hm⟩:=n;refine⟨o,ho,fun name=>?_⟩;have e:=hm name;unfold nsFind findBy at e;rw[<- Array.find?_toList] at e;unfold W.lookIn;rw[hd];dsimp only;split
 ·rename_i y q
  rw[q] at e;exact congrArg some e
 ·rename_i q
  rw[q] at e;have a:es.toList.any (·.refKey)=false:=by
   rw[any_eq_false];intro y hy;obtain⟨z,t,hkey⟩:=hk y (Array.mem_toList_iff.mp hy);simp[DictEntry.refKey,hkey]
  have a':¬es.toList.any (·.refKey)=true:=by rw[a];exact Bool.false_ne_true
  rw[if_neg a'];exact congrArg some e
theorem Dz.look (I:Dz h x dx C mA):∃od,W.InstAt h x (W.instObj C dx) C (some od)/\∀name,W.lookIn name od=some (mA name):=
 let ⟨od,ho,hl⟩:=Kx I.ns
 ⟨od,⟨I.obj,rfl,rfl,ho⟩,hl⟩
section
variable {prog:Program} {w:World} {A:Around} {E:Value->Shared->Prop} {s:Shared} {K:Frag} {x dx C f:Addr} {mA:Str->Option Value} {name:Str} {v:Value}
theorem Va (X:K.In s.heap)(I:Dz s.heap x dx C mA)(hg:W.plainGet K C name=true)(hh:W.hasDictIn K C=true)(ha:W.findIn K (.ref C) name=some none)(hv:mA name=some v)(hv':W.handedIn v=true)(h:Q v { s with toks:=s.toks+1 }):
  wpAny (model prog w) A (getAttr (.ref x) name expr) Q E s:=by
 obtain⟨od,J,hl⟩:=I.look;exact W.get_value X J (W.plainGet_of hg).1 (W.findObj_own hh ha rfl (by rw[hl,hv])) hv' h
theorem Ri (X:K.In s.heap)(I:Dz s.heap x dx C mA)(hg:W.plainGet K C name=true)(hf:W.findIn K (.ref C) name=some (some (.ref f)))(ht:W.isFn K (.ref f)=true)(hv:mA name=none)(h:Q (.ref f,[.ref x]) s):
  wpAny (model prog w) A (getMethod (.ref x) name pl) Q E s:=by
 obtain⟨od,J,hl⟩:=I.look;exact W.method_fn X J (W.plainGet_of hg).1 (W.plainGet_of hg).2 hf (beq_iff_eq.mp ht) (by show (W.lookIn name od).map (·.isSome)=some false;rw[hl,hv];rfl) h
theorem Wc (X:K.In s.heap)(I:Dz s.heap x dx C mA)(hs:W.findIn K (.ref C) "__setattr__"=some (some (.builtin "object.__setattr__")))(hp:W.plainOver K C=true)(ht:W.takerIn K C name=some none)(hh:W.hasDictIn K C=true)(hw:PySem.Within mA ns)(hsz:ns.length<=sizeLine)(h:∀h',Dz h' x dx C (fun y=>if y=name then some v else mA y)->Heap.SameBut dx s.heap h'->Q () { s with heap:=h',toks:=s.toks+2 }):
  wpAny (model prog w) A (setAttr (.ref x) name v) Q E s:=by
 obtain⟨od,J,hl⟩:=I.look;refine W.set_plain X J hs (W.osa_open (s:={ s with toks:=s.toks+1 }) (r:=none) X J hp ht fun b=>?_);obtain⟨cd,hc,hd'⟩:=W.any_some hh;have hx:s.heap.get? x=some ⟨.ref C,some dx,.plain,#[]⟩:=I.obj;refine wpAny_bind (wpAny_pure (wpAny_bind (wpAny_bind (wpAny_loadPart hx (wpAny_bind (W.Looks.here (s:={ s with toks:=s.toks+1 }) (W.looks_clsIn X hc) ?_))))));rw[hd'];refine wpAny_pure (a:=some dx) (wpAny_bind (wpAny_pure (wpAny_bind ?_)));refine wpAny_nsSet1 (s:={ s with toks:=s.toks+1 }) I.ns fun h' hn2 hs2=>?_;obtain⟨oD,esD,epD,hoD,hdD,hcD⟩:=hn2.count (PySem.Within.cons name v hw);refine wpAny_bind (wpAny_lookBehind hoD (by rw[hdD];exact pastItsLine_dict (Nat.le_trans hcD (by rw[length_cons];lia))) ?_);exact wpAny_pure (h _ ⟨(hs2.2 _ (Ne.symm I.ne)).trans I.obj,hn2,I.ne⟩ hs2)
theorem Qb (X:K.In s.heap)(hm:W.makesIn K C=true)(hi:W.findIn K (.ref C) "__init__"=some (some (.ref f)))(hf:W.typeIn K (.ref f)=some (.type "function"))(h:codeAny (model prog w) (A.under (.builtin "type.__call__" ⟨.ref C :: vs,kw⟩)) (.call (.ref f) ⟨.ref (s.heap.objs.size+1) :: vs,kw⟩) (W.InitBack (s.heap.objs.size+1) R)
   { s with heap:=(s.heap.push W.emptyDict).push (W.instObj C s.heap.objs.size) }):
  codeAny (model prog w) A (.call (.ref C) ⟨vs,kw⟩) R s:=by
 obtain⟨hh,g,d,t,os⟩:=s;exact W.make_core (W.makes_of X hm) (W.looks_findIn X hi) (fun self=>W.bind_fn X self hf) (.inl rfl) h
end
def cQ (f:Str)(v:V):List (Str × V)->List (Str × V)
 | []=>[(f,v)]
 | (g,x) :: r=>if g=f then (g,v) :: r else (g,x) :: cQ f v r
theorem bF (f g:Str)(v:V):∀fs:List (Str × V),(cQ f v fs).lookup g=if g=f then some v else fs.lookup g
 | []=>by
  show List.lookup g [(f,v)]=_
  by_cases h:g=f
  ·have hb:(g == f)=true:=beq_iff_eq.mpr h;simp only[List.lookup,hb,if_pos h]
  ·have hb:(g == f)=false:=beq_eq_false_iff_ne.mpr h;simp only[List.lookup,hb,if_neg h]
 | (k,x) :: r=>by
  have ih:=bF f g v r;rw[show cQ f v ((k,x) :: r)=(if k=f then (k,v) :: r else (k,x) :: cQ f v r) from rfl]
  by_cases hk:k=f
  ·rw[if_pos hk]
   by_cases h:g=k
   ·have hb:(g == k)=true:=beq_iff_eq.mpr h;simp only[List.lookup,hb,if_pos (h.trans hk)]
   ·have hb:(g == k)=false:=beq_eq_false_iff_ne.mpr h;simp only[List.lookup,hb,if_neg (fun e:g=f=>h (e.trans hk.symm))]
  ·rw[if_neg hk]
   by_cases h:g=k
   ·have hb:(g == k)=true:=beq_iff_eq.mpr h;simp only[List.lookup,hb,if_neg (fun e:g=f=>hk (h.symm.trans e))]
   ·have hb:(g == k)=false:=beq_eq_false_iff_ne.mpr h;simp only[List.lookup,hb];exact ih
theorem pZ (f:Str)(v:V):∀fs:List (Str × V),f∈(cQ f v fs).map (·.1)/\∀g,g∈fs.map (·.1)->g∈(cQ f v fs).map (·.1)
 | []=>⟨by simp[cQ],fun g h=>by simp at h⟩
 | (k,x) :: r=>by
  obtain⟨i1,i2⟩:=pZ f v r;rw[show cQ f v ((k,x) :: r)=(if k=f then (k,v) :: r else (k,x) :: cQ f v r) from rfl]
  by_cases hk:k=f
  ·rw[if_pos hk];subst hk;exact⟨by simp,fun g h=>by simpa using h⟩
  ·rw[if_neg hk];refine⟨?_,fun g h=>?_⟩
   ·rw[map_cons];exact mem_cons_of_mem _ i1
   ·rw[map_cons] at h ⊢;rcases mem_cons.mp h with e | e
    ·exact mem_cons.mpr (.inl e)
    ·exact mem_cons_of_mem _ (i2 g e)
theorem dR (f:Str)(v:V):∀fs:List (Str × V),(cQ f v fs).length<=fs.length+1
 | []=>by simp[cQ]
 | (k,x) :: r=>by
  have ih:=dR f v r;rw[show cQ f v ((k,x) :: r)=(if k=f then (k,v) :: r else (k,x) :: cQ f v r) from rfl]
  by_cases hk:k=f
  ·rw[if_pos hk,length_cons,length_cons];lia
  ·rw[if_neg hk,length_cons,length_cons];lia
theorem kT.some_of (r:kT (some v) o):∃u,o=some u/\cH v u:=by
 cases o with
 |none=>exact(show False from r).elim
 |some u=>exact⟨u,rfl,r⟩
theorem kT.none_of (r:kT none o):o=none:=by
 cases o with
 |none=>rfl
 |some u=>exact(show False from r).elim
theorem Lk (r:cH v u):W.handedIn u=true:=by
 cases v with
 |non=>cases (show u=Value.none from r);rfl
 |bl b=>cases (show u=Value.bool b from r);rfl
 |int i=>obtain⟨t,e⟩:=(show ∃t,u=Value.int i t from r);cases e;rfl
 |str x=>obtain⟨t,e⟩:=(show ∃t,u=Value.str x t from r);cases e;rfl
 |byt b=>obtain⟨t,e⟩:=(show ∃t,u=Value.bytes b t from r);cases e;rfl
 |flt b=>obtain⟨t,e⟩:=(show ∃t,u=Value.float b t from r);cases e;rfl
 |ref a=>cases (show u=Value.ref a from r);rfl
 |ty n=>cases (show u=Value.type n from r);rfl
section
variable {P:Program} {w:World} {H H':Hp} {h h':Heap} {a C dx:Addr} {fs fs':List (Str × V)}
theorem tK (hok:HOk P w H h)(e:H a=some (.ins C dx fs)):∃mA,Dz h a dx C mA/\(∀f,kT (fs.lookup f) (mA f))/\PySem.Within mA (fs.map (·.1))/\fs.length<=1000/\H dx=some (.own a):=by
 obtain⟨d,z,ne,ob,mA,n,r,q⟩:=(show eP P w H h a (.ins C dx fs) from hok a _ e)
 exact⟨mA,⟨ob,n,ne⟩,r,q,z,d⟩
end
structure Cls (K:Frag) (C:Addr):Prop where
 pg:W.plainGet K C Str.empty=true
 hd:W.hasDictIn K C=true
 po:W.plainOver K C=true
 sa:W.findIn K (.ref C) "__setattr__"=some (some (.builtin "object.__setattr__"))
theorem Cls.get {K:Frag}(c:Cls K C)(f:Str):W.plainGet K C f=true:=c.pg
def gG (K:Frag)(C:Addr)(f:Str):Prop:=W.findIn K (.ref C) f=some none
theorem gG.taker {K:Frag}(n:gG K C f):W.takerIn K C f=some none:=by
 unfold W.takerIn;rw[show W.findIn K (.ref C) f=some none from n];rfl
structure eI (K:Frag) (C:Addr) (m:Str) (f:Addr):Prop where
 at_:W.findIn K (.ref C) m=some (some (.ref f))
 fn:W.isFn K (.ref f)=true
 kp:W.keepIn K (.ref f)=true
section
variable {X:Cx} {pins:List (Addr × Obj)} {σ:St} {H:Hp} {s:Shared} {a C dx:Addr} {fs:List (Str × V)} {f:Str} {v:V} {A:Around} {E:Value->Shared->Prop}
theorem Gk (I:Inv X pins σ H s)(e:H a=some (.ins C dx fs))(c:Cls X.K C)(n:gG X.K C f)(l:fs.lookup f=some v)(h:∀u s',Inv X pins σ H s'->cH v u->Q u s'):wpAny (model X.prog X.w) A (getAttr (.ref a) f b) Q E s:=by
 obtain⟨mA,O,r,_,_,_⟩:=tK I.hok e;obtain⟨u,hu,ru⟩:=kT.some_of (v:=v) (o:=mA f) (by rw[<- l];exact r f);exact Va I.kIn O (c.get f) c.hd n hu (Lk ru) (h u _ (I.tok _) ru)
theorem kL (I:Inv X pins σ H s)(e:H a=some (.ins C dx fs))(c:Cls X.K C)(k:eI X.K C m g)(l:fs.lookup m=none)(h:Q (.ref g,[.ref a]) s):wpAny (model X.prog X.w) A (getMethod (.ref a) m pl) Q E s:=by
 obtain⟨mA,O,r,_,_,_⟩:=tK I.hok e;have hn:mA m=none:=kT.none_of (by rw[<- l];exact r m);exact Ri I.kIn O (c.get m) k.at_ k.fn hn h
theorem Gv (I:Inv X pins σ H s)(e:H a=some (.ins C dx fs))(c:Cls X.K C)(n:gG X.K C f)(hl:fs.length < 1000)(ry:cH y u)(h:∀s',Inv X pins σ (upd H a (.ins C dx (cQ f y fs))) s'->Q () s'):wpAny (model X.prog X.w) A (setAttr (.ref a) f u) Q E s:=by
 obtain⟨mA,O,r,wi,_,ho⟩:=tK I.hok e;have hz:(fs.map (·.1)).length<=sizeLine:=by rw[length_map,sizeLine_eq];lia
 refine Wc I.kIn O c.sa c.po n.taker c.hd wi hz fun h' O' sb=>h _ ?_;have hd:∃o,h'.get? dx=some o:=let ⟨o,_,_,e',_⟩:=O'.ns;⟨o,e'⟩
 refine I.write (x:=a) (e:=dx) (by rw[e];exact True.intro) (.inr ho) (fun b q hb z=>(sb.2 b hb).trans z) hd ?_;refine⟨by rw[aY O.ne];exact ho,?_,O.ne,O'.obj,_,O'.ns,fun g=>?_,fun g hg=>?_⟩
 ·have:=dR f y fs;lia
 ·show kT ((cQ f y fs).lookup g) (if g=f then some u else mA g);rw[bF]
  by_cases q:g=f
  ·rw[if_pos q,if_pos q];exact ry
  ·rw[if_neg q,if_neg q];exact r g
 ·by_cases q:g=f
  ·rw[q];exact(pZ f y fs).1
  ·refine(pZ f y fs).2 g (wi g fun z=>hg ?_);show (if g=f then some u else mA g)=none;rw[if_neg q];exact z
theorem Inv.made (I:Inv X pins σ H s):Inv X pins σ (upd (upd H s.heap.objs.size (.own (s.heap.objs.size+1))) (s.heap.objs.size+1) (.ins C s.heap.objs.size []))
  { s with heap:=(s.heap.push W.emptyDict).push (W.instObj C s.heap.objs.size) }:=by
 have e1:(s.heap.push W.emptyDict).get? s.heap.objs.size=some W.emptyDict:=Heap.get?_push_size s.heap rfl;have e2:((s.heap.push W.emptyDict).push (W.instObj C s.heap.objs.size)).get? (s.heap.objs.size+1)=some (W.instObj C s.heap.objs.size):=by
  have:=Heap.get?_push_size (s.heap.push W.emptyDict) (o:=W.instObj C s.heap.objs.size) rfl
  rwa [Heap.size_push] at this
 have e3:(s.heap.push W.emptyDict).Ns s.heap.objs.size (fun _=>none):=⟨W.emptyDict,#[],_,e1,rfl,(fun e he=>absurd he (by simp)),fun _=>rfl⟩
 have I1:=I.laid (a:=s.heap.objs.size) (o:=.own (s.heap.objs.size+1)) (h':=s.heap.push W.emptyDict) (t':=s.toks) (fun b u q=>Heap.get?_push_of_some _ q) (Nat.le_refl _) ⟨_,e1⟩;refine I1.laid (a:=s.heap.objs.size+1) (o:=.ins C s.heap.objs.size []) (t':=s.toks) (fun b u q=>Heap.get?_push_of_some _ q) (Nat.le_of_eq (Heap.size_push _ _)) ?_;have ne:s.heap.objs.size≠s.heap.objs.size+1:=Nat.ne_of_lt (Nat.lt_succ_self _);refine⟨by rw[aY ne,aD],Nat.zero_le _,ne,e2,fun _=>none,(Heap.Ns1.of_empty e3).at fun o q=>Heap.get?_push_of_some _ q,fun _=>True.intro,fun y hy=>absurd rfl hy⟩
theorem Ux (hb:attributeBase e f env (eval e env)=eval e env)(h:wpAny (model prog w) A (eval e env) (fun o s₁=>wpAny (model prog w) A (getAttr o f true) Q E s₁) E s):wpAny (model prog w) A (eval (.Attribute e f pos) env) Q E s:=
 Attribute_any_ h (by rw[arm_eval_Attribute,hb])
end
inductive Xa (K:Frag) (f:Str) (Q:VK) (x:V) (H1:Hp):Prop where
 |mk (a C dx fs v):x=.ref a->H1 a=some (.ins C dx fs)->Cls K C->gG K C f->fs.lookup f=some v->Q v H1->Xa K f Q x H1
def qm1 (K:Frag)(ta:TE)(f:Str):TE:=fun σ H Q=>ta σ H fun x H1=>Xa K f Q x H1
inductive Wx (K:Frag) (f:Str) (D:mE) (σ:St) (x:V) (H2:Hp) (y:V):Prop where
 |mk (a C dx fs):x=.ref a->H2 a=some (.ins C dx fs)->Cls K C->gG K C f->fs.length < 1000->D.nx σ (upd H2 a (.ins C dx (cQ f y fs)))->Wx K f D σ x H2 y
def qn1 (K:Frag)(ta tv:TE)(f:Str):TS:=fun D σ H=>tv σ H fun y H1=>ta σ H1 fun x H2=>Wx K f D σ x H2 y
section
variable {X:Cx} {o e value:Expr} {f:Str} {pos pos' tpos:Pos} {ta tv:TE}
theorem bU (he:PE X e ta)(hb:attributeBase e f X.env (eval e X.env)=eval e X.env):PE X (.Attribute e f pos) (qm1 X.K ta f):=by
 intro pins s σ H Q I h;refine Ux hb (thn (he pins s σ H _ I h) fun u s1 ⟨x,H1,I1,rx,a,C,dx,fs,v,ex,ea,c,n,l,q⟩=>?_);subst ex;obtain rfl:u=Value.ref a:=rx;exact Gk I1 ea c n l fun u' s2 I2 ru=>⟨v,H1,I2,ru,q⟩
theorem iB (ha:PE X o ta)(hv:PE X value tv)(hs:swapsWith value (some (.Attribute o f pos')) pos.line X.env=pure false):PS X (.Assign [.Attribute o f pos'] value pos) (qn1 X.K ta tv f):=by
 intro pins s σ H D I h;refine plainObj_wpAny_Assign_Attribute (thn (hv pins s σ H _ I h) fun u s1 ⟨y,H1,I1,ry,q⟩=>thn (ha pins s1 σ H1 _ I1 q) fun ov s2 ⟨x,H2,I2,rx,a,C,dx,fs,ex,ea,c,n,l,q2⟩=>?_) hs;subst ex;obtain rfl:ov=Value.ref a:=rx;exact Gv I2 ea c n l ry fun s3 I3=>⟨σ,_,I3,q2⟩
end
section
variable {X:Cx} {pins:List (Addr × Obj)} {σ:St} {H:Hp} {s:Shared} {A:Around} {E:Value->Shared->Prop} {Q:Value->Shared->Prop} {c:Value} {b:Bool}
inductive mZ (K:Frag) (H:Hp):V->Value->Prop where
 |non:mZ K H .non (.type "NoneType")
 |bl (x:Bool):mZ K H (.bl x) (.type "bool")
 |int (i:Int):mZ K H (.int i) (.type "int")
 |str (x:Str):mZ K H (.str x) (.type "str")
 |flt (x:UInt64):mZ K H (.flt x) (.type "float")
 |lst {a:Addr} {xs:List V} (e:H a=some (.lst xs)):mZ K H (.ref a) (.type "list")
 |frz {a:Addr} {o:Obj} {xs:List V} (e:H a=some (.frz o (.lst xs))):mZ K H (.ref a) (.type "list")
 |tup {a:Addr} {xs:List V} (e:H a=some (.tup xs)):mZ K H (.ref a) (.type "tuple")
 |dK {a:Addr} {kvs:List (Key × V)} (e:H a=some (.dK kvs)):mZ K H (.ref a) (.type "dict")
 |dT {a:Addr} {kvs:List (List Key × V)} (e:H a=some (.dT kvs)):mZ K H (.ref a) (.type "dict")
 |ins {a C dx:Addr} {fs:List (Str × V)} (e:H a=some (.ins C dx fs)) (cl:Cls K C) (ha:W.findIn K (.ref C) "__class__"=some (some (.builtin "object.__class__")))
   (hn:W.specialIn K (.builtin "object.__class__") "__get__"=some (some (.builtin "getset_descriptor.__get__"))) (htk:W.takesIn K (.builtin "object.__class__")=some true)
   (hm:W.mroIn K C (.type "object")=some true):mZ K H (.ref a) (.ref C)
theorem Lp (I:Inv X pins σ H s)(rx:cH x u)(ty:mZ X.K H x t)(e:W.kitOne X.K t c=some b)(h:∀tk,Q (.bool b) { s with toks:=tk }):
  wpAny (model X.prog X.w) A (call (.builtin "isinstance") [u,c]) Q E s:=by
 cases ty with
 |non=>cases (show u=Value.none from rx);exact W.kia_one W.kitx_none I.kIn True.intro e (fun z=>nomatch z) h
 |bl y=>cases (show u=Value.bool y from rx);exact W.kia_one W.kitx_bool I.kIn True.intro e (fun z=>nomatch z) h
 |int i=>obtain⟨t,q⟩:=(show ∃t,u=Value.int i t from rx);cases q;exact W.kia_one W.kitx_int I.kIn True.intro e (fun z=>nomatch z) h
 |str y=>obtain⟨t,q⟩:=(show ∃t,u=Value.str y t from rx);cases q;exact W.kia_one W.kitx_str I.kIn True.intro e (fun z=>nomatch z) h
 |flt y=>obtain⟨t,q⟩:=(show ∃t,u=Value.float y t from rx);cases q;exact W.kia_one W.kitx_float I.kIn True.intro e (fun z=>nomatch z) h
 | @lst a xs ea=>
  cases (show u=Value.ref a from rx)
  obtain⟨_,_,n,_,h1⟩:=(show eP X.prog X.w H s.heap a (.lst xs) from I.hok a _ ea)
  exact W.kia_one W.kitx_list I.kIn ⟨_,h1,rfl⟩ e (fun z=>nomatch z) h
 | @frz a ob xs ea=>
  cases (show u=Value.ref a from rx)
  obtain⟨_,_,_,n,_,h1⟩:=(show eP X.prog X.w H s.heap a (.frz ob (.lst xs)) from I.hok a _ ea)
  exact W.kia_one W.kitx_list I.kIn ⟨_,h1,rfl⟩ e (fun z=>nomatch z) h
 | @tup a xs ea=>
  cases (show u=Value.ref a from rx)
  obtain⟨_,_,_,p⟩:=(show eP X.prog X.w H s.heap a (.tup xs) from I.hok a _ ea)
  obtain⟨o,h1,h2,_⟩:=p;exact W.kia_one W.kitx_tuple I.kIn ⟨o,h1,h2⟩ e (fun z=>nomatch z) h
 | @dK a kvs ea=>
  cases (show u=Value.ref a from rx)
  obtain⟨_,_,vs,_,p⟩:=(show eP X.prog X.w H s.heap a (.dK kvs) from I.hok a _ ea)
  obtain⟨o,es,ep,h1,h2,_⟩:=p;exact W.kia_one W.kitx_dict I.kIn ⟨o,h1,h2.1⟩ e (fun z=>nomatch z) h
 | @dT a kvs ea=>
  cases (show u=Value.ref a from rx)
  obtain⟨_,_,xs,_,o,es,ep,h1,h2,_⟩:=(show eP X.prog X.w H s.heap a (.dT kvs) from I.hok a _ ea)
  exact W.kia_one W.kitx_dict I.kIn ⟨o,h1,h2.1⟩ e (fun z=>nomatch z) h
 | @ins a C dx fs ea cl ha hn htk hm=>
  cases (show u=Value.ref a from rx)
  obtain⟨mA,O,_⟩:=tK I.hok ea;obtain⟨od,J,_⟩:=O.look;exact W.kia_one (W.kitx_own (cl.get _) cl.hd ha hn htk hm) I.kIn J e (fun z=>nomatch z) h
end
structure hZ (k:Nat) (A:Around):Prop where
 hd:A.handled=none
 dp:A.depth+3*k+5 < recursionLimit
 un:A.units+16*k+200 < cLine
theorem hZ.mono (r:hZ k A)(h:j<=k):hZ j A:=⟨r.hd,by have:=r.dp;lia,by have:=r.un;lia⟩
theorem hZ.deeper (r:hZ (k+1) A)(env:Env):hZ k (A.deeper env):=
 ⟨r.hd,by have:=r.dp;show A.depth+1+3*k+5 < _;lia,by have:=r.un;show A.units+3+16*k+200 < _;lia⟩
theorem Gn {A:Around}:(A.under (.builtin "type.__call__" ⟨.ref C :: us,kw⟩)).depth=A.depth+1:=by
 first | rfl | simp[Around.under,Code.weight,Code.isCreation,Code.isGuard,Code.isCaller,Code.frames,Code.isFrame,guardIds]
theorem Gs {A:Around}:(A.under (.builtin "type.__call__" ⟨.ref C :: us,kw⟩)).units=A.units+1:=by
 first | rfl | simp[Around.under,Code.cUnits,Code.frames,Code.isFrame]
theorem hZ.make (r:hZ (k+1) A)(C:Addr)(us:List Value)(kw:List (Str × Value)):hZ k (A.under (.builtin "type.__call__" ⟨.ref C :: us,kw⟩)):=
 ⟨r.hd,by have:=r.dp;rw[Gn];lia,by have:=r.un;rw[Gs];lia⟩
theorem hZ.depth (r:hZ k A):A.depth < recursionLimit:=by have:=r.dp;lia
theorem hZ.units (r:hZ k A):A.units+64 < cLine:=by have:=r.un;lia
def Yy:TA:=fun _ H Q=>Q [] H
def qe9 (ta:TE)(tr:TA):TA:=fun σ H Q=>ta σ H fun x H1=>tr σ H1 fun xs H2=>Q (x :: xs) H2
section
variable {X:Cx} {e:Expr} {es:List Expr} {te:TE} {t:TA} {pos:Pos}
theorem aC:PA X [] Yy:=fun _ _ _ _ H Q I h=>Calls.spliced_nil ⟨[],H,I,.nil,h⟩
theorem aA (ha:PE X e te)(hr:PA X es t)(hs:starEach (e :: es) X.env=(false,eval e X.env) :: starEach es X.env:=by rfl):PA X (e :: es) (qe9 te t):=by
 intro pos pins s σ H Q I h;rw[hs];show wpAny _ _ (spliced ((false,eval e X.env) :: backTo pos (starEach es X.env))) _ _ s;refine Calls.spliced_cons (thn (ha pins s σ H _ I h) fun u s1 ⟨x,H1,I1,r1,q1⟩=>?_);exact thn (hr pos pins s1 σ H1 _ I1 q1) fun us s2 ⟨xs,H2,I2,r2,q2⟩=>⟨x :: xs,H2,I2,.cons r1 r2,q2⟩
def qe7 (t:TA):TE:=fun σ H Q=>t σ H fun xs H1=>xs.length<=sizeLine/\∀p,H1 p=none->Q (.ref p) (upd H1 p (.tup xs))
def ql3 (t:TA):TE:=fun σ H Q=>t σ H fun xs H1=>xs.length<=sizeLine/\∀p,H1 p=none->Q (.ref p) (upd H1 p (.lst xs))
theorem dS {x1}(h:PA X es t):PE X (.Tuple es x1 pos) (qe7 t):=by
 intro pins s σ H Q I hq;refine wpAny_Tuple_spliced (thn (h pos pins s σ H _ I hq) fun us s1 ⟨xs,H1,I1,r,z,q⟩=>⟨by rw[<- r.length];exact z,?_⟩);have hf:H1 s1.heap.objs.size=none:=I1.hok.fresh (Nat.le_refl _);refine⟨.ref s1.heap.objs.size,upd H1 s1.heap.objs.size (.tup xs),I1.laid (t':=s1.toks) (fun b u e=>Heap.get?_push_of_some _ e) (Nat.le_refl _) ?_,rfl,q _ hf⟩;exact⟨z,us,r,⟨_,Heap.get?_push_size _ rfl,rfl,_,rfl⟩⟩
theorem cZ (h:PA X es t):PE X (.List es pos) (ql3 t):=by
 intro pins s σ H Q I hq;refine wpAny_List_spliced (thn (h pos pins s σ H _ I hq) fun us s1 ⟨xs,H1,I1,r,z,q⟩=>⟨by rw[<- r.length];exact z,?_⟩);have hf:H1 s1.heap.objs.size=none:=I1.hok.fresh (Nat.le_refl _);refine⟨.ref s1.heap.objs.size,upd H1 s1.heap.objs.size (.lst xs),I1.laid (t':=s1.toks) (fun b u e=>Heap.get?_push_of_some _ e) (Nat.le_refl _) ?_,rfl,q _ hf⟩;exact⟨z,us,0,r,Heap.get?_push_size _ rfl⟩
end
abbrev Sp:=List V->Hp->VK->XK->Prop
abbrev CXT:=List Env->Hp->Shared->XK->Value->Shared->Prop
structure Fa (P:Program) (w:World) (K:Frag) (mg:Str->Option Value) (base:Heap) (A:Around) (outer:List Env) (s:Shared) (H:Hp):Prop where
 frames:A.frames=some outer
 mod:Mod K mg base
 bs:∀b o,base.get? b=some o->s.heap.get? b=some o/\H b=none
 bsz:base.objs.size<=s.heap.objs.size
 funs:s.heap.FunFrames base outer
 frf:∀b∈frs outer,H b=none
 hok:HOk P w H s.heap
 bare:AllBare s.gens
def CE (outer:List Env)(P:Program)(w:World)(H:Hp)(s:Shared)(Q:VK)(u:Value)(s':Shared):Prop:=
 ∃v H',s'.os=s.os/\AllBare s'.gens/\Un (frs outer) [] H H' s.heap s'.heap/\HOk P w H' s'.heap/\cH v u/\Q v H'
def CR (CX:CXT)(outer:List Env)(P:Program)(w:World)(H:Hp)(s:Shared)(Q:VK)(E:XK)(r:Result)(s':Shared):Prop:=
 match r with
 | .ok (.ret u)=>CE outer P w H s Q u s'
 | .ok _=>False
 | .error e=>CX outer H s E e s'
structure aL (P:Program) (w:World) (K:Frag) (mg:Str->Option Value) (base:Heap) (CX:CXT) (k:Nat) (f:Addr) (fd:FuncData) (ps:List Str) (sp:Sp):Prop where
 len:∀vs H Q E,sp vs H Q E->vs.length=ps.length
 run:∀(A:Around) (outer:List Env) (s:Shared) (H:Hp) (args:Args) (us:List Value) (vs:List V) (Q:VK) (E:XK),hZ k A->Fa P w K mg base A outer s H->BindsTo s fd args (ps.zip us)->cC vs us->sp vs H Q E->
  codeAny (model P w) A (.call (.ref f) args) (CR CX outer P w H s Q E) s
theorem Fa.make {K:Frag}(e:Fa P w K mg base A outer s H)(C:Addr)(us:List Value)(kw:List (Str × Value)):
  Fa P w K mg base (A.under (.builtin "type.__call__" ⟨.ref C :: us,kw⟩)) outer s H:=⟨by first | exact e.frames | (simpa[Around.under,Code.envs,Code.isFrame,pushEnvs] using e.frames),e.mod,e.bs,e.bsz,e.funs,e.frf,e.hok,e.bare⟩
section
variable {X:Cx} {pins:List (Addr × Obj)} {σ:St} {H:Hp} {s s':Shared}
theorem Inv.env0 (I:Inv X pins σ H s):Fa X.prog X.w X.K X.mg X.base X.A X.stack s H:=
 ⟨I.ok.frames,I.ok.mod,I.bs,Nat.le_trans I.ok.bsz I.sz,I.stack,I.stkFree,I.hok,I.bare⟩
theorem Inv.after (I:Inv X pins σ H s)(h:CE X.stack X.prog X.w H s Q u s'):EP X pins σ Q u s':=by
 obtain⟨v,H',os,bare,un,hok,r,q⟩:=h;obtain⟨hh,g,d,t,os'⟩:=s';obtain rfl:os'=s.os:=os;exact⟨v,H',I.call (h':=hh) (g':=g) (d':=d) (t':=t) (ch:=[]) un hok bare (fun b z=>absurd z (by simp)),r,q⟩
end
def qi9 (sp:Sp)(dvs:List V)(E:XK)(t:TA):TE:=fun σ H Q=>t σ H fun vs H1=>sp (vs++dvs) H1 Q E
inductive Sc (C:Addr) (m:Str) (sp:Sp) (dvs:List V) (E:XK) (t:TA) (σ:St) (Q:VK) (x:V) (H1:Hp):Prop where
 |mk (a dx fs):x=.ref a->H1 a=some (.ins C dx fs)->fs.lookup m=none->(t σ H1 fun vs H2=>sp (x :: (vs++dvs)) H2 Q E)->Sc C m sp dvs E t σ Q x H1
def Ws (C:Addr)(m:Str)(sp:Sp)(dvs:List V)(E:XK)(ta:TE)(t:TA):TE:=fun σ H Q=>ta σ H fun x H1=>Sc C m sp dvs E t σ Q x H1
def qg6 (C:Addr)(sp:Sp)(dvs:List V)(E:XK)(t:TA):TE:=fun σ H Q=>t σ H fun vs H1=>∀x dx,H1 x=none->H1 dx=none->dx≠x->
 sp (.ref x :: (vs++dvs)) (upd (upd H1 dx (.own x)) x (.ins C dx [])) (fun v H2=>v=.non/\Q (.ref x) H2) E
def aM (K:Frag)(fd:FuncData)(ps:List Str)(ds:List Value):Prop:=
 ∀(s:Shared) (us:List Value),K.In s.heap->(us++ds).length=ps.length->BindsTo s fd ⟨us,[]⟩ (ps.zip (us++ds))
theorem aM.all {K:Frag}(h:∀us:List Value,us.length=ps.length->bindArgs fd ⟨us,[]⟩=pure (ps.zip us)):aM K fd ps []:=fun s us _ hl=>by
 rw[append_nil] at hl ⊢;exact .of_eq (h us hl)
def kC (CX:CXT)(X:Cx)(E:XK):Prop:=∀(pins:List (Addr × Obj)) (σ:St) (H:Hp) (s:Shared) (e:Value) (s':Shared),Inv X pins σ H s->CX X.stack H s E e s'->X.xe e s'
section
variable {X:Cx} {CX:CXT} {k:Nat} {f C:Addr} {fd:FuncData} {ps:List Str} {sp:Sp} {dvs:List V} {ds:List Value} {E:XK} {x m:Str} {p pos apos:Pos} {e o:Expr} {es:List Expr} {ta:TE} {t:TA}
theorem vE (F:aL X.prog X.w X.K X.mg X.base CX k f fd ps sp)(hr:hZ k X.A)(hb:aM X.K fd ps ds)(hd:cC dvs ds)(hx:kC CX X E)(I:Inv X pins σ H s)(r:cC vs us)(h:sp (vs++dvs) H Q E):wpAny (model X.prog X.w) X.A (call (.ref f) us) (EP X pins σ Q) X.xe s:=by
 have r2:cC (vs++dvs) (us++ds):=r.append hd;have hl:(us++ds).length=ps.length:=by rw[<- r2.length];exact F.len _ _ _ _ h
 refine wpAny_call (codeAny_mono (F.run X.A X.stack s H ⟨us,[]⟩ (us++ds) (vs++dvs) Q E hr I.env0 (hb s us I.kIn hl) r2 h) fun r s' hq=>?_)
 cases r with
 |error e=>exact hx pins σ H s e s' I hq
 |ok fl=>
  cases fl with
  |ret u=>exact I.after hq
  |next=>exact False.elim hq
  |brk=>exact False.elim hq
  |cont=>exact False.elim hq
theorem aG (F:aL X.prog X.w X.K X.mg X.base CX k f fd ps sp)(hr:hZ k X.A)(hg:Gl X x)(hm:X.mg x=some (.ref f))(hk:W.keepIn X.K (.ref f)=true)(hb:aM X.K fd ps ds)(hd:cC dvs ds)(hx:kC CX X E)(ha:PA X (e :: es) t)(hdb:(x == ("__debug__":Str))=false:=by decide)(he:starEach (e :: es) X.env=(false,eval e X.env) :: starEach es X.env:=by rfl)(hpl:(backTo pos (starEach es X.env)).any (·.1)=false:=by rfl) :
  PE X (.Call (.Name x p) (e :: es) [] pos) (qi9 sp dvs E t):=by
 intro pins s σ H Q I h;refine wpAny_Call_Name_kw (zP I hg hm ?_ hdb);refine W.callWith_K (h₀:=X.base) I.ok.mod.kin hk (thn (ha pos pins s σ H _ I h) fun us s1 ⟨vs,H1,I1,r,q⟩=>⟨I1.kIn,?_⟩) he hpl;exact vE F hr hb hd hx I1 r q
theorem Ae (he:PE X o ta)(c:Cls X.K C)(hm:eI X.K C m f)(F:aL X.prog X.w X.K X.mg X.base CX k f fd ps sp)(hr:hZ k X.A)(hb:aM X.K fd ps ds)(hd:cC dvs ds)(hx:kC CX X E)(ha:PA X (e :: es) t)(hst:starEach (e :: es) X.env=(false,eval e X.env) :: starEach es X.env:=by rfl)(hpl:(backTo pos (starEach es X.env)).any (·.1)=false:=by rfl)(ht:eval (.Call (.Attribute o m apos) (e :: es) [] pos) X.env=(do
   let ov <- eval o X.env
   standAt apos.atName
   let (f,first) <- holding [ov] (getMethod ov m pl)
   callWith pos f first (backTo pos (starEach (e :: es) X.env)) (backToKw pos (keywordEach [] X.env))):=by rfl):
  PE X (.Call (.Attribute o m apos) (e :: es) [] pos) (Ws C m sp dvs E ta t):=by
 intro pins s σ H Q I h;refine W.methodCall_KW (pl:=pl) (thn (he pins s σ H _ I h) fun u s1 ⟨x,H1,I1,rx,a,dx,fs,ex,ea,l,q⟩=>?_) ht;subst ex;obtain rfl:u=Value.ref a:=rx;refine kL I1 ea c hm l ?_;refine W.callWith_K (first:=[.ref a]) (h₀:=X.base) I.ok.mod.kin hm.kp (thn (ha pos pins s1 σ H1 _ I1 q) fun us s2 ⟨vs,H2,I2,r,q2⟩=>⟨I2.kIn,?_⟩) hst hpl;exact vE (us:=.ref a :: us) (vs:=.ref a :: vs) F hr hb hd hx I2 (.cons rfl r) q2
theorem cA (he:PE X o ta)(c:Cls X.K C)(hm:eI X.K C m f)(F:aL X.prog X.w X.K X.mg X.base CX k f fd ps sp)(hr:hZ k X.A)(hb:aM X.K fd ps ds)(hd:cC dvs ds)(hx:kC CX X E)(ht:eval (.Call (.Attribute o m apos) [] [] pos) X.env=(do
   let ov <- eval o X.env
   standAt apos.atName
   let (f,first) <- holding [ov] (getMethod ov m pl)
   callWith pos f first (backTo pos (starEach [] X.env)) (backToKw pos (keywordEach [] X.env))):=by rfl):
  PE X (.Call (.Attribute o m apos) [] [] pos) (Ws C m sp dvs E ta Yy):=by
 intro pins s σ H Q I h;refine W.methodCall_KW (pl:=pl) (thn (he pins s σ H _ I h) fun u s1 ⟨x,H1,I1,rx,a,dx,fs,ex,ea,l,q⟩=>?_) ht;subst ex;obtain rfl:u=Value.ref a:=rx;refine kL I1 ea c hm l ?_;exact W.callWith_K0 (first:=[.ref a]) I1.kIn hm.kp (vE (us:=[.ref a]) (vs:=[.ref a]) F hr hb hd hx I1 (.cons rfl .nil) q)
structure Mk (K:Frag) (C f:Addr):Prop where
 makes:W.makesIn K C=true
 init:W.findIn K (.ref C) "__init__"=some (some (.ref f))
 fn:W.isFn K (.ref f)=true
 kp:W.keepIn K (.ref C)=true
theorem Nm (M:Mk X.K C f)(F:aL X.prog X.w X.K X.mg X.base CX k f fd ps sp)(hr:hZ (k+1) X.A)(hb:aM X.K fd ps ds)(hd:cC dvs ds)(hx:kC CX X E)(I:Inv X pins σ H s)(r:cC vs us)(h:∀x dx,H x=none->H dx=none->dx≠x->sp (.ref x :: (vs++dvs)) (upd (upd H dx (.own x)) x (.ins C dx [])) (fun v H2=>v=.non/\Q (.ref x) H2) E):
  wpAny (model X.prog X.w) X.A (call (.ref C) us) (EP X pins σ Q) X.xe s:=by
 have hq:=h (s.heap.objs.size+1) s.heap.objs.size (I.hok.fresh (Nat.le_succ _)) (I.hok.fresh (Nat.le_refl _)) (Nat.ne_of_lt (Nat.lt_succ_self _));have I2:=Inv.made (C:=C) I;have r2:cC (V.ref (s.heap.objs.size+1) :: (vs++dvs)) (Value.ref (s.heap.objs.size+1) :: (us++ds)):=.cons rfl (r.append hd);have hl:(Value.ref (s.heap.objs.size+1) :: us++ds).length=ps.length:=by
  have e:=r2.length;rw[F.len _ _ _ _ hq] at e;exact e.symm
 refine wpAny_call (Qb (f:=f) I.kIn M.makes M.init (beq_iff_eq.mp M.fn) (codeAny_mono (F.run _ X.stack _ _ ⟨Value.ref (s.heap.objs.size+1) :: us,[]⟩ (Value.ref (s.heap.objs.size+1) :: (us++ds)) _ _ E (hr.make C us [])
  (I2.env0.make C us []) (hb _ (Value.ref (s.heap.objs.size+1) :: us) I2.kIn hl) r2 hq) fun r s' hq'=>?_))
 cases r with
 |error e=>exact hx pins σ _ _ e s' I2 hq'
 |ok fl=>
  cases fl with
  |ret u=>
   obtain⟨v,H',I3,rv,ev,q3⟩:=I2.after hq';subst ev;exact⟨rv,⟨V.ref (s.heap.objs.size+1),H',I3,rfl,q3⟩⟩
  |next=>exact False.elim hq'
  |brk=>exact False.elim hq'
  |cont=>exact False.elim hq'
theorem iV (M:Mk X.K C f)(F:aL X.prog X.w X.K X.mg X.base CX k f fd ps sp)(hr:hZ (k+1) X.A)(hg:Gl X x)(hm:X.mg x=some (.ref C))(hb:aM X.K fd ps ds)(hd:cC dvs ds)(hx:kC CX X E)(ha:PA X (e :: es) t)(hdb:(x == ("__debug__":Str))=false:=by decide)(he:starEach (e :: es) X.env=(false,eval e X.env) :: starEach es X.env:=by rfl)(hpl:(backTo pos (starEach es X.env)).any (·.1)=false:=by rfl) :
  PE X (.Call (.Name x p) (e :: es) [] pos) (qg6 C sp dvs E t):=by
 intro pins s σ H Q I h;refine wpAny_Call_Name_kw (zP I hg hm ?_ hdb);refine W.callWith_K (h₀:=X.base) I.ok.mod.kin M.kp (thn (ha pos pins s σ H _ I h) fun us s1 ⟨vs,H1,I1,r,q⟩=>⟨I1.kIn,?_⟩) he hpl;exact Nm M F hr hb hd hx I1 r q
end
structure aR (N P:List Str) (sc:Scope):Prop where
 kind:sc.kind=.function
 co:sc.isCoroutine=false
 gen:sc.isGenerator=false
 nd:N.Nodup
 pre:N.take P.length=P
 par:∀x∈P,sc.names.lookup x=some .local\/sc.names.lookup x=some .cell
 nofree:∀y∈sc.names,y.2≠.free
theorem sK9 (a:sc.kind=.function:=by rfl)(b:sc.isCoroutine=false:=by rfl)(c:sc.isGenerator=false:=by rfl)(d:N.take P.length=P:=by rfl)(e:(decide N.Nodup&&decide (∀x∈P,sc.names.lookup x=some .local\/sc.names.lookup x=some .cell)&&decide (∀y∈sc.names,y.2≠.free))=true:=by decide +kernel):aR N P sc:=by
 rw[Bool.and_eq_true,Bool.and_eq_true] at e
 exact ⟨a,b,c,of_decide_eq_true e.1.1,d,of_decide_eq_true e.1.2,of_decide_eq_true e.2⟩
theorem zl9 (n:Nat)(h:n<=16:=by decide):n<=sizeLine:=Nat.le_trans h (by decide)
abbrev kI9 (K:Frag)(g:Addr):Prop:=W.keepIn K (.ref g)=true
abbrev mI9 (mg:Str->Option Value)(x:Str)(g:Addr):Prop:=mg x=some (.ref g)
theorem wY {kindOf:Str->Option NameKind}:∀{binds:List (Str × Value)} {m:Str->Option Value},(∀v,(x,v)∉binds)->bindL kindOf binds m x=m x
 | [],_,_=>rfl
 | (n,v) :: r,m,h=>by
  unfold bindL;rw[wY fun w hw=>h w (mem_cons_of_mem _ hw)];split
  ·have:x≠n:=by rintro rfl;exact h v mem_cons_self
   simp[this]
  ·rfl
theorem xF {kindOf:Str->Option NameKind}:∀{binds:List (Str × Value)} {m:Str->Option Value},(∀v,(x,v)∉binds)->bindC kindOf binds m x=m x
 | [],_,_=>rfl
 | (n,v) :: r,m,h=>by
  unfold bindC;rw[xF fun w hw=>h w (mem_cons_of_mem _ hw)];split
  ·rfl
  ·have:x≠n:=by rintro rfl;exact h v mem_cons_self
   simp[this]
theorem xS {kindOf:Str->Option NameKind}:∀{P:List Str} {vs:List Value} {i:Nat} {m:Str->Option Value},P.Nodup->P[i]?=some x->vs[i]?=some v->kindOf x=some .local->
  bindL kindOf (P.zip vs) m x=some v
 | [],_,_,_,_,h,_,_=>by simp at h
 |_ :: _,[],_,_,_,_,h,_=>by simp at h
 |p :: P,w :: vs,0,m,nd,h1,h2,hk=>by
  simp at h1 h2;subst h1;subst h2;show bindL kindOf ((p,w) :: P.zip vs) m p=_;unfold bindL;rw[wY fun v hv=>(nodup_cons.mp nd).1 (of_mem_zip hv).1,if_pos hk];simp
 |p :: P,w :: vs,i+1,m,nd,h1,h2,hk=>by
  show bindL kindOf ((p,w) :: P.zip vs) m x=_;unfold bindL;exact xS (i:=i) (nodup_cons.mp nd).2 (by simpa using h1) (by simpa using h2) hk
theorem wP {kindOf:Str->Option NameKind}:∀{P:List Str} {vs:List Value} {i:Nat} {m:Str->Option Value},P.Nodup->P[i]?=some x->vs[i]?=some v->kindOf x≠some .local->
  bindC kindOf (P.zip vs) m x=some v
 | [],_,_,_,_,h,_,_=>by simp at h
 |_ :: _,[],_,_,_,_,h,_=>by simp at h
 |p :: P,w :: vs,0,m,nd,h1,h2,hk=>by
  simp at h1 h2;subst h1;subst h2;show bindC kindOf ((p,w) :: P.zip vs) m p=_;unfold bindC;rw[xF fun v hv=>(nodup_cons.mp nd).1 (of_mem_zip hv).1,if_neg hk];simp
 |p :: P,w :: vs,i+1,m,nd,h1,h2,hk=>by
  show bindC kindOf ((p,w) :: P.zip vs) m x=_;unfold bindC;exact wP (i:=i) (nodup_cons.mp nd).2 (by simpa using h1) (by simpa using h2) hk
def start (N:List Str)(vs:List V):St:=vs.map some++replicate (N.length - vs.length) none
def Fu (CX:CXT)(P:Program)(w:World)(K:Frag)(mg:Str->Option Value)(base:Heap)(N:List Str)(qual:Str)(scope:Scope)(f:Addr)(cd:Value)(A:Around)(outer:List Env)(s:Shared)(H:Hp)(E:XK):Cx where
 prog:=P
 w:=w
 K:=K
 mg:=mg
 base:=base
 A:=A.deeper (envOfC qual scope s.heap.objs.size f cd)
 N:=N
 s₀:=s
 H₀:=H
 env:=envOfC qual scope s.heap.objs.size f cd
 outer:=outer
 stack:=envOfC qual scope s.heap.objs.size f cd :: outer
 ex:=[]
 calm:=true
 fn:=fun _=>true
 pn:=[]
 xe:=fun e s'=>wpAny (model P w) (A.deeper (envOfC qual scope s.heap.objs.size f cd)) (leaving (envOfC qual scope s.heap.objs.size f cd) e) (fun _ s''=>CX outer H s E e s'') (fun e' s''=>CX outer H s E e' s'') s'
theorem Di {sc:Scope}(h:sc.names.lookup x=some .cell):∃c,(cellsFrom n sc.names []).lookup x=some c:=by
 have q:=W.cellsFrom_some sc.names n [] (.inl h);exact Option.isSome_iff_exists.mp q
theorem Lb {K:Frag}(S:aR N ps scope)(hd:A.handled=none)(e0:Fa P w K mg base A outer s H)(hl:vs.length=ps.length)(r:cC vs us)(x:InCallC s s.heap.objs.size (bindL (envOfC qual scope s.heap.objs.size f cd).kindOf (ps.zip us) fun _=>none) (cellsFrom (s.heap.objs.size+1) scope.names []) (bindC (envOfC qual scope s.heap.objs.size f cd).kindOf (ps.zip us) fun _=>none) s1):
  Inv (Fu CX P w K mg base N qual scope f cd A outer s H E) [] (start N vs) H s1:=by
 have hpl:ps.length<=N.length:=by have:=congrArg List.length S.pre;rw[length_take] at this;lia
 obtain⟨h1,tk,rfl,hk⟩:=x.done;have noA:∀b:Addr,b∉(Fu CX P w K mg base N qual scope f cd A outer s H E).ex:=fun b z=>absurd (show b∈([]:List Addr) from z) (by simp);refine⟨⟨e0.mod,S.kind,rfl,rfl,Nat.le_refl _,fun y z c h1 h2=>?_,fun y hy=>?_,fun y c _ h=>?_,fun _=>hd,Around.frames_deeper e0.frames,.inr ⟨rfl,rfl⟩,fun b z=>absurd z (noA b),e0.bs,e0.bsz,fun b _ _=>noA b,fun b z=>absurd z (noA b),e0.funs,e0.frf⟩,
  rfl,e0.bare,Un.kept hk,⟨_,x.toInCall.ns,fun i y v h1 h2 h3=>?_⟩,fun y c h=>⟨_,x.cell y c h⟩,e0.hok.fresh (Nat.le_refl _),fun y c h=>?_,fun p hp=>absurd (show p∈([]:List (Addr × Obj)) from hp) (by simp),e0.hok.kept hk,?_⟩
 ·exact name_of_addr x.apart (PySem.mem_of_lookup h1) (PySem.mem_of_lookup h2)
 ·have hy:scope.names.lookup y=some .cell\/scope.names.lookup y=some .free:=hy;rcases hy with hy | hy
  ·exact Di hy
  ·exact absurd rfl (S.nofree _ (PySem.mem_of_lookup hy))
 ·exact Nat.le_of_lt (x.above y c (PySem.mem_of_lookup h))
 ·have hi:i < vs.length:=by
   unfold start at h2
   by_cases hi:i < vs.length
   ·exact hi
   ·rw[getElem?_append_right (by simpa using hi)] at h2;rw[getElem?_replicate] at h2;split at h2<;>cases h2
  have ha:vs[i]?=some v:=by
   unfold start at h2;rw[getElem?_append_left (by simpa using hi),getElem?_map] at h2
   cases e:vs[i]? with
   |none=>rw[e] at h2;cases h2
   |some a=>rw[e] at h2;cases h2;rfl
  obtain⟨u,hu,rv⟩:=r.get ha;have hp:ps[i]?=some y:=by
   rw[<- S.pre,getElem?_take_of_lt (by lia)];exact h1
  have ndP:ps.Nodup:=by rw[<- S.pre];exact S.nd.sublist (take_sublist _ _)
  refine⟨u,rv,?_⟩;rcases S.par y (mem_of_getElem? hp) with k | k
  ·exact .inl ⟨k,xS ndP hp hu k⟩
  ·obtain⟨c,e⟩:=Di (n:=s.heap.objs.size+1) k;refine .inr ⟨.inl k,c,e,?_⟩;have q:=x.cell y c e;rw[wP ndP hp hu (by show scope.names.lookup y≠_;rw[k];decide)] at q;exact q
 ·exact e0.hok.fresh (Nat.le_of_lt (x.above y c (PySem.mem_of_lookup h)))
 ·unfold start;show _=N.length;rw[List.length_append,length_map,length_replicate];lia
theorem qi7 {K:Frag}{dV kV doc pm cdv ct oc:Value}(lk:K.lookup f=some ⟨oc,od,.func (W.fnOf name qual params body scope dV kV doc pm an cdv ct),osl⟩)(hcd:W.codeIn K cdv qual=true)(S:aR N ps scope)(len:∀vs H Q E,sp vs H Q E->vs.length=ps.length)(hbody:∀(A:Around) (outer:List Env) (s:Shared) (H:Hp) (vs:List V) (Q:VK) (E:XK),hZ k (A.deeper (envOfC qual scope s.heap.objs.size f cdv))->sp vs H Q E->
   ∃t,PSs (Fu CX P w K mg base N qual scope f cdv A outer s H E) body t/\t { nx:=fun _ H'=>Q .non H',rt:=Q } (start N vs) H):
  aL P w K mg base CX (k+1) f (W.fnOf name qual params body scope dV kV doc pm an cdv ct) ps sp:=by
 refine⟨len,fun A outer s H args us vs Q E hr e0 hb r hsp=>?_⟩;have hl:=len _ _ _ _ hsp;have KX:K.In s.heap:=e0.mod.kin.keeps fun b o e=>(e0.bs b o e).1;have lim:s.heap.NoLimit:=e0.mod.nolimit.keeps fun b o e=>(e0.bs b o e).1;have hkind:∀y∈ps.zip us,scope.names.lookup y.1=some .local\/(scope.names.lookup y.1=some .cell/\((cellsFrom (s.heap.objs.size+1) scope.names []).lookup y.1).isSome=true):=fun ⟨n,v⟩ hy=>by
  rcases S.par n (of_mem_zip hy).1 with q | q
  ·exact .inl q
  ·exact .inr ⟨q,W.cellsFrom_some _ _ _ (.inl q)⟩
 refine codeAny_call_function hr.depth (KX _ _ lk) rfl S.co S.gen rfl (W.codeRec_of KX hcd) (hb _ _ _ _ ?_);refine wpAny_newFunctionEnv_cells S.kind hkind fun env he s1 x=>?_;subst he;refine⟨lim.keeps x.toInCall.keep,codeAny_func ?_⟩;obtain⟨t,ht,hq⟩:=hbody A outer s H vs Q E (hr.deeper _) hsp;have I:Inv (Fu CX P w K mg base N qual scope f cdv A outer s H E) [] (start N vs) H s1:=Lb S hr.hd e0 hl r x;refine wpAny_mono (ht [] s1 (start N vs) H _ I hq) (fun fl s' hs=>?_) fun e s' hs=>hs;have fin:∀{σ':St} {H':Hp} {v:V} {u:Value},Inv (Fu CX P w K mg base N qual scope f cdv A outer s H E) [] σ' H' s'->cH v u->Q v H'->CE outer P w H s Q u s':=
  fun {σ' H' v u} J rv q=>⟨v,H',J.os,J.bare,J.base,J.hok,rv,q⟩
 cases fl with
 |ret u=>
  obtain⟨v,σ',H',J,rv,q⟩:=hs;exact fin J rv q
 |next=>
  obtain⟨σ',H',J,q⟩:=hs;exact fin (v:=V.non) (u:=Value.none) J rfl q
 |brk=>
  obtain⟨_,_,_,q⟩:=hs;exact False.elim q
 |cont=>
  obtain⟨_,_,_,q⟩:=hs;exact False.elim q
section
variable {X:Cx} {x:Str} {p pos:Pos} {e:Expr} {es:List Expr} {t:TA} {id T:String} {r:List V->Hp->VK->Prop}
def tCB (r:List V->Hp->VK->Prop)(t:TA):TE:=fun σ H Q=>t σ H fun vs H1=>r vs H1 Q
theorem bZ (hc:vL X (.builtin id) r)(hg:Gl X x)(hm:X.mg x=none)(hv:bootBuiltins x=some (.builtin id))(ha:PA X (e :: es) t)(hn:x≠"__name__":=by decide)(hdb:(x == ("__debug__":Str))=false:=by decide)(he:starEach (e :: es) X.env=(false,eval e X.env) :: starEach es X.env:=by rfl)(hpl:(backTo pos (starEach es X.env)).any (·.1)=false:=by rfl):PE X (.Call (.Name x p) (e :: es) [] pos) (tCB r t):=by
 intro pins s σ H Q I h;refine wpAny_Call_Name_kw (kE I hg hm hv ?_ hn hdb);exact PyProof.Rows.callWith_builtin1 (thn (ha pos pins s σ H _ I h) fun us s1 ⟨vs,H1,I1,r1,q1⟩=>hc pins s1 σ H1 vs us Q I1 r1 q1) he hpl
theorem jW (hc:vL X (.type T) r)(hg:Gl X x)(hm:X.mg x=none)(hv:bootBuiltins x=some (.type T))(ha:PA X (e :: es) t)(hn:x≠"__name__":=by decide)(hdb:(x == ("__debug__":Str))=false:=by decide)(he:starEach (e :: es) X.env=(false,eval e X.env) :: starEach es X.env:=by rfl)(hpl:(backTo pos (starEach es X.env)).any (·.1)=false:=by rfl):PE X (.Call (.Name x p) (e :: es) [] pos) (tCB r t):=by
 intro pins s σ H Q I h;refine wpAny_Call_Name_kw (kE I hg hm hv ?_ hn hdb);exact PyProof.Rows.callWith_type1 (thn (ha pos pins s σ H _ I h) fun us s1 ⟨vs,H1,I1,r1,q1⟩=>hc pins s1 σ H1 vs us Q I1 r1 q1) he hpl
end
end L2
namespace HT
open PySem PyProof.Rows
section
variable {prog:Program} {w:World} {A:Around} {E:Value->Shared->Prop} {s:Shared}
theorem cat_tup (ht:IsTup s.heap t vs.toArray)(hb:IsTup s.heap b ws.toArray)(hv:vs≠[])(h1:ws=[]->Q (.ref t) s)(h2:ws≠[]->Q (.ref s.heap.objs.size) { s with heap:=s.heap.push { cls:=.type "tuple",data:=.seq (vs++ws).toArray } })(hsz:vs.length+ws.length<=sizeLine):wpAny (model prog w) A (binaryOp .Add (.ref t) (.ref b)) Q E s:=by
 obtain⟨⟨cls,dd,data,sl⟩,ho,hc,n,hd⟩:=id ht;obtain⟨⟨cls2,dd2,data2,sl2⟩,ho2,hc2,n2,hd2⟩:=id hb;simp only at hc hd hc2 hd2;subst hc hd hc2 hd2;have e:vs.toArray++ws.toArray=(vs++ws).toArray:=by simp
 by_cases hw:ws=[]
 ·exact concat_meets ⟨_,ho,rfl⟩ ⟨_,ho2,rfl⟩ noFill_tuple_add seq_tuple_add PySem.F.slot_tuple_add PySem.F.entry_tuple_add (PySem.F.args_tuple_add_2 _ _)
   (tuple_addW1 t b vs.toArray ws.toArray n n2 dd dd2 sl sl2 (by simpa using hv) (by simp[hw])) ⟨ho,ho2,h1 hw⟩
 ·refine concat_meets ⟨_,ho,rfl⟩ ⟨_,ho2,rfl⟩ noFill_tuple_add seq_tuple_add PySem.F.slot_tuple_add PySem.F.entry_tuple_add (PySem.F.args_tuple_add_2 _ _)
   (tuple_addW2 t b vs.toArray ws.toArray n n2 dd dd2 sl sl2 (by simpa using hv) (by simpa using hw) (by rw[size_toArray,size_toArray];exact hsz)) ⟨ho,ho2,?_⟩
  rw[e];exact h2 hw
def sIx (n d:Nat):Option Int->Nat
 |none=>d
 |some v=>if v < 0 then (v+(n:Int)).toNat else min v.toNat n
theorem sIx_nat (n d k:Nat):sIx n d (some (k:Int))=min k n:=by
 show (if (k:Int) < 0 then ((k:Int)+(n:Int)).toNat else min (k:Int).toNat n)=min k n;rw[if_neg (by lia),Int.toNat_natCast]
theorem Yn (n d:Nat)(hd:d<=n)(o:Option Int):sIx n d o<=n:=by
 cases o with
 |none=>exact hd
 |some v=>
  show (if v < 0 then (v+(n:Int)).toNat else min v.toNat n)<=n
  by_cases hv:v < 0
  ·rw[if_pos hv];lia
  ·rw[if_neg hv];exact Nat.min_le_right _ _
theorem Jt (v:Int)(n d:Nat):(if v < 0 then max (v+(n:Int)) 0 else min v (n:Int))=((sIx n d (some v):Nat):Int):=by
 show (if v < 0 then max (v+(n:Int)) 0 else min v (n:Int))=(((if v < 0 then (v+(n:Int)).toNat else min v.toNat n):Nat):Int)
 by_cases hv:v < 0
 ·simp only[if_pos hv];lia
 ·simp only[if_neg hv];lia
theorem Gr (lo hi:Option Int)(n:Nat):Builtin.Slice.sliceAdjust lo hi 1 (n:Int)=(((sIx n 0 lo:Nat):Int),((sIx n n hi:Nat):Int)):=by
 have h1:¬((1:Int) < 0):=by lia
 unfold Builtin.Slice.sliceAdjust;simp only[h1,if_false];refine Prod.ext ?_ ?_
 ·cases lo with
  |none=>rfl
  |some v=>exact Jt v n 0
 ·cases hi with
  |none=>rfl
  |some v=>exact Jt v n n
theorem Fx (i j:Nat):Builtin.Slice.slicePlaces (i:Int) (j:Int) 1=j - i:=by
 unfold Builtin.Slice.slicePlaces;have h1:(1:Int) > 0:=by lia
 simp only[h1,if_true,Int.ediv_one];split<;>lia
theorem vT (p:IsPart v o)(h:Q o s):wpAny (model prog w) A (Builtin.Slice.slicePartIndex v) Q E s:=by
 cases p with
 |none=>exact slicePart_none h
 |int i t=>exact slicePart_int h
theorem qG {lo hi:Option Int}{n:Nat}(hs:s.heap.IsSliceOf sl vl vu .none)(pl:IsPart vl lo)(pu:IsPart vu hi)(h:Q (((sIx n 0 lo:Nat):Int),1,sIx n n hi - sIx n 0 lo) s):wpAny (model prog w) A (Builtin.Slice.sliceApplied (.ref sl) (pure (n:Int))) Q E s:=by
 obtain⟨os,hos,hcs,hds⟩:=id hs;unfold Builtin.Slice.sliceApplied Builtin.Slice.sliceFields;refine wpAny_bind (wpAny_bind (wpAny_field hos hds (x:=vl) rfl (wpAny_bind (wpAny_field hos hds (x:=vu) rfl (wpAny_bind (wpAny_field hos hds (x:=.none) rfl (wpAny_pure ?_)))))));refine wpAny_bind (slicePart_none ?_);show wpAny _ _ (if ((1:Int) == 0)=true then _ else _) _ _ s;rw[if_neg (by decide)];refine wpAny_bind (vT pl (wpAny_bind (vT pu (wpAny_bind (wpAny_pure ?_)))));show wpAny _ _ (match Builtin.Slice.sliceAdjust lo hi 1 (n:Int) with | (lo,hi)=>pure (lo,(1:Int),Builtin.Slice.slicePlaces lo hi 1)) _ _ s;rw[Gr lo hi n];show wpAny _ _ (pure (((sIx n 0 lo:Nat):Int),(1:Int),Builtin.Slice.slicePlaces ((sIx n 0 lo:Nat):Int) ((sIx n n hi:Nat):Int) 1)) _ _ s;rw[Fx];exact wpAny_pure h
theorem Se (xs:Array Value)(i k:Nat):((List.range k).filterMap fun (m:Nat)=>xs[((i:Int)+(m:Int)*1).toNat]?).toArray=((xs.toList.drop i).take k).toArray:=by
 have e:(fun (m:Nat)=>xs[((i:Int)+(m:Int)*1).toNat]?)=fun m=>xs[i+m]?:=by
  funext m
  have:((i:Int)+(m:Int)*1).toNat=i+m:=by lia
  rw[this]
 rw[e];have:=pick_run xs i k;rw[filterMap_map] at this;have e2:((fun x=>xs[x]?) ∘ fun x=>i+x)=fun m=>xs[i+m]?:=rfl;rw[e2] at this;rw[this]
theorem getItem_tuple_cut {lo hi:Option Int}(ht:IsTup s.heap t items)(hs:s.heap.IsSliceOf sl vl vu .none)(pl:IsPart vl lo)(pu:IsPart vu hi)(hw:¬(sIx items.size 0 lo=0/\sIx items.size items.size hi=items.size))(h:Q (.ref s.heap.objs.size) { s with heap:=s.heap.push { cls:=.type "tuple",data:=.seq ((items.toList.drop (sIx items.size 0 lo)).take (sIx items.size items.size hi - sIx items.size 0 lo)).toArray } })(hsz:items.size<=sizeLine):wpAny (model prog w) A (getItem (.ref t) (.ref sl)) Q E s:=by
 have htake:sizeOk (.seq ((items.toList.drop (sIx items.size 0 lo)).take (sIx items.size items.size hi - sIx items.size 0 lo)).toArray):=by
  show ((items.toList.drop (sIx items.size 0 lo)).take (sIx items.size items.size hi - sIx items.size 0 lo)).toArray.size<=sizeLine;rw[size_toArray,length_take,length_drop,Array.length_toList];lia
 have hj:sIx items.size items.size hi<=items.size:=Yn _ _ (Nat.le_refl _) hi;obtain⟨os,hos,hcs,hds⟩:=id hs;have hTs:s.TypeIs (.ref sl) "slice":=⟨os,hos,hcs⟩
 unfold getItem
 try with_reducible refine wpAny_holding ?_
 first | refine wpAny_bind (wpAny_pure ?_) | skip
 refine wpAny_bind (wpAny_sequenceKey ht.typeIs (by decide) ?_);refine wpAny_bind (wpAny_callSpecial?_slot (name:=Str.ofString "__getitem__") ht.typeIs PyProof.Rows.slot_tuple_getitem
  (wpAny_call_entry PyProof.Rows.slot_tuple_getitem ht.typeIs entry_tuple_getitem ?_ (args_tuple_getitem _ _)))
 show wpAny _ _ (Builtin.Tuple.tupleItemsOf (.ref t) >>= _) _ _ s;refine wpAny_bind (tupleItemsOf_ ht ?_);refine wpAny_bind (wpAny_typeOf hTs ?_);rw[if_pos (by decide)];refine wpAny_bind (qG hs pl pu ?_);have hno:¬((((sIx items.size 0 lo:Nat):Int) == 0 && (1:Int) == 1 && (sIx items.size items.size hi - sIx items.size 0 lo) == items.size)=true):=by
  intro q;rw[Bool.and_eq_true,Bool.and_eq_true] at q;have q1:((sIx items.size 0 lo:Nat):Int)=0:=eq_of_beq q.1.1;have q2:sIx items.size items.size hi - sIx items.size 0 lo=items.size:=eq_of_beq q.2;exact hw ⟨by lia,by lia⟩
 show wpAny _ _ (if (((sIx items.size 0 lo:Nat):Int) == 0 && (1:Int) == 1 && (sIx items.size items.size hi - sIx items.size 0 lo) == items.size)=true then _ else _) _ _ s;rw[if_neg hno,Se]
 first
  |exact wpAny_bind (m:=Builtin.Tuple.tupleExact _) (wpAny_newObj_type (wpAny_pure ⟨_,rfl,wpAny_pure h⟩) htake)
  |exact wpAny_bind (m:=Builtin.Tuple.tupleExact _) (wpAny_newObj_type (wpAny_bind (wpAny_pure (wpAny_pure ⟨_,rfl,wpAny_pure h⟩))) htake)
  |exact wpAny_bind (wpAny_bind (m:=Builtin.Tuple.tupleExact _) (wpAny_newObj_type (wpAny_pure (wpAny_pure ⟨_,rfl,wpAny_pure h⟩)) htake))
  |exact wpAny_bind (wpAny_bind (m:=Builtin.Tuple.tupleExact _) (wpAny_newObj_type (wpAny_pure ⟨_,rfl,wpAny_pure h⟩) htake))
end
end HT
namespace L2
open PySem PySem.Spec PyProof.Rows
abbrev TO:=St->Hp->(Option Int->Hp->Prop)->Prop
def PO (X:Cx)(e:Option Expr)(t:TO):Prop:=
 ∀(pins:List (Addr × Obj)) (s:Shared) (σ:St) (H:Hp) (Q:Option Int->Hp->Prop),Inv X pins σ H s->t σ H Q->
  wpAny (model X.prog X.w) X.A (evalPart e X.env) (fun u s'=>∃o H',Inv X pins σ H' s'/\IsPart u o/\Q o H') X.xe s
def Tm:TO:=fun _ H Q=>Q none H
def qg5 (t:TE):TO:=fun σ H Q=>t σ H fun x H1=>∃i,x=.int i/\Q (some i) H1
section
variable {X:Cx} {e:Expr} {te:TE} {lo hi:Option Expr} {tl th:TO} {pos p2:Pos}
theorem iF:PO X none Tm:=by
 intro pins s σ H Q I h;rw[evalPart_none];exact wpAny_pure ⟨none,H,I,.none,h⟩
theorem dY (h:PE X e te):PO X (some e) (qg5 te):=by
 intro pins s σ H Q I hw;rw[evalPart_some];refine thn (h pins s σ H _ I hw) fun u s1 ⟨x,H1,I1,r1,q1⟩=>?_;obtain⟨i,rfl,q⟩:=q1;obtain⟨t,rfl⟩:=r1;exact⟨some i,H1,I1,.int i t,q⟩
def SlR (X:Cx)(r:V->Option Int->Option Int->Hp->VK->Prop):Prop:=
 ∀(pins:List (Addr × Obj)) (s:Shared) (σ:St) (H:Hp) (x:V) (v vl vu:Value) (lo hi:Option Int) (sl:Addr) (Q:VK),Inv X pins σ H s->cH x v->s.heap.IsSliceOf sl vl vu .none->IsPart vl lo->IsPart vu hi->r x lo hi H Q->
  ∃T id,typeLookup (.type T) "__getitem__"=pure (some (.builtin id))/\s.TypeIs v T/\wpAny (model X.prog X.w) X.A (getItem v (.ref sl)) (EP X pins σ Q) X.xe s
def tSl (r:V->Option Int->Option Int->Hp->VK->Prop)(te:TE)(tl th:TO):TE:=fun σ H Q=>te σ H fun x H1=>tl σ H1 fun l H2=>th σ H2 fun u H3=>r x l u H3 Q
theorem eO (hr:SlR X r)(he:PE X e te)(hl:PO X lo tl)(hu:PO X hi th):PE X (.Subscript e (.Slice lo hi none p2) pos) (tSl r te tl th):=by
 intro pins s σ H Q I h;refine Subscript_ (thn (he pins s σ H _ I h) fun v s1 ⟨x,H1,I1,r1,q1⟩=>?_);refine wpAny_Slice (thn (hl pins s1 σ H1 _ I1 q1) fun vl s2 ⟨l,H2,I2,pl,q2⟩=>thn (hu pins s2 σ H2 _ I2 q2) fun vu s3 ⟨u,H3,I3,pu,q3⟩=>?_);rw[evalPart_none];refine wpAny_pure ?_;have I4:Inv X pins σ H3 { s3 with heap:=s3.heap.push { cls:=.type "slice",data:=.fields #[vl,vu,.none] } }:=I3.kept (t':=s3.toks) fun b ob q=>Heap.get?_push_of_some _ q;obtain⟨T,id,hT,ht,hg⟩:=hr pins { s3 with heap:=s3.heap.push { cls:=.type "slice",data:=.fields #[vl,vu,.none] } } σ H3 x v vl vu l u s3.heap.objs.size Q I4 r1 (Heap.IsSliceOf.new ..) pl pu q3;show wpAny (model X.prog X.w) X.A (subscriptTail e (.Slice lo hi none p2) v (.ref s3.heap.objs.size)) (EP X pins σ Q) X.xe { s3 with heap:=s3.heap.push { cls:=.type "slice",data:=.fields #[vl,vu,.none] } };exact tail_any (ops:=[.ref s3.heap.objs.size,v]) ht hT hg (by with_unfolding_all rfl)
def iR (xs:List V)(lo hi:Option Int):List V:=(xs.drop (HT.sIx xs.length 0 lo)).take (HT.sIx xs.length xs.length hi - HT.sIx xs.length 0 lo)
theorem rG (xs:List V)(lo hi:Option Int):(iR xs lo hi).length<=xs.length:=by
 unfold iR;exact Nat.le_trans (length_take_le' _ _) (by rw[length_drop];exact Nat.sub_le _ _)
inductive qi2 (K:Frag) (x:V) (lo:Option Int) (hi:Option Int) (H:Hp) (Q:VK):Prop where
 |mk (a xs):x=.ref a->SqT K H a xs->(¬(HT.sIx xs.length 0 lo=0/\HT.sIx xs.length xs.length hi=xs.length))->(∀p,H p=none->Q (.ref p) (upd H p (.tup (iR xs lo hi))))->qi2 K x lo hi H Q
theorem Rx:SlR X (qi2 X.K):=by
 intro pins s σ H x v vl vu lo hi sl Q I rx hs pl pu h;obtain⟨a,xs,rfl,hx,hw,q⟩:=h
 cases rx
 obtain⟨its,r,ht,hz⟩:=I.tuple hx;have hlen:its.toArray.size=xs.length:=by rw[size_toArray];exact r.length.symm
 refine⟨"tuple",_,PyProof.Rows.slot_tuple_getitem.lookup,ht.typeIs,?_⟩;refine HT.getItem_tuple_cut ht hs pl pu (by rw[hlen];exact hw) ?_ (by rw[hlen];exact hz);rw[hlen];refine⟨.ref s.heap.objs.size,_,I.laid (t':=s.toks) (o:=.tup (iR xs lo hi)) (fun b ob q=>Heap.get?_push_of_some _ q) (Nat.le_refl _) ?_,rfl,q _ (I.hok.fresh (Nat.le_refl _))⟩;exact⟨Nat.le_trans (rG xs lo hi) hz,_,(r.drop (HT.sIx xs.length 0 lo)).take (HT.sIx xs.length xs.length hi - HT.sIx xs.length 0 lo),IsTup.new _ _⟩
inductive Xc (K:Frag) (x:V) (y:V) (H:Hp) (Q:VK):Prop where
 |mk (a b xs ys):x=.ref a->y=.ref b->SqT K H a xs->SqT K H b ys->xs≠[]->xs.length+ys.length<=sizeLine->(ys=[]->Q (.ref a) H)->(ys≠[]->∀p,H p=none->Q (.ref p) (upd H p (.tup (xs++ys))))->Xc K x y H Q
theorem cC.nil_iff (r:cC xs us):us=[]↔xs=[]:=by
 cases r with
 |nil=>simp
 |cons _ _=>simp
theorem Wl:OpR X (binaryOp .Add) (Xc X.K):=by
 intro pins s σ H x y v u Q I rx ry h;obtain⟨a,b,xs,ys,rfl,rfl,ha,hb,hx,hz,q1,q2⟩:=h
 cases rx
 cases ry
 obtain⟨its,r1,p1,_⟩:=I.tuple ha;obtain⟨its2,r2,p2,_⟩:=I.tuple hb;refine HT.cat_tup p1 p2 (fun z=>hx (r1.nil_iff.mp z)) (fun z=>⟨.ref a,H,I,rfl,q1 (r2.nil_iff.mp z)⟩) (fun z=>?_) (by rw[<- r1.length,<- r2.length];exact hz);refine⟨.ref s.heap.objs.size,_,I.laid (t':=s.toks) (o:=.tup (xs++ys)) (fun b ob q=>Heap.get?_push_of_some _ q) (Nat.le_refl _) ?_,rfl,q2 (fun w=>z (r2.nil_iff.mpr w)) _ (I.hok.fresh (Nat.le_refl _))⟩;exact⟨by rw[List.length_append];exact hz,_,r1.append r2,IsTup.new _ _⟩
end
def ixN (n:Nat)(i:Int):Option Nat:=if 0<=i then (if i < n then some i.toNat else none) else if -(n:Int)<=i then some (i+n).toNat else none
def atI {α:Type}(xs:List α)(i:Int):Option α:=(ixN xs.length i).bind fun j=>xs[j]?
theorem Jk (h:ixN n i=some j):seqIndex? i n=some j/\j < n/\-(n:Int)<=i/\i < n:=by
 unfold ixN at h
 by_cases h0:0<=i
 ·rw[if_pos h0] at h
  by_cases h1:i < n
  ·rw[if_pos h1] at h;have e:i.toNat=j:=Option.some.inj h;exact⟨by rw[seqIndex_of h0 h1,e],by lia,by lia,h1⟩
  ·rw[if_neg h1] at h;cases h
 ·rw[if_neg h0] at h
  by_cases h1:-(n:Int)<=i
  ·rw[if_pos h1] at h;have e:(i+n).toNat=j:=Option.some.inj h;exact⟨by rw[seqIndex_neg (by lia) h1,e],by lia,h1,by lia⟩
  ·rw[if_neg h1] at h;cases h
theorem Ju (h:atI xs i=some v):∃j,seqIndex? i xs.length=some j/\xs[j]?=some v/\j < xs.length/\-(xs.length:Int)<=i/\i < xs.length:=by
 unfold atI at h
 cases e:ixN xs.length i with
 |none=>rw[e] at h;cases h
 |some j=>
  rw[e] at h;obtain⟨h1,h2,h3,h4⟩:=Jk e;exact⟨j,h1,h,h2,h3,h4⟩
theorem bX {xs:List α}{j:Nat}{v:α}(h:xs[j]?=some v):atI xs (j:Int)=some v:=by
 have hj:j < xs.length:=(List.getElem?_eq_some_iff.mp h).1;have e:ixN xs.length (j:Int)=some j:=by
  unfold ixN;rw[if_pos (by lia),if_pos (by lia)];simp
 unfold atI;rw[e];exact h
def Ug (b:Expr):Prop:=∀o i,subscripted b false o i=operate [o,i] (getItem o i)
def IxR (X:Cx)(r:R2):Prop:=
 ∀(value slice:Expr) (pins:List (Addr × Obj)) (s:Shared) (σ:St) (H:Hp) (x y:V) (v u:Value) (Q:VK),Inv X pins σ H s->cH x v->cH y u->r x y H Q->
  subscripted slice false v u=operate [v,u] (getItem v u)->wpAny (model X.prog X.w) X.A (subscriptTail value slice v u) (EP X pins σ Q) X.xe s
def MtR (X:Cx)(id:String)(r:V->List V->Hp->VK->Prop):Prop:=
 ∀(pins:List (Addr × Obj)) (s:Shared) (σ:St) (H:Hp) (x:V) (xs:List V) (v:Value) (us:List Value) (Q:VK),Inv X pins σ H s->cH x v->cC xs us->r x xs H Q->
  wpAny (model X.prog X.w) X.A (call (.builtin id) (v :: us)) (EP X pins σ Q) X.xe s
section
variable {X:Cx} {a b:Expr} {ta tb:TE} {pos:Pos}
theorem aQ (hr:IxR X r)(ha:PE X a ta)(hb:PE X b tb)(hs:Ug b):PE X (.Subscript a b pos) (tOp r ta tb):=by
 intro pins s σ H Q I h;exact Subscript_ (qa3 ha hb I h fun v u s2 x y H2 I2 rx ry q=>hr a b pins s2 σ H2 x y v u Q I2 rx ry q (hs _ _))
inductive Ys (K:Frag) (x:V) (y:V) (H:Hp) (Q:VK):Prop where
 |mk (p xs i v):x=.ref p->y=.int i->SqL K H p xs->atI xs i=some v->Q v H->Ys K x y H Q
inductive Ov (K:Frag) (x:V) (y:V) (H:Hp) (Q:VK):Prop where
 |mk (p xs i v):x=.ref p->y=.int i->SqT K H p xs->atI xs i=some v->Q v H->Ov K x y H Q
theorem bG:IxR X (Ys X.K):=by
 intro value slice pins s σ H x y v u Q I rx ry h hs;obtain⟨p,xs,i,z,rfl,rfl,hq,he,q⟩:=h
 cases rx
 obtain⟨t,rfl⟩:=ry;obtain⟨its,r,pl,hz⟩:=I.list hq;obtain⟨j,h1,h2,h3,h4,h5⟩:=Ju he;obtain⟨w,ew,rw'⟩:=r.get h2;have hl:=r.length;have hn:=zS;have fin:EP X pins σ Q w s:=⟨z,H,I,rw',q⟩
 by_cases h0:0<=i
 ·have hj:i.toNat=j:=by
   rw[seqIndex_of h0 h5] at h1;exact Option.some.inj h1
  exact item_listR pl.isList h0 (by lia) (by rw[hj];simpa using ew) fin hs
 ·have hj:(i+(its.toArray.size:Int)).toNat=j:=by
   rw[seqIndex_neg (by lia) h4] at h1;rw[size_toArray,<- hl];exact Option.some.inj h1
  exact subscriptTail_builtinR (x:=w) pl.isList.typeIs slot_list_getitem.lookup
   (wpAny_getItem_list_neg (Q:=fun r s'=>r=w/\EP X pins σ Q r s') pl.isList (by lia) (by rw[size_toArray]<;>lia) (by lia) (by rw[hj];simpa using ew) ⟨rfl,fin⟩) hs
theorem aT:IxR X (Ov X.K):=by
 intro value slice pins s σ H x y v u Q I rx ry h hs;obtain⟨p,xs,i,z,rfl,rfl,hq,he,q⟩:=h
 cases rx
 obtain⟨t,rfl⟩:=ry;obtain⟨its,r,pl,hz⟩:=I.tuple hq;obtain⟨j,h1,h2,h3,h4,h5⟩:=Ju he;obtain⟨w,ew,rw'⟩:=r.get h2;have hl:=r.length;have hn:=zS;have fin:EP X pins σ Q w s:=⟨z,H,I,rw',q⟩
 exact subscriptTail_builtinR (x:=w) pl.typeIs slot_tuple_getitem.lookup
  (getItem_tuple (j:=j) (Q:=fun r s'=>r=w/\EP X pins σ Q r s') pl (by lia) (by lia) (by rw[size_toArray,<- hl];exact h1) (by simpa using ew) ⟨rfl,fin⟩) hs
theorem Dy (its:List Value)(n j:Nat)(u:Value):Obj.mapSeq (·.setIfInBounds j u) { cls:=.type "list",data:=.seq its.toArray n }={ cls:=.type "list",data:=.seq (its.set j u).toArray n }:=by
 simp[Obj.mapSeq]
theorem Inv.lst (I:Inv X pins σ H s)(h:H p=some (.lst xs)):
  ∃(its:List Value) (n:Nat),cC xs its/\s.heap.get? p=some { cls:=.type "list",data:=.seq its.toArray n }/\xs.length<=sizeLine:=by
 obtain⟨z,its,n,r,e⟩:=I.hok p _ h;exact⟨its,n,r,e,z⟩
theorem Inv.lstUpd {its its':List Value}(I:Inv X pins σ H s)(h:H p=some (.lst xs))(ho:s.heap.get? p=some { cls:=.type "list",data:=.seq its.toArray n })(hf:f { cls:=.type "list",data:=.seq its.toArray n }={ cls:=.type "list",data:=.seq its'.toArray n' })(r:cC ys its')(hz:ys.length<=sizeLine)(t:Nat):
  Inv X pins σ (upd H p (.lst ys)) { s with heap:=s.heap.update p f,toks:=t }:=by
 have e:(s.heap.update p f).get? p=some { cls:=.type "list",data:=.seq its'.toArray n' }:=by
  rw[Heap.get?_update_self f ho (by rw[hf]<;>rfl),hf]
 refine I.write (x:=p) (e:=p) (by rw[h];trivial) (.inl rfl) (fun b u hb q=>(Heap.get?_update_other _ _ (Ne.symm hb)).trans q) ⟨_,e⟩ ?_;exact⟨hz,its',n',r,e⟩
def qh0:V->V->V->Hp->(Hp->Prop)->Prop:=fun o i v H Q=>∃p xs k j,o=.ref p/\i=.int k/\H p=some (.lst xs)/\ixN xs.length k=some j/\Q (upd H p (.lst (xs.set j v)))
theorem jC:qf1 X qh0:=by
 intro pins s σ H o i v ov iv u Q I ro ri rv h;obtain⟨p,xs,k,j,rfl,rfl,hp,hj,q⟩:=h
 cases ro
 obtain⟨t,rfl⟩:=ri;obtain⟨its,n,r,ho,hz⟩:=I.lst hp;obtain⟨h1,h2,h3,h4⟩:=Jk hj;have hl:=r.length;have hn:=zS;have I':Inv X pins σ (upd H p (.lst (xs.set j v))) { s with heap:=s.heap.update p (Obj.mapSeq (·.setIfInBounds j u)) }:=
  I.lstUpd hp ho (Dy its n j u) (r.set rv j) (by rw[length_set];exact hz) s.toks
 by_cases h0:0<=k
 ·have hk:k.toNat=j:=by
   rw[seqIndex_of h0 h4] at h1;exact Option.some.inj h1
  exact W.ki_setAt ho h0 (by lia) (by rw[size_toArray,<- hl];exact h4) (by rw[hk];exact⟨_,I',q⟩)
 ·have hk:(k+(its.toArray.size:Int)).toNat=j:=by
   rw[seqIndex_neg (by lia) h3] at h1;rw[size_toArray,<- hl];exact Option.some.inj h1
  exact W.ki_setBack ho (by lia) (by rw[size_toArray,<- hl];exact h3) (by lia) (by rw[hk];exact⟨_,I',q⟩)
theorem sbA (lo hi:Option Int)(n:Nat):(sliceBounds lo hi none n).1=((HT.sIx n 0 lo:Nat):Int):=by
 cases lo with
 |none=>simp[sliceBounds,HT.sIx]
 |some i=>
  simp only[sliceBounds,HT.sIx,Option.getD_none,show (1:Int) > 0 by decide,if_true]
  by_cases h:i < 0
  ·simp only[h,if_true]<;>lia
  ·simp only[h,if_false]<;>lia
theorem zH (lo hi:Option Int)(n:Nat):(sliceBounds lo hi none n).1=((HT.sIx n 0 lo:Nat):Int)/\(sliceBounds lo hi none n).2.1=((HT.sIx n n hi:Nat):Int)/\(sliceBounds lo hi none n).2.2=1:=by
 refine⟨sbA lo hi n,?_,rfl⟩
 cases hi with
 |none=>simp[sliceBounds,HT.sIx]
 |some i=>exact sbA (some i) lo n
theorem wK (its:List Value)(lo hi:Option Int):slicePick its.toArray lo hi none=((its.drop (HT.sIx its.length 0 lo)).take (HT.sIx its.length its.length hi - HT.sIx its.length 0 lo)).toArray:=by
 obtain⟨h1,h2,h3⟩:=zH lo hi its.toArray.size;unfold slicePick;rw[h1,h2,h3];simp only[sliceRange_one,pick_run,size_toArray]<;>rfl
inductive Tq (K:Frag) (x:V) (lo:Option Int) (hi:Option Int) (H:Hp) (Q:VK):Prop where
 |mk (a xs):x=.ref a->SqL K H a xs->(∀p,H p=none->Q (.ref p) (upd H p (.lst (iR xs lo hi))))->Tq K x lo hi H Q
theorem gK:SlR X (Tq X.K):=by
 intro pins s σ H x v vl vu lo hi sl Q I rx hs pl pu h;obtain⟨a,xs,rfl,hx,q⟩:=h
 cases rx
 obtain⟨its,r,ht,hz⟩:=I.list hx;have hlen:=r.length;refine⟨"list",_,slot_list_getitem.lookup,ht.isList.typeIs,?_⟩;refine wpAny_getItem_list_slice ht.isList hs pl pu .none (by simp) ?_ (by rw[size_toArray]<;>lia);rw[wK,<- hlen];refine⟨.ref s.heap.objs.size,_,I.laid (t':=s.toks) (o:=.lst (iR xs lo hi)) (fun b ob q=>Heap.get?_push_of_some _ q) (Nat.le_refl _) ?_,rfl,q _ (I.hok.fresh (Nat.le_refl _))⟩;exact⟨Nat.le_trans (rG xs lo hi) hz,_,0,(r.drop (HT.sIx xs.length 0 lo)).take (HT.sIx xs.length xs.length hi - HT.sIx xs.length 0 lo),Heap.get?_push_size _ rfl⟩
def jJ:V->Bool
 | .non=>true
 | .bl _=>true
 | .int _=>true
 | .str _=>true
 |_=>false
def eqV:V->V->Bool
 | .non,.non=>true
 | .bl a,.bl b=>a == b
 | .bl a,.int b=>(if a then 1 else 0) == b
 | .int a,.bl b=>a == (if b then 1 else 0)
 | .int a,.int b=>a == b
 | .str a,.str b=>a == b
 |_,_=>false
theorem qb2 (ry:cH y u)(rx:cH x v)(fy:jJ y=true)(fx:jJ x=true):SeqAt.EqAt A s u v (eqV y x):=by
 cases y with
 |non=>
  cases ry
  cases x with
  |non=>cases rx;exact SeqAt.EqAt.same _
  |bl b=>cases rx;exact SeqAt.EqAt.none_bool b
  |int b=>obtain⟨t,rfl⟩:=rx;exact SeqAt.EqAt.none_int b t
  |str b=>obtain⟨t,rfl⟩:=rx;exact SeqAt.EqAt.none_str b t
  |_=>exact absurd (show false=true from fx) Bool.false_ne_true
 |bl a=>
  cases ry
  cases x with
  |non=>cases rx;exact SeqAt.EqAt.bool_none a
  |bl b=>cases rx;exact SeqAt.EqAt.bool_bool a b
  |int b=>obtain⟨t,rfl⟩:=rx;exact SeqAt.EqAt.bool_int a b t
  |str b=>obtain⟨t,rfl⟩:=rx;exact SeqAt.EqAt.bool_str a b t
  |_=>exact absurd (show false=true from fx) Bool.false_ne_true
 |int a=>
  obtain⟨t',rfl⟩:=ry
  cases x with
  |non=>cases rx;exact SeqAt.EqAt.int_none a t'
  |bl b=>cases rx;exact SeqAt.EqAt.int_bool a t' b
  |int b=>obtain⟨t,rfl⟩:=rx;exact SeqAt.EqAt.int_int a t' b t
  |str b=>obtain⟨t,rfl⟩:=rx;exact SeqAt.EqAt.int_str a t' b t
  |_=>exact absurd (show false=true from fx) Bool.false_ne_true
 |str a=>
  obtain⟨t',rfl⟩:=ry
  cases x with
  |non=>cases rx;exact SeqAt.EqAt.str_none a t'
  |bl b=>cases rx;exact SeqAt.EqAt.str_bool a t' b
  |int b=>obtain⟨t,rfl⟩:=rx;exact SeqAt.EqAt.str_int a t' b t
  |str b=>obtain⟨t,rfl⟩:=rx;exact SeqAt.EqAt.str_str a t' b t
  |_=>exact absurd (show false=true from fx) Bool.false_ne_true
 |_=>exact absurd (show false=true from fy) Bool.false_ne_true
def eqU (x:V)(u:Value):Bool:=match u with
 | .none=>eqV .non x
 | .bool b=>eqV (.bl b) x
 | .int i _=>eqV (.int i) x
 | .str z _=>eqV (.str z) x
 |_=>false
theorem Nx (r:cH y u)(f:jJ y=true):eqU x u=eqV y x:=by
 cases y with
 |non=>cases r;rfl
 |bl b=>cases r;rfl
 |int i=>obtain⟨t,rfl⟩:=r;rfl
 |str z=>obtain⟨t,rfl⟩:=r;rfl
 |_=>exact absurd (show false=true from f) Bool.false_ne_true
theorem Ao:∀{xs:List V} {us:List Value},cC xs us->xs.all jJ=true->us.any (eqU x)=xs.any fun y=>eqV y x
 |_,_,.nil,_=>rfl
 |y :: xs,u :: us,.cons r t,f=>by
  rw[all_cons,Bool.and_eq_true] at f;rw[any_cons,any_cons,Nx r f.1,Ao t f.2]
theorem vQ (rx:cH x v)(fx:jJ x=true):∀{xs:List V} {us:List Value},cC xs us->xs.all jJ=true->∀u∈us,SeqAt.EqAt A s u v (eqU x u)
 |_,_,.nil,_=>fun u hu=>by cases hu
 |y :: xs,u :: us,.cons r t,f=>fun u' hu=>by
  rw[all_cons,Bool.and_eq_true] at f;rcases mem_cons.mp hu with rfl | hu
  ·rw[Nx r f.1];exact qb2 r rx f.1 fx
  ·exact vQ rx fx t f.2 u' hu
def inV (x:V)(xs:List V):Bool:=xs.any fun y=>eqV y x
inductive rIn (K:Frag) (neg:Bool) (x:V) (y:V) (H:Hp) (Q:VK):Prop where
 |mk (p xs):y=.ref p->(SqL K H p xs\/SqT K H p xs)->jJ x=true->xs.all jJ=true->Q (.bl (if neg then !inV x xs else inV x xs)) H->rIn K neg x y H Q
theorem qZ:OpR X (compareOp .In) (rIn X.K false):=by
 intro pins s σ H x y v u Q I rx ry h;obtain⟨p,xs,rfl,hq,fx,fs,q⟩:=h
 cases ry
 rcases hq with hq | hq
 ·obtain⟨its,r,pl,hz⟩:=I.list hq;refine SeqAt.in_listAt (eqU x) pl.isList (fun w hw=>vQ rx fx r fs w (by simpa using hw)) ⟨.bl _,H,I,rfl,?_⟩;rw[show its.toArray.any (eqU x)=its.any (eqU x) by simp,Ao r fs];exact q
 ·obtain⟨its,r,pl,hz⟩:=I.tuple hq;refine SeqAt.in_tupleAt (eqU x) pl (fun w hw=>vQ rx fx r fs w (by simpa using hw)) ⟨.bl _,H,I,rfl,?_⟩;rw[show its.toArray.any (eqU x)=its.any (eqU x) by simp,Ao r fs];exact q
theorem bL:vL X (.builtin "len") (fun xs H Q=>∃p ys,xs=[.ref p]/\(SqL X.K H p ys\/SqT X.K H p ys)/\Q (.int ys.length) H):=by
 intro pins s σ H xs us Q I r h;obtain⟨p,ys,rfl,hq,q⟩:=h;obtain⟨u,rfl,rx⟩:=Dl r
 cases rx
 have hn:=zS;rcases hq with hq | hq
 ·obtain⟨its,r',pl,hz⟩:=I.list hq;have hlen:=r'.length;exact Calls.call_len_list pl.isList (by simp only[size_toArray]<;>lia) ⟨.int ys.length,H,I.tok _,⟨s.toks+1,by rw[size_toArray,hlen]⟩,q⟩
 ·obtain⟨its,r',pl,hz⟩:=I.tuple hq;have hlen:=r'.length;exact len_tuple pl (by simp only[size_toArray]<;>lia) ⟨.int ys.length,H,I.tok _,⟨s.toks+1,by rw[size_toArray,hlen]⟩,q⟩
theorem gW:vL X (.type "list") (fun xs H Q=>∃p ys,xs=[.ref p]/\(SqL X.K H p ys\/SqT X.K H p ys)/\∀l,H l=none->Q (.ref l) (upd H l (.lst ys))):=by
 intro pins s σ H xs us Q I r h;obtain⟨p,ys,rfl,hq,q⟩:=h;obtain⟨u,rfl,rx⟩:=Dl r
 cases rx
 have fin:∀(its:List Value),cC ys its->ys.length<=sizeLine->∀(h':Heap) (c':Nat),(∀b o',s.heap.get? b=some o'->h'.get? b=some o')->
   h'.get? s.heap.objs.size=some { cls:=.type "list",dict:=none,data:=.seq its.toArray c',slots:=#[] }->EP X pins σ Q (.ref s.heap.objs.size) { s with heap:=h' }:=fun its r' hz h' c' kp e=>
  ⟨.ref s.heap.objs.size,_,I.laid (t':=s.toks) kp (Nat.le_refl _) (show eP X.prog X.w _ h' _ (.lst ys) from ⟨hz,its,c',r',e⟩),rfl,q _ (I.hok.fresh (Nat.le_refl _))⟩
 rcases hq with hq | hq
 ·obtain⟨its,r',pl,hz⟩:=I.list hq;have hlen:=r'.length;obtain⟨o,ho,hc,n,hd⟩:=pl.isList;exact call_list_seq p (.inl rfl) ho hc hd (fun h' c' kp e=>fin its r' hz h' c' kp e) (by simp only[size_toArray]<;>lia)
 ·obtain⟨its,r',pl,hz⟩:=I.tuple hq;have hlen:=r'.length;obtain⟨o,ho,hc,n,hd⟩:=pl;exact call_list_seq p (.inr rfl) ho hc hd (fun h' c' kp e=>fin its r' hz h' c' kp e) (by simp only[size_toArray]<;>lia)
def tyV (K:Frag)(T:String)(x:V)(H:Hp):Prop:=match x with
 | .str _=>T = "str"
 | .int _=>T = "int"
 | .ref p=>(T = "list"/\∃xs,SqL K H p xs)\/(T = "tuple"/\∃o,K.lookup p=some o/\o.cls=.type "tuple"/\o.dict=none)\/
   (T = "dict"/\((∃kvs,H p=some (.dK kvs))\/∃kvs,H p=some (.dT kvs)))\/(T = "set"/\∃S n,H p=some (.set S n))
 |_=>False
theorem Ro (I:Inv X pins σ H s)(r:cH x v)(ty:tyV X.K T x H):
  s.TypeIs v T/\∀a,v=.ref a->∃ob,s.heap.get? a=some ob/\ob.dict=none:=by
 cases x with
 |str z=>
  obtain⟨t,rfl⟩:=r
  cases (show T = "str" from ty)
  exact⟨typeIs_str s z t,fun _ e=>nomatch e⟩
 |int i=>
  obtain⟨t,rfl⟩:=r
  cases (show T = "int" from ty)
  exact⟨typeIs_int s i t,fun _ e=>nomatch e⟩
 |ref p=>
  cases r
  rcases ty with ⟨rfl,xs,hq⟩ | ⟨rfl,o,hk,hc,hd⟩ | ⟨rfl,hk⟩ | ⟨rfl,S,n,hk⟩
  ·obtain⟨its,_,pl,_⟩:=I.list hq;refine⟨pl.isList.typeIs,fun a e=>?_⟩
   cases e
   obtain⟨o,n,e,c,hd,_⟩:=pl;exact⟨o,e,hd⟩
  ·refine⟨⟨o,I.kIn p o hk,hc⟩,fun a e=>?_⟩
   cases e
   exact⟨o,I.kIn _ o hk,hd⟩
  ·have z:∃o,s.heap.get? p=some o/\o.ExactDict:=by
    rcases hk with ⟨kvs,hk⟩ | ⟨kvs,hk⟩
    ·obtain⟨_,_,_,_,o,_,_,e,ex,_⟩:=I.hok p _ hk;exact⟨o,e,ex⟩
    ·obtain⟨_,_,_,_,o,_,_,e,ex,_⟩:=I.hok p _ hk;exact⟨o,e,ex⟩
   obtain⟨o,e,ex⟩:=z;refine⟨⟨o,e,ex.1⟩,fun a e2=>?_⟩
   cases e2
   exact⟨o,e,ex.2.1⟩
  ·obtain⟨o,_,_,_,e,ex,_⟩:=I.hok p _ hk;refine⟨⟨o,e,ex.1⟩,fun a e2=>?_⟩
   cases e2
   exact⟨o,e,ex.2.1⟩
 |_=>exact False.elim ty
def ql0 (K:Frag)(T:String)(r:V->List V->Hp->VK->Prop)(to:TE):TE:=fun σ H Q=>to σ H fun x H1=>tyV K T x H1/\r x [] H1 Q
def tBM (K:Frag)(T:String)(r:V->List V->Hp->VK->Prop)(to:TE)(t:TA):TE:=fun σ H Q=>to σ H fun x H1=>tyV K T x H1/\t σ H1 fun xs H2=>r x xs H2 Q
variable {o e:Expr} {es:List Expr} {to:TE} {t:TA} {name:Str} {apos cpos:Pos} {T id:String} {r:V->List V->Hp->VK->Prop}
theorem Xg (pa:PlainAttrs T)(slot:Slot T name id)(hty:typeOf (.builtin id)=pure (.type "method_descriptor"))(hm:MtR X id r)(ho:PE X o to)(hbase:attributeBase o name X.env (eval o X.env)=eval o X.env:=by rfl)(hline:(apos.endLine == cpos.line)=true:=by rfl):PE X (.Call (.Attribute o name apos) [] [] cpos) (ql0 X.K T r to):=by
 intro pins s σ H Q I h;refine wpAny_Call_method0_late hbase hline (thn (ho pins s σ H _ I h) fun v s1 ⟨x,H1,I1,r1,ty,q1⟩=>?_);obtain⟨h1,h2⟩:=Ro I1 r1 ty;exact⟨T,id,pa,slot,hty,h1,h2,Calls.callWith_builtin rfl (PySem.evalArgs_none (hm pins s1 σ H1 x [] v [] Q I1 r1 .nil q1))⟩
theorem nT (pa:PlainAttrs T)(slot:Slot T name id)(hty:typeOf (.builtin id)=pure (.type "method_descriptor"))(hm:MtR X id r)(ho:PE X o to)(ha:PA X (e :: es) t)(hbase:attributeBase o name X.env (eval o X.env)=eval o X.env:=by rfl)(hfew:((backTo cpos (starEach (e :: es) X.env)).all (fun x=>!x.1) && (backToKw cpos (keywordEach [] X.env)).all (fun x=>x.1.isSome)
   && decide ((e :: es).length+([]:List Keyword).length+(if ([]:List Keyword).isEmpty then 0 else 1) < 30))=true:=by rfl)(hline:(apos.endLine == cpos.line)=true:=by rfl)(hs:starEach (e :: es) X.env=(false,eval e X.env) :: starEach es X.env:=by rfl)(hplain:(backTo cpos (starEach es X.env)).any (·.1)=false:=by rfl) :
  PE X (.Call (.Attribute o name apos) (e :: es) [] cpos) (tBM X.K T r to t):=by
 intro pins s σ H Q I h;refine wpAny_Call_method_late hbase hfew hline rfl (thn (ho pins s σ H _ I h) fun v s1 ⟨x,H1,I1,r1,ty,q1⟩=>?_);obtain⟨h1,h2⟩:=Ro I1 r1 ty;refine⟨T,id,pa,slot,hty,h1,h2,?_⟩;have hA:=ha cpos pins s1 σ H1 _ I1 q1;rw[hs] at hA ⊢;refine Calls.callWith_builtin (by show (false || (backTo cpos (starEach es X.env)).any (·.1))=false;rw[hplain]<;>rfl) (Calls.evalArgs_plain ?_);exact thn hA fun us s2 ⟨vs,H2,I2,r2,q2⟩=>hm pins s2 σ H2 x vs v us Q I2 r1 r2 q2
end
def MtM (X:Cx)(id:String)(r:V->List V->Hp->VK->Prop):Prop:=
 ∀(pins:List (Addr × Obj)) (s:Shared) (σ:St) (H:Hp) (x:V) (xs:List V) (v:Value) (us:List Value) (Q:VK),Inv X pins σ H s->cH x v->cC xs us->r x xs H Q->
  wpAny (model X.prog X.w) X.A (call (.builtin id) (v :: us)) (EP X pins σ Q) X.xe s
theorem cC.one:∀{x:V} {us:List Value},cC [x] us->∃u,us=[u]/\cH x u
 |_,_,.cons r .nil=>⟨_,rfl,r⟩
theorem cC.zero:∀{us:List Value},cC [] us->us=[]
 |_,.nil=>rfl
theorem cC.dropLast (h:cC xs us):cC xs.dropLast us.dropLast:=by
 induction h with
 |nil=>exact .nil
 |cons r t ih=>
  cases t with
  |nil=>exact .nil
  |cons q t'=>exact .cons r ih
theorem cC.rep (h:cC xs us):∀k:Nat,cC (replicate k xs).flatten (replicate k us).flatten
 |0=>.nil
 |k+1=>by
  rw[replicate_succ,replicate_succ,flatten_cons,flatten_cons];exact cC.append h (cC.rep h k)
theorem Gj {α:Type}(l:List α):l.eraseIdx (l.length - 1)=l.dropLast:=by
 induction l with
 |nil=>rfl
 |cons a r ih=>
  cases r with
  |nil=>rfl
  |cons b r=>
   have e:(a :: b :: r).length - 1=((b :: r).length - 1)+1:=by
    have h1:(a :: b :: r).length=r.length+2:=rfl;have h2:(b :: r).length=r.length+1:=rfl;lia
   rw[e,eraseIdx_cons_succ,ih]
   all_goals rfl
theorem xD (its:List Value):∀(k:Nat) (acc:List Value),
  foldl (fun x1 x2=>x1++x2) acc.toArray (replicate k its.toArray)=(acc++(replicate k its).flatten).toArray
 |0,acc=>by simp
 |k+1,acc=>by
  have e:acc.toArray++its.toArray=(acc++its).toArray:=by simp
  have e2:(acc++its)++(replicate k its).flatten=acc++(replicate (k+1) its).flatten:=by
   rw[replicate_succ,flatten_cons,List.append_assoc]
  rw[<- e2,<- xD its k (acc++its),<- e,replicate_succ,foldl_cons]
section
variable {X:Cx} {pins:List (Addr × Obj)} {σ:St} {H:Hp} {s:Shared} {l b:Addr} {xs ys zs:List V}
theorem Inv.lset {its its':List Value}(I:Inv X pins σ H s)(hH:H l=some (.lst xs))(e:s.heap.get? l=some { cls:=.type "list",data:=.seq its.toArray n })(hf:f its.toArray=its'.toArray)(hv:cC ys its')(hz:ys.length<=sizeLine):
  Inv X pins σ (upd H l (.lst ys)) { s with heap:=s.heap.update l (Obj.mapSeq f),toks:=t' }:=by
 have q:=PySem.IsL.update e f;rw[hf] at q;refine I.write (x:=l) (e:=l) (by rw[hH];exact trivial) (.inl rfl) (fun b' u hb hu=>(Heap.get?_update_other s.heap (Obj.mapSeq f) (Ne.symm hb)).trans hu) ⟨_,q⟩ ?_;exact⟨hz,its',_,hv,q⟩
theorem Inv.lnew (I:Inv X pins σ H s)(hv:cC ys its)(hz:ys.length<=sizeLine):
  Inv X pins σ (upd H s.heap.objs.size (.lst ys)) { s with heap:=s.heap.push { cls:=.type "list",data:=.seq its.toArray },toks:=t' }:=
 I.laid (fun _ _ q=>Heap.get?_push_of_some _ q) (Nat.le_refl _) ⟨hz,its,0,hv,Heap.get?_push_size _ rfl⟩
theorem Inv.fresh (I:Inv X pins σ H s):H s.heap.objs.size=none:=I.hok.fresh (Nat.le_refl _)
theorem Inv.lstM (I:Inv X pins σ H s)(hH:H l=some (.lst xs)):xs.length<=sizeLine/\∃(its:List Value) (n:Nat),cC xs its/\xs.length=its.length/\s.heap.get? l=some { cls:=.type "list",data:=.seq its.toArray n }:=by
 obtain⟨z,its,n,r,e⟩:=I.hok l _ hH;exact⟨z,its,n,r,r.length,e⟩
theorem Rz (h:n<=sizeLine):Builtin.List.listTooLong n=false:=by
 unfold Builtin.List.listTooLong;exact decide_eq_false (by lia)
end
section
variable {X:Cx}
inductive Ip (x:V) (vs:List V) (H:Hp) (Q:VK):Prop where
 |mk (l xs y):x=.ref l->vs=[y]->H l=some (.lst xs)->xs.length < sizeLine->Q .non (upd H l (.lst (xs++[y])))->Ip x vs H Q
theorem fP:MtM X "list.append" Ip:=by
 intro pins s σ H x vs v us Q I rx rv h;obtain⟨l,xs,y,rfl,rfl,hH,hz,q⟩:=h
 cases rx
 obtain⟨u,rfl,ru⟩:=rv.one;obtain⟨z,its,n,r,hl,e⟩:=I.lstM hH;refine call_meets F.slot_list_append ⟨_,e,rfl⟩ F.entry_list_append (F.args_list_append_2 _ _) (PySem.list_append l its.toArray n u (by rw[size_toArray];lia)) ⟨e,?_⟩;refine⟨.non,_,I.lset (its':=its++[u]) hH e (by simp) (r.append (.cons ru .nil)) ?_,rfl,q⟩;rw[List.length_append,length_singleton];lia
inductive qj0 (x:V) (vs:List V) (H:Hp) (Q:VK):Prop where
 |mk (l xs y):x=.ref l->vs=[]->H l=some (.lst xs)->xs[xs.length - 1]?=some y->Q y (upd H l (.lst xs.dropLast))->qj0 x vs H Q
theorem Zx:MtM X "list.pop" qj0:=by
 intro pins s σ H x vs v us Q I rx rv h;obtain⟨l,xs,y,rfl,rfl,hH,hy,q⟩:=h
 cases rx
 have hus:=rv.zero;subst hus;obtain⟨z,its,n,r,hl,e⟩:=I.lstM hH;obtain⟨u,hu,ru⟩:=r.get hy;have hy':its.toArray[its.toArray.size - 1]?=some u:=by
  show its.toArray[its.length - 1]?=some u;rw[<- Array.getElem?_toList,<- hl];exact hu
 refine call_meets F.slot_list_pop ⟨_,e,rfl⟩ F.entry_list_pop (F.args_list_pop_1 _) (MeetsSeq.list_pop_last l its.toArray n u hy' (by rw[size_toArray];lia)) ⟨e,?_⟩;refine⟨y,_,I.lset (its':=its.dropLast) hH e ?_ r.dropLast ?_,ru,q⟩
 ·show its.toArray.eraseIdxIfInBounds (its.toArray.size - 1)=its.dropLast.toArray;rw[size_toArray,eraseIdxIfInBounds_toArray,Gj]
 ·rw[length_dropLast];lia
inductive qg9 (x:V) (y:V) (H:Hp) (Q:VK):Prop where
 |mk (l b xs zs):x=.ref l->y=.ref b->H l=some (.lst xs)->H b=some (.lst zs)->xs.length+zs.length<=sizeLine->(∀p,H p=none->Q (.ref p) (upd H p (.lst (xs++zs))))->qg9 x y H Q
theorem qX:OpR X (binaryOp .Add) qg9:=by
 intro pins s σ H x y v u Q I rx ry h;obtain⟨l,b,xs,zs,rfl,rfl,hH,hB,hz,q⟩:=h
 cases rx
 cases ry
 obtain⟨z,its,n,r,hl,e⟩:=I.lstM hH;obtain⟨z2,its2,n2,r2,hl2,e2⟩:=I.lstM hB;refine PySem.P.add_list e e2 ?_ (by rw[size_toArray,size_toArray];lia);have ea:its.toArray++its2.toArray=(its++its2).toArray:=by simp
 rw[ea];exact⟨.ref _,_,I.lnew (t':=s.toks) (r.append r2) (by rw[List.length_append];lia),rfl,q _ I.fresh⟩
inductive qj8 (x:V) (y:V) (H:Hp) (Q:VK):Prop where
 |mk (l k xs):x=.ref l->y=.int k->H l=some (.lst xs)->-(2 ^ 63)<=k->k < 2 ^ 63->xs.length*k.toNat<=sizeLine->(∀p,H p=none->Q (.ref p) (upd H p (.lst (replicate k.toNat xs).flatten)))->qj8 x y H Q
theorem Tn {α:Type}(xs:List α)(k:Nat):(replicate k xs).flatten.length=k*xs.length:=by
 induction k with
 |zero=>simp
 |succ k ih=>rw[replicate_succ,flatten_cons,List.length_append,ih,Nat.succ_mul,Nat.add_comm]
theorem Aw:OpR X (binaryOp .Mult) qj8:=by
 intro pins s σ H x y v u Q I rx ry h;obtain⟨l,k,xs,rfl,rfl,hH,h1,h2,hz,q⟩:=h
 cases rx
 obtain⟨t,rfl⟩:=ry;obtain⟨z,its,n,r,hl,e⟩:=I.lstM hH;have hlen:its.toArray.size*k.toNat<=sizeLine:=by rw[size_toArray,<- hl];exact hz
 have hcap:¬its.toArray.size*k.toNat > (2 ^ 63 - 1) / 8:=by
  have:(sizeLine:Nat)<=(2 ^ 63 - 1) / 8:=by decide
  lia
 have hfit:¬(!Builtin.List.listFitsIndex k)=true:=by
  rw[fitsIndex_both h1 h2];exact Bool.false_ne_true
 have hlong:¬Builtin.List.listTooLong (its.toArray.size*k.toNat)=true:=by
  rw[Rz hlen];exact Bool.false_ne_true
 have hnew:foldl (fun x1 x2=>x1++x2) #[] (replicate (if its.toArray.isEmpty=true then 0 else k.toNat) its.toArray)=(replicate k.toNat its).flatten.toArray:=by
  have f0:∀m:Nat,foldl (fun x1 x2=>x1++x2) #[] (replicate m its.toArray)=(replicate m its).flatten.toArray:=fun m=>by
   have:=xD its m [];rw[nil_append] at this;exact this
  rw[f0]
  cases its with
  |nil=>simp
  |cons a r'=>rw[if_neg (by simp)]
 refine wpAny_binaryOp_repeat_ref (T:="list") (U:="int") (by decide) ⟨_,e,rfl⟩ (fun s'=>typeIs_int s' k t) noFill_list_mul F.fills_int_mul F.slot_int_rmul repeat_list F.slot_int_index.lookup
  (call_meets F.slot_int_rmul (typeIs_int s k t) F.entry_int_rmul (F.args_int_rmul_2 _ _) (int___rmul___int_list k t l its.toArray n)
   ⟨e,rfl,⟨_,e,rfl⟩,call_meets F.slot_list_mul ⟨_,e,rfl⟩ F.entry_list_mul (F.args_list_mul_2 _ _) (AutoListH.list___mul___list_int_3 l its.toArray n k t hfit hcap hlong) ⟨e,?_⟩⟩)
 rw[hnew];exact⟨.ref _,_,I.lnew (t':=s.toks) (r.rep k.toNat) (by rw[Tn,Nat.mul_comm];exact hz),rfl,q _ I.fresh⟩
end
end L2
namespace Att
open PySem PySem.W PySem.Calls PyProof.Rows
theorem rN:∀(ns:List Int) (vs:List Value),WellAll P h vs (ns.map WData.int)->IntsAre vs ns:=by
 intro ns
 induction ns with
 |nil=>
  intro vs w;rw[map_nil] at w
  cases w
  exact .nil
 |cons n ns ih=>
  intro vs w;rw[map_cons] at w
  cases w with
  |cons a b=>
   cases a
   exact .cons _ _ (ih _ b)
theorem Ly {l:OpenLaw}(hn:l.most=some n)(hpre:l.row.toRowW.claim.pre args=true)(hwl:WellAll P h vals args):
  ∃a vs ns,vals=[Value.ref a]/\args=[WData.list (ns.map WData.int)]/\h.get? a=some { cls:=.type "list",data:=.seq vs.toArray }/\IntsAre vs ns/\ns.length<=n:=by
 have hsh:WShape.hasAll [] args [.list .int]=true:=(pre_splitW hpre).1;have hc:l.pre.holds [] { args:=args }=true:=(pre_splitW hpre).2;obtain⟨d,r,rfl,h1,h2⟩:=hasAllW_cons hsh;obtain rfl:=hasAllW_nil h2;obtain⟨xs,rfl,h3⟩:=hasW_list h1;obtain⟨ns,rfl⟩:=items_int h3;have hlen:ns.length<=n:=by
  unfold OpenLaw.pre at hc;have h4:(WTm.not (.lt (.lit (.int (n:Int))) (.len (.arg 0)))).holds [] { args:=[.list (ns.map .int)] }=true:=by
   have h4:=(holds_andW hc).1;rw[hn] at h4;exact h4
  have h5:=condW_of h4 (w_not (w_lt w_lit (w_len_list (w_arg rfl))));rw[length_map] at h5;refine Nat.le_of_not_lt fun q=>?_;have q':(n:Int) < ((ns.length:Nat):Int):=by lia
  first
   | (rw[decide_eq_true q'] at h5;exact absurd h5 (by decide))
   | (simp at h5;lia)
 cases hwl with
 |cons w1 w2=>
  cases w2
  cases w1 with
  |list ho hall=>exact⟨_,_,ns,rfl,rfl,ho,rN ns _ hall,hlen⟩
theorem Li (l:OpenLaw)(args:List WData):l.row.toRowW.claim.post args (.bool true) args=true:=
 postW_of (r:=l.row.toRowW) (X:=(true == true))
  (show WShape.has [] (.bool true) .bool=true by first | rfl | decide | simp[WShape.has,WShape.arms,WShape.armsAll])
  (show (WTm.eq .res (.lit (.bool true))).value [] { args:=args,res:=some (.bool true),after:=args }=some (.bool (true == true)) from w_eq_bool (w_res rfl) w_lit) rfl
theorem attach_call {l:OpenLaw}(hn:l.most=some n)(hdf:d.params.defaults=[])(call:∀(w:World) (s₀ s₁:Shared) (mg mb:Str->Option Value) (fa:Addr) (o:Obj) (pm cd doc:Value) (a:Addr) (vs:List Value) (ns:List Int),
   Ground q loose [] XP w s₀ mg mb s₁.heap->YP w s₁.heap->
   s₁.heap.get? fa=some o->o.data=.func (docDef d.name d.params d.body d.scope pm cd doc)->s₁.heap.CodeRec cd d.name->mg d.name=some (.ref fa)->
   s₁.heap.get? a=some { cls:=.type "list",data:=.seq vs.toArray }->IntsAre vs ns->ns.length<=n->s₁.gens=#[]->
   codeAny (model l.prog w) callerA (.call (.ref fa) ⟨[.ref a],[]⟩) (fun r s'=>r=.ok (.ret (.bool true))/\OldK s₁.heap s'.heap/\s'.os=s₁.os/\AllBare s'.gens) s₁):
  WalkO q loose XP YP l.row.toRowW d [] (fun f vs=>PySem.call f vs):=by
 intro w s₀ s₁ mg mb G Y fa o pm cd doc dV kV ho hd hcd hD hmg hg args vals as hpre hlay hrd hwl hlo;obtain rfl:dV=.none:=Dflts.none hD hdf;obtain rfl:kV=.none:=Dflts.noKw hD;obtain⟨a,vs,ns,rfl,rfl,hobj,hints,hlen⟩:=Ly hn hpre hwl;refine enter_call (codeAny_mono (call w s₀ s₁ mg mb fa o pm cd doc a vs ns G Y ho (fd_plain hd) hcd hmg hobj hints hlen hg) fun r s' hq=>?_);obtain⟨rfl,h2,h3,h4⟩:=hq;exact⟨.inl ⟨.bool true,.bool true,[],rfl,fun _=>rfl,.bool true,Li l _,fun _=>⟨Pairwise.nil,fun _ hm=>(nomatch hm)⟩⟩,h2,h3,h4⟩
end Att
namespace L2
open PySem PySem.Spec PyProof.Rows
theorem yA:∀{vs:List Value} {ns:List Int},IntsAre vs ns->cC (ns.map V.int) vs
 |_,_,.nil=>.nil
 |_,_,.cons n t h=>.cons ⟨t,rfl⟩ (yA h)
def Xw (H:Hp):Prop:=∀b,H b=none\/∃o xs,H b=some (.frz o (.lst xs))
theorem Sg {K:Frag}(KX:K.In s₁.heap)(hns:s₁.heap.Ns mainGlobals mg)(hb:s₁.heap.Ns builtinsNs mb)(hbb:∀x:Str,x≠"__name__"->mb x=bootBuiltins x)(hlim:s₁.heap.NoLimit)(hg:s₁.gens=#[])(ha:s₁.heap.get? a=some { cls:=.type "list",data:=.seq vs.toArray })(hi:IntsAre vs ns)(hl:ns.length<=sizeLine)(hr:hZ k callerA)(F:∀base:Heap,K.In base->base.Ns mainGlobals mg->aL P w K mg base CX k fa fd [x] sp)(hbind:∀(s:Shared) (u:Value),BindsTo s fd ⟨[u],[]⟩ [(x,u)])(hsp:∀H:Hp,Xw H->SqL K H a (ns.map V.int)->sp [.ref a] H (fun v _=>v=.bl true) fun _ _ _=>False)(hCX:∀H e s',CX [] H s₁ (fun _ _ _=>False) e s'->False):
  codeAny (model P w) callerA (.call (.ref fa) ⟨[.ref a],[]⟩) (fun r s'=>r=.ok (.ret (.bool true))/\OldK s₁.heap s'.heap/\s'.os=s₁.os/\AllBare s'.gens) s₁:=by
 have rv:=yA hi;have lenV:=hi.length;have core:∀H:Hp,Xw H->SqL K H a (ns.map V.int)->HOk P w H s₁.heap->(∀b,H b≠none->b=a)->(H a≠none->K.lookup a=none)->
   codeAny (model P w) callerA (.call (.ref fa) ⟨[.ref a],[]⟩) (fun r s'=>r=.ok (.ret (.bool true))/\OldK s₁.heap s'.heap/\s'.os=s₁.os/\AllBare s'.gens) s₁:=by
  intro H hO hS hok hA hK;have base_of:∀{b:Addr} {o:Obj},s₁.heap.get? b=some o->H b=none->(yN s₁.heap H).get? b=some o:=fun e n=>Py e n;have noA:∀{b:Addr} {o:Obj} {es:Array DictEntry} {ep:Nat},s₁.heap.get? b=some o->o.data=.dict es ep->H b=none:=fun {b o es ep} e d=>by
   cases q:H b with
   |none=>rfl
   |some u=>
    have e':b=a:=hA b (by rw[q];simp);subst e';rw[ha] at e;cases e;have d':Data.seq vs.toArray _=Data.dict es ep:=d
    cases d'
  have nsK:∀{b:Addr} {m:Str->Option Value},s₁.heap.Ns b m->(yN s₁.heap H).Ns b m:=fun {b m} ⟨o,es,ep,e,d,r⟩=>⟨o,es,ep,base_of e (noA e d),d,r⟩
  have hKb:K.In (yN s₁.heap H):=fun b o e=>base_of (KX b o e) (by
   cases q:H b with
   |none=>rfl
   |some u=>
    have e':b=a:=hA b (by rw[q];simp);subst e';rw[hK (by rw[q];simp)] at e;cases e)
  have hM:Mod K mg (yN s₁.heap H):=⟨hKb,nsK hns,⟨mb,nsK hb,hbb⟩,let ⟨mc,h1,h2⟩:=hlim;⟨mc,nsK h1,h2⟩⟩
  have e0:Fa P w K mg (yN s₁.heap H) callerA [] s₁ H:=⟨rfl,hM,fun b o e=>Vp e,Nat.le_of_eq (Le _ _),trivial,fun b hb=>absurd (show b∈([]:List Addr) from hb) (by simp),hok,.of_eq hg⟩
  refine codeAny_mono ((F _ hKb (nsK hns)).run callerA [] s₁ H ⟨[.ref a],[]⟩ [.ref a] [.ref a] _ _ hr e0 (hbind s₁ (.ref a)) (.cons rfl .nil) (hsp H hO hS)) fun r s' h=>?_
  cases r with
  |error e=>exact(hCX H e s' h).elim
  |ok fl=>
   cases fl with
   |next=>exact False.elim h
   |brk=>exact False.elim h
   |cont=>exact False.elim h
   |ret u=>
    obtain⟨v,H',os,bare,un,hok',r',q⟩:=h;have q':v=.bl true:=q;subst q';obtain rfl:u=Value.bool true:=r';refine⟨rfl,OldK.of_keep fun b o e=>?_,os,bare⟩
    cases q:H b with
    |none=>exact un.keep b o e q (by intro z;exact absurd (show b∈([]:List Addr) from z) (by simp)) (by simp)
    |some u=>
     rcases hO b with z | ⟨ob,xs,z⟩
     ·rw[q] at z;cases z
     ·have z2:=un.frzs b ob _ z;obtain⟨e1,_⟩:=hok b _ z;obtain⟨e2,_⟩:=hok' b _ z2;rw[e] at e1;cases e1;exact e2
 cases hk:K.lookup a with
 |some o=>
  have e:=KX a o hk;rw[ha] at e
  cases e
  refine core (fun _=>none) (fun _=>.inl rfl) (.inr ⟨_,vs.toArray,_,hk,rfl,rfl,rfl,by rw[size_toArray,lenV];exact hl,by simpa using rv⟩) (fun b u z=>by have z':(none:Option HO)=some u:=z;cases z') (fun b z=>absurd rfl z) fun z=>absurd rfl z
 |none=>
  refine core (fun b=>if b=a then some (.frz { cls:=.type "list",data:=.seq vs.toArray } (.lst (ns.map V.int))) else none) (fun b=>?_) (.inl (.inr ⟨{ cls:=.type "list",data:=.seq vs.toArray },if_pos rfl⟩)) (fun b u z=>?_) (fun b z=>?_) fun _=>hk
  ·by_cases hb:b=a
   ·exact .inr ⟨_,_,if_pos hb⟩
   ·exact .inl (if_neg hb)
  ·by_cases hb:b=a
   ·have z':=(if_pos hb).symm.trans z
    cases z'
    subst hb;exact⟨ha,by rw[length_map];exact hl,vs,_,rv,ha⟩
   ·have z':=(if_neg hb).symm.trans z
    cases z'
  ·by_cases hb:b=a
   ·exact hb
   ·exact absurd (if_neg hb) z
abbrev KOf {K:Frag}{h:Heap}(_:K.In h):Frag:=K
theorem Wa {l:W.OpenLaw}{K:Params->Frag}{CX:World->CXT}{sp:World->Sp}(hn:l.most=some n)(hn2:n<=sizeLine)(hdf:d.params.defaults=[])(hr:hZ k callerA)(hY:∀(w:World) (h:Heap),YP w h->(K w.params).In h)(F:∀(w:World) (mg:Str->Option Value) (fa:Addr) (h:Heap),(K w.params).In h->h.Ns mainGlobals mg->mg d.name=some (.ref fa)->
   ∃fd:FuncData,(∀(s:Shared) (u:Value),BindsTo s fd ⟨[u],[]⟩ [(x,u)])/\
    ∀base:Heap,(K w.params).In base->base.Ns mainGlobals mg->aL l.prog w (K w.params) mg base (CX w) k fa fd [x] (sp w))(hsp:∀(w:World) (H:Hp) (a:Addr) (ns:List Int),ns.length<=n->Xw H->SqL (K w.params) H a (ns.map V.int)->sp w [.ref a] H (fun v _=>v=.bl true) fun _ _ _=>False)(hCX:∀(w:World) (H:Hp) (s:Shared) (e:Value) (s':Shared),CX w [] H s (fun _ _ _=>False) e s'->False):
  W.WalkO q loose XP YP l.row.toRowW d [] (fun f vs=>PySem.call f vs):=by
 refine Att.attach_call hn hdf fun w s₀ s₁ mg mb fa o pm cd doc a vs ns G Y ho hd hcd hmg hobj hints hlen hg=>?_;have KX:=hY w _ Y;obtain⟨fd,hb,hF⟩:=F w mg fa _ KX G.T.g hmg;exact Sg KX G.T.g G.T.b G.T.builtins G.T.nolimit hg hobj hints (Nat.le_trans hlen hn2) hr hF hb (fun H hO hS=>hsp w H a ns hlen hO hS) fun H e s'=>hCX w H s₁ e s'
def cO (s:Stmt)(j:Nat):Stmt:=match s with
 | .ClassDef _ _ _ body _ _ _ _ _ _ _=>body.getD j (.Pass ⟨0,0,0,0⟩)
 |_=>.Pass ⟨0,0,0,0⟩
def fA (s:Stmt):Arguments:=match s with
 | .FunctionDef _ a _ _ _ _ _ _ _ _=>a
 |_=>{ posonlyargs:=[],args:=[],vararg:=none,kwonlyargs:=[],kw_defaults:=[],kwarg:=none,defaults:=[] }
def cV (s:Stmt):List Stmt:=match s with
 | .FunctionDef _ _ b _ _ _ _ _ _ _=>b
 |_=>[]
def aH (s:Stmt):Scope:=match s with
 | .FunctionDef _ _ _ _ _ _ sc _ _ _=>sc
 |_=>{ kind:=.function,names:=[],isGenerator:=false,isCoroutine:=false }
abbrev CX0:CXT:=fun _ _ _ _ _ _=>False
abbrev E0:XK:=fun _ _ _=>False
theorem aK:kC CX0 X E0:=fun _ _ _ _ _ _ _ h=>h.elim
theorem xJ (hr:hZ k A):A.units+1 < cLine:=Nat.lt_of_le_of_lt (Nat.add_le_add_left (by decide:1<=64) _) hr.units
theorem bO (h:n<=1000):n < sizeLine:=Nat.lt_of_le_of_lt h (by decide)
section
variable {X:Cx}
theorem pv (i:Nat)(hN:X.N[i]?=some x:=by rfl)(hv:Vis X.env.scope x:=by first | exact Or.inl rfl | exact Or.inr (Or.inl rfl) | exact Or.inr (Or.inr rfl))(hd:(x == ("__debug__":Str))=false:=by decide)(hcd:(x == ("__classdict__":Str))=false:=by decide):PE X (.Name x pos) (Ow i):=Qj hN hv hd hcd
end
theorem gL {A B:Prop}(h:B):if false=true then A else B:=by
 rw[if_neg Bool.false_ne_true];exact h
theorem hJ {A B:Prop}(h:A):if true=true then A else B:=by
 rw[if_pos rfl];exact h
theorem qM {c A B:Prop}[Decidable c](h1:c->A)(h2:¬c->B):if c then A else B:=by
 by_cases h:c
 ·rw[if_pos h];exact h1 h
 ·rw[if_neg h];exact h2 h
def aZ (H H':Hp):Prop:=∀b o,H b=some o->H' b=some o
theorem aZ.refl (H:Hp):aZ H H:=fun _ _ h=>h
theorem aZ.trans (a:aZ H H1)(b:aZ H1 H2):aZ H H2:=fun c o h=>b c o (a c o h)
theorem aZ.free (e:aZ H H')(h:H' l=Option.none):H l=Option.none:=by
 cases q:H l with
 |none=>rfl
 |some o=>
  rw[e l o q] at h
  cases h
theorem aZ.seq {K:Frag}(e:aZ H H')(h:SqL K H a xs):SqL K H' a xs:=by
 rcases h with (h | ⟨o,h⟩) | h
 ·exact .inl (.inl (e _ _ h))
 ·exact .inl (.inr ⟨o,e _ _ h⟩)
 ·exact .inr h
section
variable {X:Cx}
def Bt (n:Nat)(i:Int):Prop:=i.natAbs < 2 ^ n
theorem tZ (h:Bt n i):Builtin.Int.intBits i<=n:=by
 unfold Builtin.Int.intBits;split
 ·exact Nat.zero_le _
 ·rename_i h0
  have hp:i.natAbs≠0:=by
   intro z;apply h0;simp at z ⊢;exact z
  have:i.natAbs.log2 < n:=(Nat.log2_lt hp).mpr h;lia
def Ui (i j:Int):Prop:=∃n m,Bt n i/\Bt m j/\n<=1048576/\m<=1048576
theorem Ui.ok (h:Ui i j):IntMulOk i j:=by
 obtain⟨n,m,h1,h2,h3,h4⟩:=h;have e:(2:Nat) ^ 20=1048576:=by decide
 exact IntMulOk.of_bits (by have:=tZ h1;lia) (by have:=tZ h2;lia)
theorem cI:OpR X (binaryOp .Mult) (rI Ui fun i j=>.int (i*j)):=opI fun _ _ _ _ _ _ _ hc q=>mul_int q hc.ok
def Io (i j:Int):Prop:=j≠0/\∃n,Bt n j/\n<=9000
theorem Io.ok (h:Io i j):Builtin.divisionGoesByPylong i j=false:=by
 obtain⟨h0,n,h1,h2⟩:=h;refine PyProof.noPylong_of_log2 ?_;have hp:j.natAbs≠0:=by lia
 have:j.natAbs.log2 < n:=(Nat.log2_lt hp).mpr h1;lia
theorem jE:OpR X (binaryOp .FloorDiv) (rI Io fun i j=>.int (i.fdiv j)):=opI fun _ _ _ _ _ _ _ hc q=>floordiv_int hc.1 q (.inl hc.ok)
mutual
inductive pF (K:Frag) (H:Hp):V->PyData->Prop where
 |non:pF K H .non .none
 |bl (b:Bool):pF K H (.bl b) (.bool b)
 |int (i:Int):pF K H (.int i) (.int i)
 |str (x:Str):pF K H (.str x) (.str x)
 |lst {a:Addr} {xs:List V} {ds:List PyData} (h:SqL K H a xs) (q:uI K H xs ds):pF K H (.ref a) (.list ds)
 |tup {a:Addr} {xs:List V} {ds:List PyData} (h:SqT K H a xs) (q:uI K H xs ds):pF K H (.ref a) (.tuple ds)
inductive uI (K:Frag) (H:Hp):List V->List PyData->Prop where
 |nil:uI K H [] []
 |cons {x:V} {d:PyData} {xs:List V} {ds:List PyData} (p:pF K H x d) (q:uI K H xs ds):uI K H (x :: xs) (d :: ds)
end
theorem kA {H:Hp}(I:Inv X pins σ H s):∀{x:V} {d:PyData},pF X.K H x d->∀{u:Value},cH x u->∃as,Reads s.heap u d as:=by
 intro x d h
 induction h using pF.rec (motive_2:=fun xs ds _=>∀{us:List Value},cC xs us->∃as,ReadsAll s.heap us ds as) with
 |non=>intro u r;cases (show u=Value.none from r);exact⟨_,.none⟩
 |bl b=>intro u r;cases (show u=Value.bool b from r);exact⟨_,.bool b⟩
 |int i=>intro u r;obtain⟨t,rfl⟩:=(show ∃t,u=Value.int i t from r);exact⟨_,.int i t⟩
 |str y=>intro u r;obtain⟨t,rfl⟩:=(show ∃t,u=Value.str y t from r);exact⟨_,.str y t⟩
 |lst h q ih=>
  intro u r
  cases (show u=Value.ref _ from r)
  obtain⟨its,rv,pl,_⟩:=I.list h;obtain⟨as,ra⟩:=ih rv;obtain⟨o,h1,h2,n,h3⟩:=pl.isList;exact⟨_,.list h1 h2 h3 (by simpa using ra)⟩
 |tup h q ih=>
  intro u r
  cases (show u=Value.ref _ from r)
  obtain⟨its,rv,pl,_⟩:=I.tuple h;obtain⟨as,ra⟩:=ih rv;obtain⟨o,h1,h2,n,h3⟩:=pl;exact⟨_,.tuple h1 h2 h3 (by simpa using ra)⟩
 |nil=>rename_i us r;cases r;exact⟨_,.nil⟩
 |cons p q ih1 ih2=>
  rename_i us r
  cases r with
  |cons r1 r2=>
   obtain⟨as,h1⟩:=ih1 r1;obtain⟨bs,h2⟩:=ih2 r2;exact⟨_,.cons h1 h2⟩
inductive Fe (K:Frag) (neg:Bool) (x:V) (y:V) (H:Hp) (Q:VK):Prop where
 |mk (d e):pF K H x d->pF K H y e->d.canLay0=true->e.canLay0=true->min d.depth e.depth<=16->Q (.bl (if neg then !PyData.eqv d e else PyData.eqv d e)) H->Fe K neg x y H Q
theorem vD (hu:X.A.units+64 < cLine):OpR X (compareOp .Eq) (Fe X.K false):=by
 intro pins s σ H x y v u Q I rx ry h;obtain⟨d,e,h1,h2,c1,c2,hm,q⟩:=h;obtain⟨as,r1⟩:=kA I h1 rx;obtain⟨bs,r2⟩:=kA I h2 ry;exact PySem.SeqAt.compareEq_reads r1 r2 c1 c2 (by lia) ⟨.bl (PyData.eqv d e),H,I,rfl,q⟩
theorem Fj (hu:X.A.units+64 < cLine):OpR X (compareOp .NotEq) (Fe X.K true):=by
 intro pins s σ H x y v u Q I rx ry h;obtain⟨d,e,h1,h2,c1,c2,hm,q⟩:=h;obtain⟨as,r1⟩:=kA I h1 rx;obtain⟨bs,r2⟩:=kA I h2 ry;exact PySem.SeqAt.compareNe_reads r1 r2 c1 c2 (by lia) ⟨.bl (!PyData.eqv d e),H,I,rfl,q⟩
end
section
variable {prog:Program} {w:World} {A:Around} {R:Result->Shared->Prop} {s:Shared}
abbrev Ww (ifs:List Expr)(env:Env):Sem Bool:=forIn ifs true fun c r=>if r=true then do let ok <- isTrue c env (eval c env);pure (ForInStep.yield ok) else pure (ForInStep.yield r)
theorem Km {elt target iter:Expr}(I:Nat->Shared->Prop)(turn:∀n s,I n s->wpAny (model prog w) A (pyNext it) (fun r s₁=>match r with
   |none=>R (.ok .next) s₁
   |some v=>wpAny (model prog w) A (letOwnedTupleGo target it v) (fun _ s₀=>wpAny (model prog w) A (assign target env v) (fun _ s₂=>
     wpAny (model prog w) A (Ww ifs env) (fun ok s₃=>
      if ok=true then wpAny (model prog w) A (eval elt env) (fun x s₄=>
       wpAny (model prog w) A (call (.builtin "list.append") [acc,x]) (fun _ s₅=>∃m,m < n/\I m s₅) (fun _ _=>False) s₄) (fun _ _=>False) s₃
      else ∃m,m < n/\I m s₃) (fun _ _=>False) s₂) (fun _ _=>False) s₀) (fun _ _=>False) s₁) (fun _ _=>False) s)(n:Nat)(h:I n s):
  codeAny (model prog w) A (.compLoop (.ListComp elt [⟨target,iter,ifs,0⟩] scope pos) 0 it acc env) R s:=by
 refine codeAny_loop rfl I (fun n s hI=>?_) n h;show wpAny _ A ((compTurn (.ListComp elt [⟨target,iter,ifs,0⟩] scope pos) 0 it acc env).onRaise (fun x=>do noteFrame x env;theTreesLotGoes x)) _ _ s;refine wpAny_noted ?_;rw[compTurn_list];refine wpAny_bind (wpAny_standAt (wpAny_bind (wpAny_mono (turn n s hI) (fun r s₁ h₁=>?_) fun _ _ z=>z.elim)))
 cases r with
 |none=>exact wpAny_pure h₁
 |some v=>
  refine wpAny_bind (wpAny_mono h₁ (fun _ s₀ h₀=>?_) fun _ _ z=>z.elim);refine wpAny_bind (wpAny_mono h₀ (fun _ s₂ h₂=>wpAny_bind (wpAny_mono h₂ (fun ok s₃ h₃=>?_) fun _ _ z=>z.elim)) fun _ _ z=>z.elim)
  cases ok with
  |false=>exact wpAny_pure ⟨rfl,h₃⟩
  |true=>
   rw[if_pos rfl] at h₃;show wpAny _ _ ((do let _ <- call (.builtin "list.append") [acc,<- eval elt env]) >>= fun _=>again (.compLoop (.ListComp elt [⟨target,iter,ifs,0⟩] scope pos) 0 it acc env)) _ _ _;exact wpAny_bind (wpAny_bind (wpAny_mono h₃ (fun x s₄ h₄=>wpAny_bind (wpAny_mono h₄ (fun _ s₅ h₅=>wpAny_pure (wpAny_pure ⟨rfl,h₅⟩)) fun _ _ z=>z.elim)) fun _ _ z=>z.elim))
end
structure yR (X:Cx) (scope:Scope) (cl:List (Str × Addr)) (Nc:List Str) (nl:Nat) (fr:List Nat):Prop where
 clos:closureFor scope X.env=pure cl
 kind:scope.kind=.function
 names:∀y∈scope.names,y.2=.local->scope.names.lookup y.1=some .local
 cell:∀y∈scope.names,y.2≠.cell
 sub:∀x c,cl.lookup x=some c->X.env.cells.lookup x=some c
 has:∀x,(relabel scope X.env).names.lookup x=some .cell\/(relabel scope X.env).names.lookup x=some .free->∃c,cl.lookup x=some c
 len:Nc.length=nl+fr.length
 tail:∀i n,Nc[nl+i]?=some n->∃j,fr[i]?=some j/\X.N[j]?=some n/\X.env.kindOf n=some .cell/\cl.lookup n=X.env.cells.lookup n/\((relabel scope X.env).names.lookup n=some .cell\/(relabel scope X.env).names.lookup n=some .free)
abbrev fR (X:Cx)(scope:Scope)(cl:List (Str × Addr))(Nc:List Str)(C:Addr)(s3:Shared)(H3:Hp)(fp:List Addr)(pins:List (Addr × Obj)):Cx:=
 { X with N:=Nc,s₀:=s3,H₀:=H3,env:=compEnvC scope cl C X.env,outer:=X.stack,ex:=fp,fn:=fun _=>false,pn:=X.pn++pins,xe:=fun _ _=>False }
def σC (nl:Nat)(fr:List Nat)(σ:St):St:=replicate nl none++fr.map fun j=>(σ[j]?).join
abbrev PIf (X:Cx)(ifs:List Expr)(t:TT):Prop:=
 ∀(pins:List (Addr × Obj)) (s:Shared) (σ:St) (H:Hp) (Q:Bool->Hp->Prop),Inv X pins σ H s->t σ H Q->wpAny (model X.prog X.w) X.A (Ww ifs X.env) (TP X pins σ Q) X.xe s
theorem fU:PIf X [] (fun _ H Q=>Q true H):=fun _ _ _ H _ I h=>wpAny_pure ⟨H,I,h⟩
theorem pS (h:PT X c t):PIf X [c] t:=fun pins s σ H Q I q=>wpAny_tests_one (h pins s σ H Q I q)
section
variable {X:Cx} {scope:Scope} {cl:List (Str × Addr)} {Nc:List Str} {nl:Nat} {fr:List Nat} {pins:List (Addr × Obj)} {σ:St} {H3:Hp} {s3:Shared} {fp:List Addr} {h4:Heap} {tk:Nat}
theorem Dt (ck:yR X scope cl Nc nl fr)(I:Inv X pins σ H3 s3)(hf:∀b∈fp,mY X pins H3 b)(hfs:∀b∈fp,b < s3.heap.objs.size)(hns:h4.Ns s3.heap.objs.size fun _=>none)(hk:∀b o,s3.heap.get? b=some o->h4.get? b=some o) :
  Inv (fR X scope cl Nc s3.heap.objs.size s3 H3 fp pins) [] (σC nl fr σ) H3 { s3 with heap:=h4,toks:=tk }:=by
 have stk:∀b∈frs X.stack,b∈X.env.locals :: X.fs:=I.stkSub;have nfs:∀b,b≠X.env.locals->b∉X.fs->b∉frs X.stack:=fun b h1 h2 z=>(mem_cons.mp (stk b z)).elim h1 h2;have ltc:∀x c,cl.lookup x=some c->c < s3.heap.objs.size:=fun x c e=>by
  obtain⟨v,z⟩:=I.cell x c (ck.sub x c e);exact z.lt
 refine⟨⟨I.ok.mod,ck.kind,I.ok.glob,I.ok.blt,Nat.le_refl _,fun x y c h1 h2=>I.ok.inj x y c (ck.sub x c h1) (ck.sub y c h2),fun x hx=>ck.has x hx,fun x c hz=>Bool.noConfusion hz,I.ok.hd,I.ok.frames,.inl rfl,fun b hb=>?_,I.bs,Nat.le_trans I.ok.bsz I.sz,fun b o e hb=>?_,fun b hb=>?_,I.stack,I.stkFree⟩,
  rfl,I.bare,Un.kept hk,⟨_,hns,fun i x v h1 h2 h3=>?_⟩,fun x c e=>?_,I.hok.fresh (Nat.le_refl _),fun x c e=>I.freeC x c (ck.sub x c e),fun p hp=>?_,I.hok.kept hk,?_⟩
 ·obtain⟨f0,f1,f2,f3,f4,f5⟩:=hf b hb;exact⟨Nat.ne_of_lt (hfs b hb),fun x c e=>f4 x c (ck.sub x c e)⟩
 ·obtain⟨f0,f1,f2,f3,f4,f5⟩:=hf b hb;rcases f3 with z | z
  ·exact I.ok.noex b o e z
  ·exact absurd (Nat.lt_of_lt_of_le (Heap.lt_size e) (Nat.le_trans I.ok.bsz z)) (Nat.lt_irrefl _)
 ·obtain⟨f0,f1,f2,f3,f4,f5⟩:=hf b hb;exact nfs b f1 f2
 ·-- a name's value
  unfold σC at h2
  by_cases hi:i < nl
  ·rw[getElem?_append_left (by simpa using hi),getElem?_replicate] at h2;split at h2<;>cases h2
  ·have hi':nl<=i:=by lia
   rw[getElem?_append_right (by simpa using hi'),length_replicate,getElem?_map] at h2;obtain⟨k,rfl⟩:∃k,i=nl+k:=⟨i - nl,by lia⟩
   obtain⟨j,e1,e2,e3,e4,e5⟩:=ck.tail k x h1;rw[Nat.add_sub_cancel_left,e1] at h2;have h2':(σ[j]?).join=some v:=by simpa using h2
   have h2'':σ[j]?=some (some v):=by
    cases q:σ[j]? with
    |none=>rw[q] at h2';cases h2'
    |some z=>rw[q] at h2';exact congrArg some h2'
   obtain⟨m,hn,hl⟩:=I.loc;obtain⟨u,r,l⟩:=hl j x v e2 h2'' (.inr (.inl e3));refine⟨u,r,?_⟩;rcases l with ⟨k1,_⟩ | ⟨k1,c,ec,z⟩
   ·rw[e3] at k1;cases k1
   ·obtain⟨o,ho,hd⟩:=z;exact .inr ⟨e5,c,by show cl.lookup x=some c;rw[e4];exact ec,o,hk _ _ ho,hd⟩
 ·obtain⟨v,o,ho,hd⟩:=I.cell x c (ck.sub x c e);exact⟨v,o,hk _ _ ho,hd⟩
 ·have hp':p∈X.pn++pins:=by simpa using hp
  obtain⟨e,n,ne,nf,d⟩:=I.pin p hp';exact⟨hk _ _ e,n,Nat.ne_of_lt (Heap.lt_size e),nfs _ ne nf,d⟩
 ·unfold σC;show _=Nc.length;rw[List.length_append,length_replicate,length_map,ck.len]
theorem Rh (I:Inv X pins σ H3 s3)(hf:∀b∈fp,mY X pins H3 b)(J:Inv (fR X scope cl Nc s3.heap.objs.size s3 H3 fp pins) pins' σ' H' s'):Inv X pins σ H' s'/\mY X pins H' s3.heap.objs.size:=by
 refine⟨I.call' (ch:=fp) J.os J.base J.hok J.bare fun b hb=>?_,I.fpOk (Nat.le_refl _) J.free⟩;obtain⟨f0,f1,f2,f3,f4,f5⟩:=hf b hb;exact⟨f3,f1,f4,f5⟩
theorem Inv.off (I:Inv X pins σ H s)(f:mY X pins H b)(hs:Heap.SameBut b s.heap h'):Inv X pins σ H { s with heap:=h' }:=by
 obtain⟨f0,f1,f2,f3,f4,f5⟩:=f;exact I.turned (t':=s.toks) (it:=b) (fun c o hb e=>(hs.2 c hb).trans e) f0 f1 f3 f4 f5
end
def Bx (J:It)(nl:Nat)(fr:List Nat)(g:TG)(tt:TT)(te:TE)(σ:St)(D:Addr)(H1:Hp)(Q:VK):Prop:=
 ∃W:Nat->Nat->List V->Hp->Prop,(∃m,W 0 m [] (upd H1 D (.lst [])))/\∀i m ys H2,W i m ys H2->H2 D=some (.lst ys)/\
  ((J.stop i H2/\Q (.ref D) H2)\/(J.go i H2/\∀x H3,J.yld i H2 x H3->g x (σC nl fr σ) H3 fun σ2 H4=>σ2.length=(σC nl fr σ).length/\(∀(i:Nat) v,(σC nl fr σ)[i]?=some (some v)->σ2[i]?=some (some v))/\
   tt σ2 H4 fun b H5=>if b=true then te σ2 H5 fun y H6=>H6 D=some (.lst ys)/\ys.length < sizeLine/\∃m',m' < m/\W (i+1) m' (ys++[y]) (upd H6 D (.lst (ys++[y])))
    else ∃m',m' < m/\W (i+1) m' ys H5))
def Pn (wi:TI)(nl:Nat)(fr:List Nat)(g:TG)(tt:TT)(te:TE):TE:=fun σ H Q=>wi σ H fun J H1=>∀D,H1 D=none->Bx J nl fr g tt te σ D H1 Q
section
variable {X:Cx} {scope:Scope} {cl:List (Str × Addr)} {Nc:List Str} {nl:Nat} {fr:List Nat} {elt tg iter:Expr} {ifs:List Expr} {pos:Pos} {wi:TI} {g:TG} {tt:TT} {te:TE}
theorem Bh (hc:X.calm=true)(ck:yR X scope cl Nc nl fr)(hi:PI X tg iter wi)(hg:∀C s3 H3 fp pins,PG (fR X scope cl Nc C s3 H3 fp pins) tg g)(ht:∀C s3 H3 fp pins,PIf (fR X scope cl Nc C s3 H3 fp pins) ifs tt)(he:∀C s3 H3 fp pins,PE (fR X scope cl Nc C s3 H3 fp pins) elt te)(I:Inv X pins σ H s)(h:Pn wi nl fr g tt te σ H Q){RR:Value->Addr->Result->Shared->Prop}(fin:∀D C s',(∃H',(∃m,s'.heap.Ns C m)/\Inv X pins σ H' s'/\mY X pins H' C/\Q (.ref D) H')->RR (.ref D) C (.ok .next) s'):
  wpAny (model X.prog X.w) X.A (eval iter X.env) (fun x s₁=>wpAny (model X.prog X.w) X.A (pyIter x) (fun it s₂=>wpAny (model X.prog X.w) X.A (newList []) (fun acc s₃=>
   wpAny (model X.prog X.w) X.A (newFunctionEnv scope X.env.globals cl [] X.env.qual none .none (some X.env)) (fun cenv s₄=>
    codeAny (model X.prog X.w) X.A (.compStart (.ListComp elt [⟨tg,iter,ifs,0⟩] scope pos) 0 it acc { cenv with scope:=relabel scope X.env }) (RR acc cenv.locals) s₄) X.xe s₃) X.xe s₂) X.xe s₁) X.xe s:=by
 refine thn (hi pins s σ H _ I h) fun v s1 h1=>thn h1 fun itv s2 h2=>?_;obtain⟨it,fp,tn,J,H2,e,I2,T,st2,f2,hD⟩:=h2;subst e;have hn2:H2 s2.heap.objs.size=none:=I2.hok.fresh (Nat.le_refl _);obtain⟨W,⟨m0,w0⟩,turn⟩:=hD s2.heap.objs.size hn2;refine wpAny_newObj_type (wpAny_newFunctionEnv ck.cell (by intro y hy;simp at hy) (fun h4 hns hsb=>?_) ck.kind);dsimp only at hns hsb ⊢;have I3:Inv X pins σ (upd H2 s2.heap.objs.size (.lst [])) { s2 with heap:=s2.heap.push { cls:=.type "list",dict:=none,data:=.seq ([]:List Value).toArray } }:=
  I2.laid (t':=s2.toks) (fun b u e=>Heap.get?_push_of_some _ e) (Nat.le_refl _) ⟨Nat.zero_le _,[],0,.nil,Heap.get?_push_size _ rfl⟩
 have hfs:∀b∈fp,b < s2.heap.objs.size:=fun b hb=>by
  obtain⟨o,e,_⟩:=T.obj 0 _ st2 b hb;exact Heap.lt_size e
 have f3:∀b∈fp,mY X pins (upd H2 s2.heap.objs.size (.lst [])) b:=fun b hb=>⟨by rw[aY (Nat.ne_of_lt (hfs b hb))];exact(f2 b hb).1,(f2 b hb).2⟩
 generalize hH3:upd H2 s2.heap.objs.size (.lst [])=H3 at *
 generalize hs3:({ s2 with heap:=s2.heap.push { cls:=.type "list",dict:=none,data:=.seq ([]:List Value).toArray } }:Shared)=s3 at *
 have z3:s3.heap=s2.heap.push { cls:=.type "list",dict:=none,data:=.seq ([]:List Value).toArray }:=by rw[<- hs3]
 have hsz3:s3.heap.objs.size=s2.heap.objs.size+1:=by rw[z3,Heap.size_push]
 rw[<- z3] at hns hsb ⊢;have hk4:∀b o,s3.heap.get? b=some o->h4.get? b=some o:=fun b o e=>hsb.extBut b o (Nat.ne_of_lt (Heap.lt_size e)) (Heap.get?_push_of_some _ e);have hfs3:∀b∈fp,b < s3.heap.objs.size:=fun b hb=>Nat.lt_of_lt_of_le (hfs b hb) (by rw[hsz3];exact Nat.le_succ _);have hns':h4.Ns s3.heap.objs.size fun _=>none:=by simpa using hns
 have K0:=fun tk=>Dt (tk:=tk) ck I3 f3 hfs3 hns' hk4;have stat:∀{H':Hp},(∀b∈fp,H' b=none)->∀b∈fp,mY (fR X scope cl Nc s3.heap.objs.size s3 H3 fp pins) [] H' b:=fun {H'} hn b hb=>by
  obtain⟨f0,g1,g2,g3,g4,g5⟩:=f3 b hb;refine⟨hn b hb,Nat.ne_of_lt (hfs3 b hb),fun z=>?_,.inl hb,fun x c e=>g4 x c (ck.sub x c e),fun p hp=>g5 p (by simpa using hp)⟩;exact(mem_cons.mp (I3.stkSub b z)).elim g1 g2
 have st4:tn 0 h4:=T.keep 0 _ _ st2 fun b hb o e=>hk4 b o (by rw[z3];exact Heap.get?_push_of_some _ e);have loop:∀tk,codeAny (model X.prog X.w) X.A (.compLoop (.ListComp elt [⟨tg,iter,ifs,0⟩] scope pos) 0 (.ref it) (.ref s2.heap.objs.size) (compEnvC scope cl s3.heap.objs.size X.env)) (RR (.ref s2.heap.objs.size) s3.heap.objs.size) { s3 with heap:=h4,toks:=tk }:=by
  intro tk;refine Km (fun n s'=>∃i ys H',Inv (fR X scope cl Nc s3.heap.objs.size s3 H3 fp pins) [] (σC nl fr σ) H' s'/\tn i s'.heap/\(∀b∈fp,H' b=none)/\W i n ys H') ?_ m0 ⟨0,[],H3,K0 tk,st4,fun b hb=>(f3 b hb).1,w0⟩;rintro n s5 ⟨i,ys,H5,I5,st5,fr5,w5⟩;obtain⟨hl5,q5⟩:=turn i n ys H5 w5;rcases q5 with ⟨stop,qn⟩ | ⟨go,step⟩
  ·refine wpAny_mono (T.done (fR X scope cl Nc s3.heap.objs.size s3 H3 fp pins) rfl rfl rfl hc i [] s5 (σC nl fr σ) H5 (fun _ _=>False) I5 (stat fr5) st5 stop) (fun r s6 h6=>?_) fun _ _ z=>z;obtain⟨hr,I6⟩:=h6;subst hr;obtain⟨z1,z2⟩:=Rh I3 f3 I6;refine fin _ _ _ ⟨H5,?_,z1,z2,qn⟩;obtain⟨m,hm,_⟩:=I6.loc;exact⟨m,hm⟩
  ·refine wpAny_mono (T.item (fR X scope cl Nc s3.heap.objs.size s3 H3 fp pins) rfl rfl rfl hc i [] s5 (σC nl fr σ) H5 (fun _ _=>False) I5 (stat fr5) st5 go) (fun r s6 h6=>?_) fun _ _ z=>z;obtain⟨u,hr,h6⟩:=h6;subst hr;refine wpAny_mono h6 (fun _ s7 h7=>?_) fun _ _ z=>z;obtain⟨x,H7,I7,r7,y7,st7,fr7⟩:=h7;have I7':=I7.pinned (stat fr7) (T.obj _ _ st7);refine wpAny_mono (hg s3.heap.objs.size s3 H3 fp pins _ s7 _ H7 x u _ I7' r7 (step x H7 y7)) (fun _ s8 h8=>?_) fun _ _ z=>z;obtain⟨σ8,H8,I8,l8,k8,q8⟩:=h8;refine wpAny_mono (ht s3.heap.objs.size s3 H3 fp pins _ s8 σ8 H8 _ I8 q8) (fun b s9 h9=>?_) fun _ _ z=>z;obtain⟨H9,I9,q9⟩:=h9;have again:∀{ys':List V} {H':Hp} {s':Shared} {m':Nat},Inv (fR X scope cl Nc s3.heap.objs.size s3 H3 fp pins) ([]++uU fp s7.heap) σ8 H' s'->m' < n->W (i+1) m' ys' H'->
     ∃m,m < n/\∃i ys H',Inv (fR X scope cl Nc s3.heap.objs.size s3 H3 fp pins) [] (σC nl fr σ) H' s'/\tn i s'.heap/\(∀b∈fp,H' b=none)/\W i m ys H':=fun {ys' H' s' m'} I' hm w'=>by
    refine⟨m',hm,i+1,ys',H',I'.unpinned.weak l8.symm k8,T.keep _ _ _ st7 fun b hb o e=>(I'.pin (b,o) (mem_append_right _ (mem_append_right _ (kI hb e)))).1,fun b hb=>?_,w'⟩;obtain⟨o,e,d⟩:=T.obj _ _ st7 b hb;exact(I'.pin (b,o) (mem_append_right _ (mem_append_right _ (kI hb e)))).2.1
   cases b with
   |false=>
    rw[if_neg Bool.false_ne_true] at q9 ⊢;obtain⟨m',hm,w9⟩:=q9;exact again I9 hm w9
   |true=>
    rw[if_pos rfl] at q9 ⊢;refine wpAny_mono (he s3.heap.objs.size s3 H3 fp pins _ s9 σ8 H9 _ I9 q9) (fun yv s10 h10=>?_) fun _ _ z=>z;obtain⟨y,H10,I10,r10,hl10,hz10,m',hm,w10⟩:=h10;refine wpAny_mono (fP (X:=fR X scope cl Nc s3.heap.objs.size s3 H3 fp pins) _ s10 σ8 H10 (.ref s2.heap.objs.size) [y] _ [yv] (fun v H'=>H'=upd H10 s2.heap.objs.size (.lst (ys++[y]))) I10 rfl (.cons r10 .nil) ⟨_,ys,y,rfl,rfl,hl10,hz10,rfl⟩) (fun _ s11 h11=>?_) fun _ _ z=>z;obtain⟨_,H11,I11,_,e11⟩:=h11;subst e11;exact again I11 hm w10
 have L:=loop (s2.toks+([]:List (Str × Value)).length);rw[show s3.gens=s2.gens by rw[<- hs3],show s3.drawn=s2.drawn by rw[<- hs3],show s3.os=s2.os by rw[<- hs3]] at L;exact codeAny_compStart_list L (T.self _ 0 _ _ _ st4 L)
theorem fH (hc:X.calm=true)(ck:yR X scope cl Nc nl fr)(hi:PI X tg iter wi)(hg:∀C s3 H3 fp pins,PG (fR X scope cl Nc C s3 H3 fp pins) tg g)(ht:∀C s3 H3 fp pins,PIf (fR X scope cl Nc C s3 H3 fp pins) ifs tt)(he:∀C s3 H3 fp pins,PE (fR X scope cl Nc C s3 H3 fp pins) elt te)(hs:∀x,foldedSetIterable iter X.env x=pure x:=by intro _;rfl):PE X (.ListComp elt [⟨tg,iter,ifs,0⟩] scope pos) (Pn wi nl fr g tt te):=by
 intro pins s σ H Q I h;rw[eval_ListComp];refine wpAny_comprehension_free (use:=none) rfl hs ck.clos ck.kind ck.names (Bh (RR:=fun acc C=>compPost (model X.prog X.w) X.A X.xe none (EP X pins σ Q) acc C) hc ck hi hg ht he I h fun D C s' hh=>?_);obtain⟨H',⟨m,hm⟩,hI,hF,q⟩:=hh;exact⟨m,hm,fun h' hs'=>⟨.ref D,H',hI.off hF hs',rfl,q⟩⟩
theorem tJ (hN:X.N.Nodup)(hiy:X.N[i]?=some y)(hy:X.env.scope.names.lookup y=some .local)(hc:X.calm=true)(ck:yR X scope cl Nc nl fr)(hi:PI X tg iter wi)(hg:∀C s3 H3 fp pins,PG (fR X scope cl Nc C s3 H3 fp pins) tg g)(ht:∀C s3 H3 fp pins,PIf (fR X scope cl Nc C s3 H3 fp pins) ifs tt)(he:∀C s3 H3 fp pins,PE (fR X scope cl Nc C s3 H3 fp pins) elt te)(hsw:swapsWith (.ListComp elt [⟨tg,iter,ifs,0⟩] scope pos) (some (.Name y py)) spos.line X.env=pure true)(hs:∀x,foldedSetIterable iter X.env x=pure x:=by intro _;rfl):PS X (.Assign [.Name y py] (.ListComp elt [⟨tg,iter,ifs,0⟩] scope pos) spos) (Xf (Pn wi nl fr g tt te) (iX i)):=by
 intro pins s σ H D I h;rw[exec_Assign_Name_used _ _ _ _ hsw];refine wpAny_bind (wpAny_standAt (wpAny_bind ?_));show wpAny _ X.A (do let _ <- comprehension (.ListComp elt [⟨tg,iter,ifs,0⟩] scope pos) scope X.env _ (newList []) false (eval iter X.env) (some (assign (.Name y py) X.env))) _ _ s;refine wpAny_bind (wpAny_mono (wpAny_comprehension_free (use:=some (assign (.Name y py) X.env)) (Q:=fun _ s'=>SP X pins D .next s') rfl hs ck.clos ck.kind ck.names
  (Bh (RR:=fun acc C=>compPost (model X.prog X.w) X.A X.xe (some (assign (.Name y py) X.env)) (fun _ s'=>SP X pins D .next s') acc C) hc ck hi hg ht he I h fun Dd C s' hh=>?_)) (fun _ s' hq=>wpAny_pure (wpAny_pure hq)) fun _ _ e=>e)
 obtain⟨H',⟨m,hm⟩,hI,hF,q⟩:=hh;show wpAny _ X.A (assign (.Name y py) X.env (.ref Dd)) _ _ _;refine wpAny_assign_Name (xY hI hN hiy (.inl hy) (v:=.ref Dd) rfl (fun s2 I2 hsb=>?_) (.inr hy));obtain⟨a,sb,ha⟩:=hsb;have hCa:C≠a:=by
  rcases ha with z | z
  ·rw[z];exact hF.2.1
  ·exact Ne.symm (hF.2.2.2.2.1 y a z)
 refine⟨m,hm.sameBut sb hCa,fun h' hs'=>⟨_,H',I2.off hF hs',q⟩⟩
end
end L2
namespace Mq
abbrev Q2:=Int × Int
def gc (a b:Int):Int:=(Int.gcd a b:Nat)
theorem Jq (a b:Int):gc b (Int.fmod a b)=gc a b:=by
 unfold gc;rw[Int.fmod_def,Int.gcd_comm a b,Int.sub_eq_add_neg,<- Int.mul_neg,Int.gcd_add_mul_left_right]
theorem wT (h:b≠0):(Int.fmod a b).natAbs < b.natAbs:=by
 rcases (by lia:0 < b\/b < 0) with h1 | h1
 ·have:=Int.fmod_nonneg_of_pos a h1;have:=Int.fmod_lt_of_pos a h1;lia
 ·have h2:0 < -b:=by lia
  have e:Int.fmod a b=- Int.fmod (-a) (-b):=by
   rw[Int.neg_fmod_neg];lia
  have:=Int.fmod_nonneg_of_pos (-a) h2;have:=Int.fmod_lt_of_pos (-a) h2;lia
theorem Jc (a:Int):gc a 0=if a < 0 then -a else a:=by
 unfold gc;rw[Int.gcd_zero];split<;>lia
theorem Zt (a b:Int):gc (if a < 0 then -a else a) (if b < 0 then -b else b)=gc a b:=by
 unfold gc;split<;>split<;>simp
theorem vV (h:b≠0):0 < gc a b:=by
 have:=Int.gcd_pos_of_ne_zero_right a h;unfold gc;lia
structure Low (p:Q2):Prop where
 pos:1<=p.2
 one:gc p.1 p.2=1
def dvr (t b:Int):Int:=if b < 0 then -gc t b else gc t b
def red (t b:Int):Q2:=(Int.fdiv t (dvr t b),Int.fdiv b (dvr t b))
theorem qY (h:b≠0):dvr t b≠0:=by
 have:=vV (a:=t) h;unfold dvr;split<;>lia
theorem gA (hg:g≠0)(h:a=g*k):Int.fdiv a g=k:=by
 rw[h,Int.mul_fdiv_cancel_left _ hg]
theorem To (t b:Int):dvr t b ∣ t/\dvr t b ∣ b:=by
 have h1:gc t b ∣ t:=Int.gcd_dvd_left t b;have h2:gc t b ∣ b:=Int.gcd_dvd_right t b;unfold dvr;split
 ·exact⟨Int.neg_dvd.mpr h1,Int.neg_dvd.mpr h2⟩
 ·exact⟨h1,h2⟩
theorem rB (h:b≠0):t=dvr t b*(red t b).1/\b=dvr t b*(red t b).2:=by
 obtain⟨⟨x,hx⟩,⟨y,hy⟩⟩:=To t b;have hg:=qY (t:=t) h;have e1:(red t b).1=x:=gA hg hx;have e2:(red t b).2=y:=gA hg hy;rw[e1,e2];exact⟨hx,hy⟩
theorem iE (h:b≠0):Low (red t b):=by
 obtain⟨h1,h2⟩:=rB (t:=t) h;have hg:=qY (t:=t) h;have hp:=vV (a:=t) h;have nd:(dvr t b).natAbs=(gc t b).natAbs:=by unfold dvr;split<;>simp
 have e:Int.gcd t b=(dvr t b).natAbs*Int.gcd (red t b).1 (red t b).2:=by
  rw[<- Int.gcd_mul_left,<- h1,<- h2]
 have e2:(gc t b).natAbs=Int.gcd t b:=by unfold gc;simp
 rw[nd,e2] at e;have hp':0 < Int.gcd t b:=by unfold gc at hp;lia
 have one:Int.gcd (red t b).1 (red t b).2=1:=by
  have:Int.gcd t b*Int.gcd (red t b).1 (red t b).2=Int.gcd t b*1:=by lia
  exact Nat.eq_of_mul_eq_mul_left hp' this
 refine⟨?_,by unfold gc;rw[one];rfl⟩;have sgn:0 < (red t b).2:=by
  by_cases hb:b < 0
  ·have hd:dvr t b < 0:=by unfold dvr;rw[if_pos hb];lia
   have hq:¬(red t b).2<=0:=fun q=>by
    have:=Int.mul_nonneg_of_nonpos_of_nonpos (Int.le_of_lt hd) q;lia
   lia
  ·have hd:0 < dvr t b:=by unfold dvr;rw[if_neg hb];lia
   have hq:¬(red t b).2<=0:=fun q=>by
    have:=Int.mul_nonpos_of_nonneg_of_nonpos (Int.le_of_lt hd) q;lia
   lia
 lia
theorem yC (h:b≠0):(red t b).1*b=t*(red t b).2:=by
 obtain⟨h1,h2⟩:=rB (t:=t) h;generalize (red t b).1=x at *
 generalize (red t b).2=y at *
 generalize dvr t b=g at *
 subst h1 h2;grind
theorem iW {a g k:Int}(hg:g≠0)(h:a=g*k):k.natAbs<=a.natAbs:=by
 rw[h,Int.natAbs_mul];exact Nat.le_mul_of_pos_left _ (by lia)
theorem mF (h:b≠0):(red t b).1.natAbs<=t.natAbs/\(red t b).2.natAbs<=b.natAbs:=by
 obtain⟨h1,h2⟩:=rB (t:=t) h;exact⟨iW (qY h) h1,iW (qY h) h2⟩
theorem Es (h:b≠0):(dvr t b).natAbs<=b.natAbs:=by
 have e:(dvr t b).natAbs=Int.gcd t b:=by unfold dvr gc;split<;>simp
 rw[e];exact Int.gcd_le_natAbs_right t h
theorem Of (hp:Low p)(hq:Low q)(h:p.1*q.2=q.1*p.2):p=q:=by
 have gp:Int.gcd p.2 p.1=1:=by have:=hp.one;rw[Int.gcd_comm];unfold gc at this;lia
 have gq:Int.gcd q.2 q.1=1:=by have:=hq.one;rw[Int.gcd_comm];unfold gc at this;lia
 have d1:p.2 ∣ q.2:=by
  have:p.2 ∣ p.1*q.2:=⟨q.1,by rw[h,Int.mul_comm]⟩
  have:=Int.dvd_gcd_mul_iff_dvd_mul.mpr this;rw[gp] at this;simpa using this
 have d2:q.2 ∣ p.2:=by
  have:q.2 ∣ q.1*p.2:=⟨p.1,by rw[<- h,Int.mul_comm]⟩
  have:=Int.dvd_gcd_mul_iff_dvd_mul.mpr this;rw[gq] at this;simpa using this
 have l1:=Int.le_of_dvd (by have:=hq.pos;lia) d1;have l2:=Int.le_of_dvd (by have:=hp.pos;lia) d2;have e2:p.2=q.2:=by lia
 have e1:p.1=q.1:=by
  rw[e2] at h;exact Int.eq_of_mul_eq_mul_right (by have:=hq.pos;lia) h
 exact Prod.ext e1 e2
def iZ (p q:Q2):Q2:=red (p.1*q.2+q.1*p.2) (p.2*q.2)
def minus (p q:Q2):Q2:=red (p.1*q.2 - q.1*p.2) (p.2*q.2)
def gC (p q:Q2):Q2:=red (p.1*q.1) (p.2*q.2)
def fI (p q:Q2):Q2:=red (p.1*q.2) (p.2*q.1)
theorem gQ {a b:Int}(ha:1<=a)(hb:1<=b):a*b≠0:=by
 have:=Int.mul_pos (show 0 < a by lia) (show 0 < b by lia);lia
theorem lW (hp:1<=p.2)(hq:1<=q.2):Low (iZ p q):=iE (gQ hp hq)
def B (n:Nat)(i:Int):Prop:=i.natAbs < 2 ^ n
structure Bd (n:Nat) (p:Q2):Prop where
 a:B n p.1
 b:B n p.2
theorem B.mono (h:B n i)(l:n<=m):B m i:=Nat.lt_of_lt_of_le h (Nat.pow_le_pow_right (by decide) l)
theorem B.mul (h:B n i)(q:B m j):B (n+m) (i*j):=by
 unfold B at *
 rw[Int.natAbs_mul,Nat.pow_add];exact Nat.mul_lt_mul'' h q
theorem B.add (h:B n i)(q:B n j):B (n+1) (i+j):=by
 unfold B at *
 have:=Int.natAbs_add_le i j;rw[Nat.pow_succ];lia
theorem B.neg (h:B n i):B n (-i):=by unfold B at *;lia
theorem B.sub (h:B n i)(q:B n j):B (n+1) (i - j):=by
 rw[Int.sub_eq_add_neg];exact h.add q.neg
theorem B.le (h:B n i)(l:j.natAbs<=i.natAbs):B n j:=Nat.lt_of_le_of_lt l h
theorem Bd.mono (h:Bd n p)(l:n<=m):Bd m p:=⟨h.a.mono l,h.b.mono l⟩
theorem sU (h:Bd n p)(g:Bd m q)(hp:1<=p.2)(hq:1<=q.2):Bd (n+m+1) (iZ p q):=by
 have k:=mF (t:=p.1*q.2+q.1*p.2) (gQ hp hq);have a2:B (n+m) (q.1*p.2):=by rw[Nat.add_comm];exact g.a.mul h.b
 exact⟨((h.a.mul g.b).add a2).le k.1,((h.b.mul g.b).mono (Nat.le_succ _)).le k.2⟩
def Pos (l:List Q2):Prop:=∀f∈l,1<=f.2
end Mq
open Mq (Bd Es Jc Jq Low Q2 dvr fI gA gC gQ gc iE iZ lW mF qY red sU)
namespace L2
open PySem PySem.Spec PyProof.Rows
structure aV (K:Frag) (x qual:Str) (st:Stmt) (dV:Value) (f:Addr) (fd:FuncData):Prop where
 ex:∃(oc:Value) (od:Option Addr) (kV doc pm:Value) (an:Option Addr) (cdv ct:Value) (osl:Array (Option Value)),
  fd=W.fnOf x qual (fA st) (cV st) (aH st) dV kV doc pm an cdv ct/\K.lookup f=some ⟨oc,od,.func fd,osl⟩/\W.codeIn K cdv qual=true
 kp:W.keepIn K (.ref f)=true
section
variable {P:Program} {w:World} {K:Frag} {mg:Str->Option Value} {base:Heap} {CX:CXT}
theorem aV.okX {st:Stmt}(F:aV K x qual st dV f fd)(S:aR N ps (aH st))(len:∀vs H Q E,sp vs H Q E->vs.length=ps.length)(hbody:∀(cdv:Value) (A:Around) (outer:List Env) (s:Shared) (H:Hp) (vs:List V) (Q:VK) (E:XK),hZ k (A.deeper (envOfC qual (aH st) s.heap.objs.size f cdv))->sp vs H Q E->
   ∃t,PSs (Fu CX P w K mg base N qual (aH st) f cdv A outer s H E) (cV st) t/\t { nx:=fun _ H'=>Q .non H',rt:=Q } (start N vs) H):aL P w K mg base CX (k+1) f fd ps sp:=by
 obtain⟨oc,od,kV,doc,pm,an,cdv,ct,osl,rfl,lk,hcd⟩:=F.ex;exact qi7 lk hcd S len fun A outer s H vs Q E hr hsp=>hbody cdv A outer s H vs Q E hr hsp
theorem aV.ok {st:Stmt}(F:aV K x qual st dV f fd)(S:aR N ps (aH st))(len:∀vs H Q E,sp vs H Q E->vs.length=ps.length)(hbody:∀(cdv:Value) (A:Around) (outer:List Env) (s:Shared) (H:Hp) (vs:List V) (Q:VK) (E:XK),hZ k (A.deeper (envOfC qual (aH st) s.heap.objs.size f cdv))->sp vs H Q E->
   ∃t,PSs (Fu CX P w K mg base N qual (aH st) f cdv A outer s H E).nox (cV st) t/\t { nx:=fun _ H'=>Q .non H',rt:=Q } (start N vs) H):aL P w K mg base CX (k+1) f fd ps sp:=
 F.okX S len fun cdv A outer s H vs Q E hr hsp=>by
  obtain⟨t,h,q⟩:=hbody cdv A outer s H vs Q E hr hsp;exact⟨t,h.nox,q⟩
theorem aV.ok9 {st:Stmt}(F:aV K x qual st dV f fd)(S:aR N ps (aH st))(hbody:∀(cdv:Value) (A:Around) (outer:List Env) (s:Shared) (H:Hp) (vs:List V) (Q:VK) (E:XK),hZ k (A.deeper (envOfC qual (aH st) s.heap.objs.size f cdv))->sp vs H Q E->
   ∃t,PSs (Fu CX P w K mg base N qual (aH st) f cdv A outer s H E).nox (cV st) t/\t { nx:=fun _ H'=>Q .non H',rt:=Q } (start N vs) H)(len:∀vs H Q E,sp vs H Q E->vs.length=ps.length:=by intro _ _ _ _ h;first|(cases h;subst_vars;rfl)|(repeat (first | (obtain⟨rfl,_⟩:=h;rfl) | obtain⟨_,h⟩:=h))):aL P w K mg base CX (k+1) f fd ps sp:=F.ok S len hbody
theorem aV.binds {st:Stmt}(F:aV K x qual st dV f fd)(h:∀(kV doc pm:Value) (an:Option Addr) (cdv ct:Value) (us:List Value),us.length=ps.length->bindArgs (W.fnOf x qual (fA st) (cV st) (aH st) dV kV doc pm an cdv ct) ⟨us,[]⟩=pure (ps.zip us)):aM K fd ps []:=by
 obtain⟨oc,od,kV,doc,pm,an,cdv,ct,osl,rfl,lk,hcd⟩:=F.ex;exact .all (h kV doc pm an cdv ct)
theorem rV {st:Stmt}{kV doc pm cdv ct:Value}(l:K.lookup f=some ⟨oc,od,.func (W.fnOf x qual (fA st) (cV st) (aH st) dV kV doc pm an cdv ct),osl⟩)(c:W.codeIn K cdv qual=true)(k:kI9 K f):aV K x qual st dV f (W.fnOf x qual (fA st) (cV st) (aH st) dV kV doc pm an cdv ct):=⟨⟨oc,od,kV,doc,pm,an,cdv,ct,osl,rfl,l,c⟩,k⟩
end
abbrev fT (p:Q2):HO:=.tup [.int p.1,.int p.2]
def Fq (K:Frag)(H:Hp)(a:Addr)(p:Q2):Prop:=SqT K H a [.int p.1,.int p.2]
theorem aZ.seqT {K:Frag}(e:aZ H H')(h:SqT K H a xs):SqT K H' a xs:=by
 rcases h with (h | ⟨o,h⟩) | h
 ·exact .inl (.inl (e _ _ h))
 ·exact .inl (.inr ⟨o,e _ _ h⟩)
 ·exact .inr h
theorem aI (h:H p=none)(o:HO):aZ H (upd H p o):=fun b u q=>by rw[aY (aU q h)];exact q
theorem aZ.fq {K:Frag}(e:aZ H H')(h:Fq K H a p):Fq K H' a p:=e.seqT h
theorem Fq.of {K:Frag}(h:H a=some (fT p)):Fq K H a p:=SqT.of h
theorem dQ {K:Frag}(hv:σ[i]?=some (some (.ref a)))(h:Fq K H a p)(q:Q (.int p.1) H):tOp (Ov K) (Ow i) (tC (.int 0)) σ H Q:=
 ⟨_,hv,a,_,_,_,rfl,rfl,h,rfl,q⟩
theorem cK {K:Frag}(hv:σ[i]?=some (some (.ref a)))(h:Fq K H a p)(q:Q (.int p.2) H):tOp (Ov K) (Ow i) (tC (.int 1)) σ H Q:=
 ⟨_,hv,a,_,_,_,rfl,rfl,h,rfl,q⟩
theorem cJ (h1:Mq.B n i)(h2:Mq.B m j)(h3:n<=1048576)(h4:m<=1048576)(q:Q (.int (i*j)) H):rI Ui (fun i j=>.int (i*j)) (.int i) (.int j) H Q:=
 ⟨_,_,rfl,rfl,⟨n,m,h1,h2,h3,h4⟩,q⟩
theorem gB (h1:j≠0)(h2:Mq.B n j)(h3:n<=9000)(q:Q (.int (i.fdiv j)) H):rI Io (fun i j=>.int (i.fdiv j)) (.int i) (.int j) H Q:=
 ⟨_,_,rfl,rfl,⟨h1,n,h2,h3⟩,q⟩
structure Bl (mg:Str->Option Value):Prop where
 isi:mg "isinstance"=none
 int:mg "int"=none
 bool:mg "bool"=none
 abs:mg "abs"=none
def uF (t:Value):Prop:=t=.type "bool"\/t=.type "str"\/t=.type "NoneType"\/t=.type "tuple"\/t=.type "list"
inductive mL (K:Frag) (vs:List V) (H:Hp) (Q:VK) (E:XK):Prop where
 |mk (x):vs=[x]->((∃i,x=.int i/\Q (.bl true) H)\/(∃t,mZ K H x t/\uF t/\Q (.bl false) H))->mL K vs H Q E
inductive Sh (vs:List V) (H:Hp) (Q:VK) (E:XK):Prop where
 |mk (a b:Int):vs=[.int a,.int b]->Q (.int (gc a b)) H->Sh vs H Q E
def mD (H:Hp)(Q:VK)(p:Q2):Prop:=∀a H',aZ H H'->H' a=some (fT p)->Q (.ref a) H'
inductive gP (vs:List V) (H:Hp) (Q:VK) (E:XK):Prop where
 |mk (t b:Int) (n:Nat):vs=[.int t,.int b]->b≠0->Mq.B n b->n<=9000->mD H Q (red t b)->gP vs H Q E
inductive gS (K:Frag) (f:Q2->Q2->Q2) (vs:List V) (H:Hp) (Q:VK) (E:XK):Prop where
 |mk (a b:Addr) (p q:Q2) (n m:Nat):vs=[.ref a,.ref b]->Fq K H a p->Fq K H b q->1<=p.2->1<=q.2->Bd n p->Bd m q->n+m+1<=9000->mD H Q (f p q)->gS K f vs H Q E
inductive Fqs (K:Frag) (H:Hp):List V->List Q2->Prop where
 |nil:Fqs K H [] []
 |cons {a:Addr} {p:Q2} {xs:List V} {ps:List Q2} (h:Fq K H a p) (q:Fqs K H xs ps):Fqs K H (.ref a :: xs) (p :: ps)
theorem Fqs.same {K:Frag}(e:aZ H H'):∀{xs:List V} {ps:List Q2},Fqs K H xs ps->Fqs K H' xs ps
 |_,_,.nil=>.nil
 |_,_,.cons h q=>.cons (e.fq h) (Fqs.same e q)
theorem Fqs.length {K:Frag}:∀{xs:List V} {ps:List Q2},Fqs K H xs ps->xs.length=ps.length
 |_,_,.nil=>rfl
 |_,_,.cons _ q=>by simp[Fqs.length q]
theorem Fqs.get {K:Frag}:∀{xs:List V} {ps:List Q2} {i:Nat} {x:V},Fqs K H xs ps->xs[i]?=some x->∃a p,x=.ref a/\ps[i]?=some p/\Fq K H a p
 |_,_,_,_,.nil,h=>by simp at h
 |_,_,0,_,.cons h _,e=>by simp at e;exact⟨_,_,e.symm,rfl,h⟩
 |_,_,i+1,_,.cons _ q,e=>by simpa using Fqs.get q (by simpa using e)
theorem Fqs.app {K:Frag}:∀{xs ys:List V} {ps qs:List Q2},Fqs K H xs ps->Fqs K H ys qs->Fqs K H (xs++ys) (ps++qs)
 |_,_,_,_,.nil,r=>r
 |_,_,_,_,.cons h q,r=>.cons h (Fqs.app q r)
theorem Fq.upd {K:Frag}(h:Fq K H a p)(hl:H l=some (.lst xs)):Fq K (L2.upd H l o) a p:=by
 rcases h with (h | ⟨u,h⟩) | h
 ·exact .inl (.inl (by rw[aY (dL h hl (fun z=>by cases z))];exact h))
 ·exact .inl (.inr ⟨u,by rw[aY (dL h hl (fun z=>by cases z))];exact h⟩)
 ·exact .inr h
theorem Fqs.upd {K:Frag}(hl:H l=some (.lst ys)):∀{xs:List V} {ps:List Q2},Fqs K H xs ps->Fqs K (L2.upd H l o) xs ps
 |_,_,.nil=>.nil
 |_,_,.cons h q=>.cons (h.upd hl) (Fqs.upd hl q)
theorem aZ.change (s:aZ H H')(h:H l=none):aZ H (L2.upd H' l o):=fun b u q=>by
 rw[aY (aU q h)];exact s b u q
def qd (p:Q2):PyData:=.tuple [.int p.1,.int p.2]
theorem Fq.dat {K:Frag}(h:Fq K H a p):pF K H (.ref a) (qd p):=.tup h (.cons (.int _) (.cons (.int _) .nil))
theorem Fqs.dat {K:Frag}:∀{xs:List V} {ps:List Q2},Fqs K H xs ps->uI K H xs (ps.map qd)
 |_,_,.nil=>.nil
 |_,_,.cons h q=>.cons h.dat (Fqs.dat q)
theorem Ep (p:Q2):(qd p).canLay0=true:=rfl
theorem rZ:∀ps:List Q2,PyData.canLayAll0 (ps.map qd)=true
 | []=>rfl
 |p :: r=>by
  show ((qd p).canLay0 && PyData.canLayAll0 (r.map qd))=true;rw[Ep,rZ r];rfl
theorem Bn (p:Q2):(qd p).depth<=1:=by simp[qd,PyData.depth,PyData.depthAll]
theorem xV:∀ps:List Q2,PyData.depthAll (ps.map qd)<=1
 | []=>by simp[PyData.depthAll]
 |p :: r=>by
  have a:=Bn p;have b:=xV r;simp only[map_cons,PyData.depthAll];lia
theorem Gw (ps:List Q2):(PyData.list (ps.map qd)).depth<=2:=by
 have:=xV ps;simp only[PyData.depth];lia
theorem Xs (p q:Q2):PyData.eqv (qd p) (qd q)=decide (p=q):=by
 unfold qd;simp only[PyData.eqv,PyData.eqvAll]
 by_cases h:p=q
 ·subst h;simp
 ·rw[decide_eq_false h]
  by_cases h1:p.1=q.1
  ·have h2:p.2≠q.2:=fun z=>h (Prod.ext h1 z);simp[h2]
  ·simp[h1]
theorem yU {K:Frag}(h1:Fq K H a p)(h2:Fq K H b q)(z:Q (.bl (if neg then !decide (p=q) else decide (p=q))) H):Fe K neg (.ref a) (.ref b) H Q:=by
 refine⟨_,_,h1.dat,h2.dat,Ep p,Ep q,?_,?_⟩
 ·have:=Bn p;lia
 ·rw[Xs];exact z
theorem qa2 {K:Frag}(h1:SqL K H a xs)(h2:SqL K H b ys)(f1:Fqs K H xs ps)(f2:Fqs K H ys ps)(z:Q (.bl (!neg)) H):Fe K neg (.ref a) (.ref b) H Q:=by
 refine⟨_,_,.lst h1 f1.dat,.lst h2 f2.dat,?_,?_,?_,?_⟩
 ·exact rZ ps
 ·exact rZ ps
 ·have:=Gw ps;lia
 ·have e:PyData.eqv (.list (ps.map qd)) (.list (ps.map qd))=true:=PySem.SeqAt.eqv_refl _ (rZ ps);rw[e]
  cases neg<;>exact z
abbrev Ih (nl:Nat)(fr:List Nat)(g:TG)(tt:TT)(te:TE)(σ:St)(D:Addr)(Pv:Nat->List V->Hp->Prop)(i:Nat)(ys:List V)(x:V)(H:Hp):Prop:=
 g x (σC nl fr σ) H fun σ2 H4=>σ2.length=(σC nl fr σ).length/\(∀(i:Nat) v,(σC nl fr σ)[i]?=some (some v)->σ2[i]?=some (some v))/\
  tt σ2 H4 fun b H5=>if b=true then te σ2 H5 fun y H6=>H6 D=some (.lst ys)/\ys.length < sizeLine/\Pv (i+1) (ys++[y]) (upd H6 D (.lst (ys++[y]))) else Pv (i+1) ys H5
section
variable {nl:Nat} {fr:List Nat} {g:TG} {tt:TT} {te:TE} {σ:St} {D:Addr} {H1:Hp} {Q:VK}
theorem uX {lo:Int}(Pv:Nat->List V->Hp->Prop)(h0:Pv 0 [] (upd H1 D (.lst [])))(hl:∀i ys H,Pv i ys H->H D=some (.lst ys))(hs:∀i ys H,i < n->Pv i ys H->∀(C:Nat->List V->Hp->Prop),(∀ys H,Pv (i+1) ys H->C (i+1) ys H)->Ih nl fr g tt te σ D C i ys (.int (lo+i)) H)(hd:∀ys H,Pv n ys H->Q (.ref D) H):
  Bx (Itr lo n) nl fr g tt te σ D H1 Q:=by
 refine⟨fun i m ys H=>m=n - i/\i<=n/\Pv i ys H,⟨n,by simp,Nat.zero_le _,h0⟩,?_⟩;rintro i m ys H ⟨rfl,hi,p⟩;refine⟨hl i ys H p,?_⟩
 by_cases hlt:i < n
 ·refine .inr ⟨hlt,fun x H' y=>?_⟩;obtain⟨e,y⟩:=y;subst e y;exact hs i ys _ hlt p (fun j zs Hz=>∃m',m' < n - i/\m'=n - j/\j<=n/\Pv j zs Hz) fun zs Hz z=>⟨n - (i+1),by lia,rfl,hlt,z⟩
 ·have e:i=n:=by lia
  subst e;exact .inl ⟨Nat.le_refl _,hd ys H p⟩
theorem fB {K:Frag}(Pv:Nat->List V->Hp->Prop)(h0:Pv 0 [] (upd H1 D (.lst [])))(hl:∀i ys H,Pv i ys H->H D=some (.lst ys))(hx:∀i ys H,i<=xs.length->Pv i ys H->SqL K H a xs)(hs:∀i ys x H,xs[i]?=some x->Pv i ys H->∀(C:Nat->List V->Hp->Prop),(∀ys H,Pv (i+1) ys H->C (i+1) ys H)->Ih nl fr g tt te σ D C i ys x H)(hd:∀ys H,Pv xs.length ys H->Q (.ref D) H):
  Bx (Itl K a) nl fr g tt te σ D H1 Q:=by
 refine⟨fun i m ys H=>m=xs.length - i/\i<=xs.length/\Pv i ys H,⟨xs.length,by simp,Nat.zero_le _,h0⟩,?_⟩;rintro i m ys H ⟨rfl,hi,p⟩;refine⟨hl i ys H p,?_⟩;have q:=hx i ys H hi p
 by_cases hlt:i < xs.length
 ·refine .inr ⟨⟨xs,xs[i],q,by simp[hlt]⟩,fun x H' y=>?_⟩;obtain⟨e,y⟩:=y;subst e;exact hs i ys x _ (y xs q) p (fun j zs Hz=>∃m',m' < xs.length - i/\m'=xs.length - j/\j<=xs.length/\Pv j zs Hz) fun zs Hz z=>⟨xs.length - (i+1),by lia,rfl,hlt,z⟩
 ·have e:i=xs.length:=by lia
  subst e;exact .inl ⟨⟨xs,q,Nat.le_refl _⟩,hd ys H p⟩
end
theorem gF:((σC 1 fr σ).set 0 (some x)).length=(σC 1 fr σ).length/\∀(i:Nat) v,(σC 1 fr σ)[i]?=some (some v)->((σC 1 fr σ).set 0 (some x))[i]?=some (some v):=by
 refine⟨by simp,fun i v h=>?_⟩
 match i with
 |0=>unfold σC at h;simp at h
 |k+1=>rw[getElem?_set_ne (by lia)];exact h
theorem fG {names:List (Str × NameKind)}{cl:List (Str × Addr)}(h:names.all (fun y=>!(y.2 == .cell || y.2 == .free) || (cl.lookup y.1).isSome)=true)(x:Str)(hx:names.lookup x=some .cell\/names.lookup x=some .free):∃c,cl.lookup x=some c:=by
 have key:∀k,(k=NameKind.cell\/k=NameKind.free)->names.lookup x=some k->∃c,cl.lookup x=some c:=fun k hk e=>by
  have m:=all_eq_true.mp h _ (PySem.mem_of_lookup e);have:(k == NameKind.cell || k == NameKind.free)=true:=by rcases hk with rfl | rfl<;>rfl
  simp only[this,Bool.not_true,Bool.false_or] at m;exact Option.isSome_iff_exists.mp m
 rcases hx with e | e
 ·exact key _ (.inl rfl) e
 ·exact key _ (.inr rfl) e
section
variable {X:Cx} {pins:List (Addr × Obj)} {σ:St} {H:Hp} {s:Shared} {h':Heap}
theorem Inv.turnedL {fp:List Addr}(I:Inv X pins σ H s)(k:∀b o,b∉fp->s.heap.get? b=some o->h'.get? b=some o)(hf:∀b∈fp,mY X pins H b):Inv X pins σ H { s with heap:=h',toks:=t' }:=by
 have nit:∀b u,H b=some u->b∉fp:=fun b u e z=>by rw[(hf b z).1] at e;cases e
 have nL:X.env.locals∉fp:=fun z=>(hf _ z).2.1 rfl;refine I.step (g':=s.gens) (d':=s.drawn) (ch:=fp) (fun b hb=>?_) (fun b o _ _ hc e _=>k b o hc e) (fun b o _ _ hc e _=>⟨o.slots,k b o hc e⟩) (fun _ _ _ _ n=>n)
  (fun b o hc e=>⟨o,k b o hc e⟩) (fun _ _ e=>e) (fun _ _ _ e=>e) (fun b ps e=>⟨#[],by rw[e];simp⟩) (fun m hm=>?_) (fun b u e=>?_) I.bare
 ·obtain⟨f0,f1,f2,f3,f4,f5⟩:=hf b hb;exact⟨f3,f1,f4,f5⟩
 ·obtain⟨o,es,ep,ho,r⟩:=hm;exact⟨o,es,ep,k _ o nL ho,r⟩
 ·refine(I.hok b u e).stay (fun c v hc q=>k c v ?_ q) (fun _ q=>q) fun _ _ q=>q;rcases hc with z | z
  ·rw[z];exact nit b u e
  ·exact nit c _ z
end
def Itz (K : Frag)(a b : Addr) : It :=
  ⟨fun i H => ∃ xs ys x y, SqL K H a xs /\ SqL K H b ys /\ xs[i]? = some x /\ ys[i]? = some y,
   fun i H v H' => ∃ T x y, v = .ref T /\ H T = none /\ H' = upd H T (.tup [x, y]) /\ ∀ xs ys, SqL K H a xs -> SqL K H b ys -> xs[i]? = some x /\ ys[i]? = some y,
   fun i H => ∃ xs ys, SqL K H a xs /\ SqL K H b ys /\ (xs.length <= i \/ ys.length <= i)⟩
def qj3 (z TI TO i1 i2 l1 l2:Addr)(i:Nat)(h:Heap):Prop:=
 ZipApart z TI TO i1 i2 l1 l2/\IsZip h z TI TO .none/\IsPair h TI (.ref i1) (.ref i2)/\(∃a b,IsPair h TO a b)/\h.IsListIter i1 l1 i/\h.IsListIter i2 l2 i
theorem Op {K:Frag}(z TI TO i1 i2 l1 l2:Addr):
  Ku P w K (.Tuple elts kk tpos) (Itz K l1 l2) [z,TI,TO,i1,i2] z (qj3 z TI TO i1 i2 l1 l2) where
 mem:=by simp
 obj:=fun i h st b hb=>by
  obtain⟨ap,hz,hi,⟨a,c,ho⟩,⟨o1,e1,c1,d1⟩,⟨o2,e2,c2,d2⟩⟩:=st;simp only[mem_cons,not_mem_nil,or_false] at hb;rcases hb with rfl | rfl | rfl | rfl | rfl
  ·exact⟨_,hz,fun v q=>by cases q⟩
  ·exact⟨_,hi,fun v q=>by cases q⟩
  ·exact⟨_,ho,fun v q=>by cases q⟩
  ·exact⟨o1,e1,fun v q=>by rw[d1] at q;cases q⟩
  ·exact⟨o2,e2,fun v q=>by rw[d2] at q;cases q⟩
 keep:=fun i h h' st k=>by
  obtain⟨ap,hz,hi,⟨a,c,ho⟩,⟨o1,e1,c1,d1⟩,⟨o2,e2,c2,d2⟩⟩:=st;exact⟨ap,k _ (by simp) _ hz,k _ (by simp) _ hi,⟨a,c,k _ (by simp) _ ho⟩,⟨o1,k _ (by simp) _ e1,c1,d1⟩,⟨o2,k _ (by simp) _ e2,c2,d2⟩⟩
 item:=by
  intro X hP hw hK hc i pins s σ H E I hf st hg;subst hP hw hK;obtain⟨ap,hz,hi,⟨a,c,ho⟩,t1,t2⟩:=st;obtain⟨xs,ys,x,y,hx,hy,ex,ey⟩:=hg;obtain⟨its1,rv1,p1,z1⟩:=I.list hx;obtain⟨its2,rv2,p2,z2⟩:=I.list hy;obtain⟨u1,hu1,ru1⟩:=rv1.get ex;obtain⟨u2,hu2,ru2⟩:=rv2.get ey;refine wpAny_pyNext_zip_item ap hz hi ho t1 t2 p1.isList p2.isList (x:=u1) (y:=u2) (by simpa using hu1) (by simpa using hu2) fun h' g1 g2 g3 g4 g5 g6 kk'=>?_;have hn:H s.heap.objs.size=none:=I.hok.fresh (Nat.le_refl _);have lt:∀b∈[z,TI,TO,i1,i2],b < s.heap.objs.size:=fun b hb=>by
   simp only[mem_cons,not_mem_nil,or_false] at hb;obtain⟨o1,e1,_⟩:=t1;obtain⟨o2,e2,_⟩:=t2;rcases hb with rfl | rfl | rfl | rfl | rfl
   ·exact Heap.lt_size hz
   ·exact Heap.lt_size hi
   ·exact Heap.lt_size ho
   ·exact Heap.lt_size e1
   ·exact Heap.lt_size e2
  have I1:Inv X pins σ (upd H s.heap.objs.size (.tup [x,y])) { s with heap:=s.heap.push { cls:=.type "tuple",data:=.seq #[u1,u2] } }:=
   I.laid (t':=s.toks) (fun b o e=>Heap.get?_push_of_some _ e) (Nat.le_refl _) (show eP X.prog X.w _ _ _ (.tup [x,y]) from ⟨zl9 2,[u1,u2],.cons ru1 (.cons ru2 .nil),IsTup.new _ _⟩)
  have hf1:∀b∈[z,TI,TO,i1,i2],mY X pins (upd H s.heap.objs.size (.tup [x,y])) b:=fun b hb=>⟨by rw[aY (Nat.ne_of_lt (lt b hb))];exact(hf b hb).1,(hf b hb).2⟩
  have k1:∀b o,b∉[z,TI,TO,i1,i2]->(s.heap.push { cls:=.type "tuple",data:=.seq #[u1,u2] }).get? b=some o->h'.get? b=some o:=fun b o nb e=>by
   simp only[mem_cons,not_mem_nil,or_false,not_or] at nb
   by_cases hb:b=s.heap.objs.size
   ·subst hb;rw[Heap.get?_push_size _ rfl] at e
    cases e
    exact g5
   ·have e0:s.heap.get? b=some o:=by rw[Heap.get?_push_ne _ _ _ hb] at e;exact e
    exact kk' b o nb.1 nb.2.2.1 nb.2.2.2.1 nb.2.2.2.2 e0
  have I2:Inv X pins σ (upd H s.heap.objs.size (.tup [x,y])) { s with heap:=h',toks:=s.toks }:=I1.turnedL (t':=s.toks) k1 hf1;refine⟨_,rfl,wpAny_letOwnedTupleGo_zip (s:={ s with heap:=h' }) g1 fun h2 q1 q2=>?_⟩;have kz:∀b o,b≠z->h'.get? b=some o->h2.get? b=some o:=fun b o nb e=>(q2.2 b nb).trans e;have I3:Inv X pins σ (upd H s.heap.objs.size (.tup [x,y])) { s with heap:=h2,toks:=s.toks }:=Inv.turnedL (s:={ s with heap:=h',toks:=s.toks }) (t':=s.toks) (fp:=[z]) I2 (fun b o nb e=>kz b o (by simpa using nb) e) fun b hb=>hf1 b (by simp at hb;simp[hb]);have hTI:h'.get? TI=some { cls:=.type "tuple",data:=.seq #[.ref i1,.ref i2] }:=kk' TI _ ap.TIz ap.TITO ap.TIi1 ap.TIi2 hi;obtain⟨o3,e3,c3,d3⟩:=g3;obtain⟨o4,e4,c4,d4⟩:=g4;refine⟨.ref s.heap.objs.size,_,I3,rfl,⟨_,x,y,rfl,hn,rfl,fun xs' ys' h1 h2=>?_⟩,⟨ap,q1,kz _ _ ap.TIz hTI,⟨_,_,kz _ _ ap.TOz g2⟩,⟨o3,kz _ _ ap.i1z e3,c3,d3⟩,⟨o4,kz _ _ ap.i2z e4,c4,d4⟩⟩,fun b hb=>(hf1 b hb).1⟩;rw[I.list_inj h1 hx,I.list_inj h2 hy];exact⟨ex,ey⟩
 done:=by
  intro X hP hw hK hc i pins s σ H E I hf st hg;subst hP hw hK;obtain⟨ap,hz,hi,⟨a,c,ho⟩,t1,t2⟩:=st;obtain⟨xs,ys,hx,hy,hor⟩:=hg;obtain⟨its1,rv1,p1,z1⟩:=I.list hx;obtain⟨its2,rv2,p2,z2⟩:=I.list hy;have l1':=rv1.length;have l2':=rv2.length;refine wpAny_pyNext_zip_end (I.ok.hd hc) ap hz hi ho t1 t2 p1.isList p2.isList (by rcases hor with h | h;left;simp;lia;right;simp;lia) fun h' kk'=>⟨rfl,?_⟩
  refine I.turnedL (t':=s.toks) (fun b o nb e=>?_) hf;simp only[mem_cons,not_mem_nil,or_false,not_or] at nb;exact kk' b o nb.1 nb.2.2.1 nb.2.2.2.1 nb.2.2.2.2 e
 self:=fun A i s Q E st h=>by
  obtain⟨ap,hz,hi,⟨a,c,ho⟩,t1,t2⟩:=st;exact wpAny_pyIter_zip hz h
section
variable {X:Cx}
def ql9 (K:Frag)(ta:TA):TI:=fun σ H R=>ta σ H fun vs H1=>∃a b,vs=[.ref a,.ref b]/\(∃xs,SqL K H1 a xs)/\(∃ys,SqL K H1 b ys)/\R (Itz K a b) H1
theorem Pu (hg:Gl X "zip")(hm:X.mg "zip"=none)(hv:bootBuiltins "zip"=some (.type "zip"))(ha:PA X [e1,e2] ta)(hs:starEach [e1,e2] X.env=(false,eval e1 X.env) :: starEach [e2] X.env:=by rfl)(hpl:(backTo pos (starEach [e2] X.env)).any (·.1)=false:=by rfl):PI X (.Tuple elts kk tpos) (.Call (.Name "zip" p) [e1,e2] [] pos) (ql9 X.K ta):=by
 intro pins s σ H R I h;refine Call_ (kE I hg hm hv (PyProof.Rows.callWith_type1 (thn (ha pos pins s σ H _ I h) fun us s1 ⟨vs,H1,I1,r1,q1⟩=>?_) hs hpl));obtain⟨a,b,rfl,⟨xs,hx⟩,⟨ys,hy⟩,q⟩:=q1;obtain⟨u,w',rfl,ra,rb⟩:=Mz r1
 cases (show u=Value.ref a from ra)
 cases (show w'=Value.ref b from rb)
 obtain⟨its1,rv1,p1,z1⟩:=I1.list hx;obtain⟨its2,rv2,p2,z2⟩:=I1.list hy;have la:a < s1.heap.objs.size:=by obtain⟨o,e,_⟩:=p1.isList;exact Heap.lt_size e
 have lb:b < s1.heap.objs.size:=by obtain⟨o,e,_⟩:=p2.isList;exact Heap.lt_size e
 refine call_zip_2 p1.isList p2.isList fun h' g1 g2 g3 g4 g5 g6 kk'=>?_;refine wpAny_pyIter_zip g1 ?_;have ne:∀i j:Nat,i≠j->s1.heap.objs.size+i≠s1.heap.objs.size+j:=fun i j n e=>n (Nat.add_left_cancel e);have nl:∀(c:Addr) (i:Nat),c < s1.heap.objs.size->c≠s1.heap.objs.size+i:=fun c i l e=>absurd (Nat.lt_of_lt_of_le l (Nat.le_add_right _ i)) (by rw[<- e];exact Nat.lt_irrefl _);have n0:∀j:Nat,j≠0->s1.heap.objs.size+j≠s1.heap.objs.size:=fun j n e=>n (Nat.add_left_cancel (e.trans (Nat.add_zero _).symm));refine⟨s1.heap.objs.size+4,[s1.heap.objs.size+4,s1.heap.objs.size+2,s1.heap.objs.size+3,s1.heap.objs.size,s1.heap.objs.size+1],_,Itz X.K a b,H1,rfl,I1.kept (t':=s1.toks) kk',Op _ _ _ _ _ a b,⟨?_,g1,g2,⟨_,_,g3⟩,g4,g5⟩,fun c hc=>?_,q⟩
 ·exact⟨ne 2 4 (by decide),ne 3 4 (by decide),(n0 4 (by decide)).symm,ne 1 4 (by decide),ne 2 3 (by decide),n0 2 (by decide),ne 2 1 (by decide),n0 3 (by decide),ne 3 1 (by decide),(n0 1 (by decide)).symm,
   nl a 4 la,nl a 3 la,Nat.ne_of_lt la,nl a 1 la,nl b 4 lb,nl b 3 lb,Nat.ne_of_lt lb,nl b 1 lb⟩
 ·have hle:s1.heap.objs.size<=c:=by
   simp only[mem_cons,not_mem_nil,or_false] at hc;rcases hc with rfl | rfl | rfl | rfl | rfl<;>first | exact Nat.le_add_right _ _ | exact Nat.le_refl _
  exact I1.fpOk hle (I1.hok.fresh hle)
theorem Be {K:Frag}(Pv:Nat->List V->Hp->Prop)(h0:Pv 0 [] (upd H1 D (.lst [])))(hl:∀i zs H,Pv i zs H->H D=some (.lst zs))(hx:∀i zs H,i<=min xs.length ys.length->Pv i zs H->SqL K H a xs/\SqL K H b ys)(hs:∀i zs x y H T,xs[i]?=some x->ys[i]?=some y->Pv i zs H->H T=none->∀(C:Nat->List V->Hp->Prop),(∀zs H,Pv (i+1) zs H->C (i+1) zs H)->Ih nl fr g tt te σ D C i zs (.ref T) (upd H T (.tup [x,y])))(hd:∀zs H,Pv (min xs.length ys.length) zs H->Q (.ref D) H):
  Bx (Itz K a b) nl fr g tt te σ D H1 Q:=by
 refine⟨fun i m zs H=>m=min xs.length ys.length - i/\i<=min xs.length ys.length/\Pv i zs H,⟨_,rfl,Nat.zero_le _,h0⟩,?_⟩;rintro i m zs H ⟨rfl,hi,p⟩;refine⟨hl i zs H p,?_⟩;obtain⟨qx,qy⟩:=hx i zs H hi p
 by_cases hlt:i < min xs.length ys.length
 ·have hx':i < xs.length:=by lia
  have hy':i < ys.length:=by lia
  refine .inr ⟨⟨xs,ys,xs[i],ys[i],qx,qy,by simp[hx'],by simp[hy']⟩,fun v H' z=>?_⟩;obtain⟨T,x,y,rfl,hT,rfl,hh⟩:=z;obtain⟨ex,ey⟩:=hh xs ys qx qy;exact hs i zs x y H T ex ey p hT (fun j zs Hz=>∃m',m' < min xs.length ys.length - i/\m'=min xs.length ys.length - j/\j<=min xs.length ys.length/\Pv j zs Hz) fun zs Hz z=>⟨min xs.length ys.length - (i+1),by lia,rfl,hlt,z⟩
 ·have e:i=min xs.length ys.length:=by lia
  subst e;exact .inl ⟨⟨xs,ys,qx,qy,by lia⟩,hd zs H p⟩
inductive Il (x:V) (vs:List V) (H:Hp) (Q:VK):Prop where
 |mk (l:Addr) (xs:List V) (k:Nat) (i:Int) (y:V):x=.ref l->vs=[.int i,y]->i=(k:Int)->k<=xs.length->H l=some (.lst xs)->xs.length < sizeLine->Q .non (upd H l (.lst (xs.take k++y :: xs.drop k)))->Il x vs H Q
theorem Lo:MtM X "list.insert" Il:=by
 intro pins s σ H x vs v us Q I rx rv h;obtain⟨l,xs,k,i,y,rfl,rfl,hik,hk,hH,hz,q⟩:=h
 cases rx
 obtain⟨u1,u2,rfl,⟨t,rfl⟩,ru⟩:=Mz rv;obtain⟨z,its,n,r,hl,e⟩:=I.lstM hH;have hs:sizeLine=16777216:=sizeLine_eq;have hfit:¬(!Builtin.List.listFitsIndex i)=true:=by
  rw[fitsIndex_both (by lia) (by lia)];exact Bool.false_ne_true
 have hM:=AutoSeq1.list_insert_list_int_val_1 l its.toArray n i t u2 hfit (by rw[size_toArray];lia);refine call_meets F.slot_list_insert ⟨_,e,rfl⟩ F.entry_list_insert (F.args_list_insert_3 (Value.ref l) (Value.int i t) u2) hM ⟨e,?_⟩;refine⟨.non,_,I.lset (its':=its.take k++u2 :: its.drop k) hH e ?_ ((r.take k).append (.cons ru (r.drop k))) ?_,rfl,q⟩
 ·have ek:(if i < 0 then (i+(its.toArray.size:Int)).toNat else min i.toNat its.toArray.size)=k:=by
   rw[if_neg (by lia),size_toArray];lia
  show (its.toArray.extract 0 (if i < 0 then (i+(its.toArray.size:Int)).toNat else min i.toNat its.toArray.size)).push u2++its.toArray.extract (if i < 0 then (i+(its.toArray.size:Int)).toNat else min i.toNat its.toArray.size)=_;rw[ek];apply Array.ext';simp[take_of_length_le]
 ·rw[List.length_append,length_cons,length_take,length_drop];lia
end
abbrev TH:=Addr->Value->Option Addr->mE->St->Hp->Prop
end L2
namespace Mq
theorem dD (hp:1<=p.2)(hq:1<=q.2):Low (minus p q):=iE (gQ hp hq)
theorem jX (hp:1<=p.2)(hq:1<=q.2):Low (gC p q):=iE (gQ hp hq)
theorem pK {p q:Q2}(hp:1<=p.2)(hq:q.1≠0):p.2*q.1≠0:=Int.mul_ne_zero (by lia) hq
theorem iH (hp:1<=p.2)(hq:q.1≠0):Low (fI p q):=iE (pK hp hq)
theorem iI (h:Bd n p)(g:Bd m q)(hp:1<=p.2)(hq:1<=q.2):Bd (n+m+1) (minus p q):=by
 have k:=mF (t:=p.1*q.2 - q.1*p.2) (gQ hp hq);have a2:B (n+m) (q.1*p.2):=by rw[Nat.add_comm];exact g.a.mul h.b
 exact⟨((h.a.mul g.b).sub a2).le k.1,((h.b.mul g.b).mono (Nat.le_succ _)).le k.2⟩
theorem oT (h:Bd n p)(g:Bd m q)(hp:1<=p.2)(hq:1<=q.2):Bd (n+m) (gC p q):=by
 have k:=mF (t:=p.1*q.1) (gQ hp hq);exact⟨(h.a.mul g.a).le k.1,(h.b.mul g.b).le k.2⟩
theorem oS (h:Bd n p)(g:Bd m q)(hp:1<=p.2)(hq:q.1≠0):Bd (n+m) (fI p q):=by
 have k:=mF (t:=p.1*q.2) (pK hp hq);exact⟨(h.a.mul g.b).le k.1,(h.b.mul g.a).le k.2⟩
end Mq
open Mq (dD iH iI jX oS oT pK)
namespace L2
open PySem PySem.Spec PyProof.Rows
inductive yZ (K:Frag) (vs:List V) (H:Hp) (Q:VK) (E:XK):Prop where
 |mk (a b:Addr) (p q:Q2) (n m:Nat):vs=[.ref a,.ref b]->Fq K H a p->Fq K H b q->Bd n p->Bd m q->n+m+1<=9000->Q (.bl (decide (p.1*q.2 < q.1*p.2))) H->yZ K vs H Q E
inductive TyQ (K:Frag) (H:Hp):V->Value->Prop where
 |of {x:V} {t:Value} (h:mZ K H x t):TyQ K H x t
 |tup {a:Addr} {xs:List V} (h:SqT K H a xs):TyQ K H (.ref a) (.type "tuple")
 |lst {a:Addr} {xs:List V} (h:SqL K H a xs):TyQ K H (.ref a) (.type "list")
section
variable {X:Cx} {pins:List (Addr × Obj)} {σ:St} {H:Hp} {s:Shared} {A:Around} {E:Value->Shared->Prop} {Q:Value->Shared->Prop} {c:Value} {b:Bool}
theorem Gy (I:Inv X pins σ H s)(rx:cH x u)(ty:TyQ X.K H x t)(e:W.kitOne X.K t c=some b)(h:∀tk,Q (.bool b) { s with toks:=tk }):
  wpAny (model X.prog X.w) A (call (.builtin "isinstance") [u,c]) Q E s:=by
 cases ty with
 |of ty=>exact Lp I rx ty e h
 | @tup a xs ht=>
  cases (show u=Value.ref a from rx)
  obtain⟨its,_,p,_⟩:=I.tuple ht;obtain⟨o,h1,h2,_⟩:=p;exact W.kia_one W.kitx_tuple I.kIn ⟨o,h1,h2⟩ e (fun z=>nomatch z) h
 | @lst a xs ht=>
  cases (show u=Value.ref a from rx)
  obtain⟨its,_,p,_⟩:=I.list ht;obtain⟨o,h1,h2,_⟩:=p.isList;exact W.kia_one W.kitx_list I.kIn ⟨_,h1,h2⟩ e (fun z=>nomatch z) h
end
section
variable {X:Cx}
theorem Kn:vL X (.builtin "isinstance") (fun xs H Q=>∃x n t b,xs=[x,.ty n]/\TyQ X.K H x t/\W.kitOne X.K t (.type n)=some b/\Q (.bl b) H):=by
 intro pins s σ H vs us Q I rv h;obtain⟨x,n,t,b,rfl,ty,e,q⟩:=h;obtain⟨u,u2,rfl,r1,r2⟩:=Mz rv
 cases (show u2=Value.type n from r2)
 exact Gy I r1 ty e fun tk=>⟨.bl b,H,I.tok tk,rfl,q⟩
theorem iQ {i:Nat}(hN:X.N[i]?=some x)(hv:Vis X.env.scope x)(b:X.mg "isinstance"=none)(b2:X.mg T=none)(g1:Gl X "isinstance")(g2:Gl X T)(hT:bootBuiltins T=some (.type T'))(hd:(x == ("__debug__":Str))=false:=by decide)(hcd:(x == ("__classdict__":Str))=false:=by decide)(hTn:T≠"__name__":=by decide)(hTd:(T == ("__debug__":Str))=false:=by decide)(he:starEach [.Name x p2,.Name T p3] X.env=(false,eval (.Name x p2) X.env) :: starEach [.Name T p3] X.env:=by rfl)(he2:starEach [.Name T p3] X.env=(false,eval (.Name T p3) X.env) :: starEach [] X.env:=by rfl)(hpl:(backTo pos (starEach [.Name T p3] X.env)).any (·.1)=false:=by rfl):
  PE X (.Call (.Name "isinstance" p1) [.Name x p2,.Name T p3] [] pos) (fun σ H Q=>∃v t b,σ[i]?=some (some v)/\TyQ X.K H v t/\W.kitOne X.K t (.type T')=some b/\Q (.bl b) H):=by
 have h:=bZ (X:=X) (pos:=pos) (p:=p1) Kn g1 b PyProof.Rows.boot_isinstance (aA (Qj (i:=i) (pos:=p2) hN hv hd hcd) (aA (Vu (v:=.ty T') (pos:=p3) g2 b2 hT rfl hTn hTd) aC he2) he) (by decide) (by decide) he hpl;intro pins s σ H Q I q;obtain⟨v,t,bb,h1,h2,h3,h4⟩:=q;exact h pins s σ H Q I ⟨v,h1,v,T',t,bb,rfl,h2,h3,h4⟩
end
theorem SqT.upd {K:Frag}(h:SqT K H a xs)(hl:H l=some (.lst ys)):SqT K (L2.upd H l o) a xs:=by
 rcases h with (h | ⟨u,h⟩) | h
 ·exact .inl (.inl (by rw[aY (dL h hl (fun z=>by cases z))];exact h))
 ·exact .inl (.inr ⟨u,by rw[aY (dL h hl (fun z=>by cases z))];exact h⟩)
 ·exact .inr h
theorem Bg {K:Frag}:∀ns:List Int,uI K H (ns.map V.int) (ns.map PyData.int)
 | []=>.nil
 |n :: r=>.cons (.int n) (Bg r)
theorem Cj:∀ns:List Int,PyData.canLayAll0 (ns.map PyData.int)=true
 | []=>rfl
 |n :: r=>by
  show ((PyData.int n).canLay0 && PyData.canLayAll0 (r.map PyData.int))=true;rw[Cj r];rfl
theorem Bc (ns:List Int)(lo hi:Option Int):∃ms:List Int,iR (ns.map V.int) lo hi=ms.map V.int/\ms.length<=ns.length:=by
 refine⟨(ns.drop (HT.sIx (ns.map V.int).length 0 lo)).take (HT.sIx (ns.map V.int).length (ns.map V.int).length hi - HT.sIx (ns.map V.int).length 0 lo),?_,?_⟩
 ·unfold iR;rw[map_take,map_drop]
 ·rw[length_take,length_drop];lia
theorem Bz {K:Frag}{ns:List Int}(h1:SqL K H a (ns.map V.int))(h2:SqL K H b [])(z:Q (.bl (if neg then !ns.isEmpty else ns.isEmpty)) H):Fe K neg (.ref a) (.ref b) H Q:=by
 refine⟨_,_,.lst h1 (Bg ns),.lst h2 .nil,Cj ns,rfl,?_,?_⟩
 ·have:(PyData.list []).depth<=1:=by decide
  lia
 ·cases ns<;>exact z
theorem kO:(((σC 2 fr σ).set 0 (some x)).set 1 (some y)).length=(σC 2 fr σ).length/\∀(i:Nat) v,(σC 2 fr σ)[i]?=some (some v)->(((σC 2 fr σ).set 0 (some x)).set 1 (some y))[i]?=some (some v):=by
 refine⟨by simp,fun i v h=>?_⟩
 match i with
 |0=>unfold σC at h;simp at h
 |1=>unfold σC at h;simp at h
 |k+2=>rw[getElem?_set_ne (by lia),getElem?_set_ne (by lia)];exact h
theorem Fqs.set {K:Frag}(h:Fq K H a p):∀{xs:List V} {ps:List Q2} (i:Nat),Fqs K H xs ps->Fqs K H (xs.set i (.ref a)) (ps.set i p)
 |_,_,_,.nil=>.nil
 |_,_,0,.cons _ q=>.cons h q
 |_,_,i+1,.cons g q=>.cons g (Fqs.set h i q)
theorem Fqs.at {K:Frag}:∀{xs:List V} {ps:List Q2} {i:Nat} {p:Q2},Fqs K H xs ps->ps[i]?=some p->∃a,xs[i]?=some (.ref a)/\Fq K H a p
 |_,_,_,_,.nil,h=>by simp at h
 |_,_,0,_,.cons h _,e=>by simp at e;subst e;exact⟨_,rfl,h⟩
 |_,_,i+1,_,.cons _ q,e=>by simpa using Fqs.at q (by simpa using e)
theorem tT (lo:-(2 ^ n:Int) < i)(hi:i < 2 ^ n):Mq.B n i:=by
 unfold Mq.B;have e:((2 ^ n:Nat):Int)=2 ^ n:=by simp
 lia
theorem yO (X:Cx):∀l:List (Int × _ × Pos),PA X (l.map fun q=>Expr.Constant (.int q.1) q.2.1 q.2.2) (fun _ H Q=>Q (l.map fun q=>V.int q.1) H)
 | []=>aC
 |q :: l=>aA (te:=tC (.int q.1)) aE (yO X l) rfl
theorem kD (h:k < n):ixN n (k:Int)=some k:=by
 unfold ixN;rw[if_pos (by lia),if_pos (by lia)];simp
section
variable {X:Cx} {tg:Expr}
inductive qf7 (K:Frag) (xs:List V) (H:Hp) (Q:VK):Prop where
 |mk (p:Addr) (bs:List Bool):xs=[.ref p]->SqL K H p (bs.map V.bl)->Q (.bl (bs.all id)) H->qf7 K xs H Q
theorem Rc (hc:X.calm=true):vL X (.builtin "all") (qf7 X.K):=by
 intro pins s σ H xs us Q I r h;obtain⟨p,bs,rfl,hq,q⟩:=h;obtain⟨u,rfl,rx⟩:=Dl r
 cases rx
 obtain⟨its,rv,pl,hz⟩:=I.list hq;have hlen:its.toArray.size=bs.length:=by rw[size_toArray,<- rv.length,length_map]
 have hne:p≠s.heap.objs.size:=by
  obtain⟨o,e,_⟩:=pl.isList;exact Nat.ne_of_lt (Heap.lt_size e)
 refine call_all_walk (wpAny_pyIter_list pl.isList ?_);refine⟨s.heap.objs.size,_,_,_,_,_,fun i=>bs.getD i false,rfl,Walks.list (by exact I.ok.hd hc) s.heap.objs.size p hne its.toArray,⟨⟨_,Heap.get?_push_size _ rfl,rfl,rfl⟩,?_⟩,?_,?_⟩
 ·obtain⟨o,e,c⟩:=pl.isList;exact⟨o,Heap.get?_push_of_some _ e,c⟩
 ·intro i v s' Q' E' hv q';have hv':its[i]?=some v:=by simpa using hv
  have hi:i < its.length:=(List.getElem?_eq_some_iff.mp hv').1;have hb:(bs.map V.bl)[i]?=some (.bl (bs.getD i false)):=by
   rw[getElem?_map,getElem?_eq_getElem (by rw[<- hlen];simpa using hi)];simp[List.getD,getElem?_eq_getElem (show i < bs.length by rw[<- hlen];simpa using hi)]
  obtain⟨u,hu,ru⟩:=rv.get hb;have e:u=v:=by rw[hv'] at hu;cases hu;rfl
  subst e
  cases ru
  exact wpAny_truthy_bool q'
 ·intro h' tk kk;have e:(List.range its.toArray.size).all (fun i=>bs.getD i false)=bs.all id:=by
   rw[hlen,Bool.eq_iff_iff,all_eq_true,all_eq_true];constructor
   ·intro z b hb;obtain⟨i,hi,rfl⟩:=getElem_of_mem hb;have:=z i (mem_range.mpr hi);simpa[List.getD,getElem?_eq_getElem hi] using this
   ·intro z i hi;have hi':=mem_range.mp hi;have:=z bs[i] (getElem_mem hi');simpa[List.getD,getElem?_eq_getElem hi'] using this
  rw[e];refine⟨.bl _,H,I.kept (t':=tk) fun b o hb=>?_,rfl,q⟩;have hb2:b≠s.heap.objs.size:=Nat.ne_of_lt (Heap.lt_size hb);exact kk b o (by simpa using hb2) (Heap.get?_push_of_some _ hb)
end
inductive Js {ι:Type} (C:ι->Addr) (m:Str) (sp:ι->Sp) (dvs:List V) (E:XK) (t:TA) (σ:St) (Q:VK) (x:V) (H1:Hp):Prop where
 |mk (i a dx fs):x=.ref a->H1 a=some (.ins (C i) dx fs)->fs.lookup m=none->(t σ H1 fun vs H2=>sp i (x :: (vs++dvs)) H2 Q E)->Js C m sp dvs E t σ Q x H1
def Rs {ι:Type}(C:ι->Addr)(m:Str)(sp:ι->Sp)(dvs:List V)(E:XK)(ta:TE)(t:TA):TE:=fun σ H Q=>ta σ H fun x H1=>Js C m sp dvs E t σ Q x H1
section
variable {X:Cx} {ι:Type} {C f:ι->Addr} {fd:ι->FuncData} {sp:ι->Sp} {m:Str} {CX:CXT} {k:Nat} {ps:List Str} {ds:List Value} {dvs:List V} {E:XK} {o e:Expr} {es:List Expr} {ta:TE} {t:TA} {apos pos:Pos}
theorem Cd (he:PE X o ta)(c:∀i,Cls X.K (C i))(hm:∀i,eI X.K (C i) m (f i))(F:∀i,aL X.prog X.w X.K X.mg X.base CX k (f i) (fd i) ps (sp i))(hr:hZ k X.A)(hb:∀i,aM X.K (fd i) ps ds)(hd:cC dvs ds)(hx:kC CX X E)(ha:PA X (e :: es) t)(hst:starEach (e :: es) X.env=(false,eval e X.env) :: starEach es X.env:=by rfl)(hpl:(backTo pos (starEach es X.env)).any (·.1)=false:=by rfl)(ht:eval (.Call (.Attribute o m apos) (e :: es) [] pos) X.env=(do
   let ov <- eval o X.env
   standAt apos.atName
   let (f,first) <- holding [ov] (getMethod ov m pl)
   callWith pos f first (backTo pos (starEach (e :: es) X.env)) (backToKw pos (keywordEach [] X.env))):=by rfl):
  PE X (.Call (.Attribute o m apos) (e :: es) [] pos) (Rs C m sp dvs E ta t):=by
 intro pins s σ H Q I h;refine W.methodCall_KW (pl:=pl) (thn (he pins s σ H _ I h) fun u s1 ⟨x,H1,I1,rx,i,a,dx,fs,ex,ea,l,q⟩=>?_) ht;subst ex;obtain rfl:u=Value.ref a:=rx;refine kL I1 ea (c i) (hm i) l ?_;refine W.callWith_K (first:=[.ref a]) (h₀:=X.base) I.ok.mod.kin (hm i).kp (thn (ha pos pins s1 σ H1 _ I1 q) fun us s2 ⟨vs,H2,I2,r,q2⟩=>⟨I2.kIn,?_⟩) hst hpl;exact vE (us:=.ref a :: us) (vs:=.ref a :: vs) (F i) hr (hb i) hd hx I2 (.cons rfl r) q2
theorem eJ (he:PE X o ta)(c:∀i,Cls X.K (C i))(hm:∀i,eI X.K (C i) m (f i))(F:∀i,aL X.prog X.w X.K X.mg X.base CX k (f i) (fd i) ps (sp i))(hr:hZ k X.A)(hb:∀i,aM X.K (fd i) ps ds)(hd:cC dvs ds)(hx:kC CX X E)(ht:eval (.Call (.Attribute o m apos) [] [] pos) X.env=(do
   let ov <- eval o X.env
   standAt apos.atName
   let (f,first) <- holding [ov] (getMethod ov m pl)
   callWith pos f first (backTo pos (starEach [] X.env)) (backToKw pos (keywordEach [] X.env))):=by rfl):
  PE X (.Call (.Attribute o m apos) [] [] pos) (Rs C m sp dvs E ta Yy):=by
 intro pins s σ H Q I h;refine W.methodCall_KW (pl:=pl) (thn (he pins s σ H _ I h) fun u s1 ⟨x,H1,I1,rx,i,a,dx,fs,ex,ea,l,q⟩=>?_) ht;subst ex;obtain rfl:u=Value.ref a:=rx;refine kL I1 ea (c i) (hm i) l ?_;exact W.callWith_K0 (first:=[.ref a]) I1.kIn (hm i).kp (vE (us:=[.ref a]) (vs:=[.ref a]) (F i) hr (hb i) hd hx I1 (.cons rfl .nil) q)
end
inductive Kd where
 |pc | pu | ho
 deriving DecidableEq
def Kd.wd:Kd->Str
 | .pc=>"piece"
 | .pu=>"push"
 | .ho=>"hold"
def Kd.cn:Kd->Str
 | .pc=>"Piece"
 | .pu=>"Push"
 | .ho=>"Hold"
theorem Kd.wd_inj {k j:Kd}(h:k.wd=j.wd):k=j:=by
 cases k<;>cases j<;>first | rfl | exact absurd h (by decide +kernel)
theorem fsg:¬(("start":Str) = "goal"):=by decide +kernel
theorem fsz:¬(("start":Str) = "size"):=by decide +kernel
theorem fgz:¬(("goal":Str) = "size"):=by decide +kernel
def jZ (s g z:V):List (Str × V):=cQ "size" z (cQ "goal" g (cQ "start" s []))
theorem dH (s g z:V):(jZ s g z).lookup ("start":Str)=some s:=by
 unfold jZ;rw[bF,if_neg fsz,bF,if_neg fsg,bF,if_pos rfl]
theorem dX (s g z:V):(jZ s g z).lookup ("goal":Str)=some g:=by
 unfold jZ;rw[bF,if_neg fgz,bF,if_pos rfl]
theorem eY (s g z:V):(jZ s g z).lookup ("size":Str)=some z:=by
 unfold jZ;rw[bF,if_pos rfl]
theorem cU (s g z:V){m:Str}(h1:¬m = "start")(h2:¬m = "goal")(h3:¬m = "size"):(jZ s g z).lookup m=none:=by
 unfold jZ;rw[bF,if_neg h3,bF,if_neg h2,bF,if_neg h1];rfl
def Rw (CK:Kd->Addr)(H:Hp)(x:Addr)(k:Kd)(s g z:V):Prop:=∃dx,H x=some (.ins (CK k) dx (jZ s g z))
theorem Rw.same (e:aZ H H')(h:Rw CK H x k s g z):Rw CK H' x k s g z:=let ⟨dx,q⟩:=h;⟨dx,e _ _ q⟩
theorem Rw.upd (h:Rw CK H x k s g z)(hl:H l=some (.lst ys)):Rw CK (L2.upd H l o) x k s g z:=let ⟨dx,q⟩:=h;⟨dx,by rw[aY (dL q hl (fun z=>by cases z))];exact q⟩
structure RT (K:Frag) (mg:Str->Option Value) (CR:Addr) (CK:Kd->Addr):Prop where
 cl:∀k,Cls K (CK k)
 nS:∀k,gG K (CK k) "start"
 nG:∀k,gG K (CK k) "goal"
 nZ:∀k,gG K (CK k) "size"
 t1:∀k,W.findIn K (.ref (CK k)) "__class__"=some (some (.builtin "object.__class__"))
 t2:W.specialIn K (.builtin "object.__class__") "__get__"=some (some (.builtin "getset_descriptor.__get__"))
 t3:W.takesIn K (.builtin "object.__class__")=some true
 t4:∀k,W.mroIn K (CK k) (.type "object")=some true
 isR:∀k,W.kitOne K (.ref (CK k)) (.ref CR)=some true
 isK:∀k j,W.kitOne K (.ref (CK k)) (.ref (CK j))=some (decide (k=j))
 mR:mg "Row"=some (.ref CR)
 mK:∀k,mg (Kd.cn k)=some (.ref (CK k))
section
variable {K:Frag} {mg:Str->Option Value} {CR:Addr} {CK:Kd->Addr} {H:Hp} {x:Addr} {k:Kd} {s g z:V}
theorem Rw.new (h1:H x=none)(h2:H dx=none)(ne:dx≠x):aZ H (L2.upd (L2.upd H dx (.own x)) x (.ins C dx fs)):=fun b o e=>by
 rw[aY (aU e h1),aY (aU e h2)];exact e
end
inductive sX (CK:Kd->Addr) (vs:List V) (H:Hp) (Q:VK) (E:XK):Prop where
 |mk (x dx:Addr) (k:Kd) (s g z:V):vs=[.ref x,s,g,z]->H x=some (.ins (CK k) dx [])->Q .non (upd H x (.ins (CK k) dx (jZ s g z)))->sX CK vs H Q E
inductive iK (k:Kd) (vs:List V) (H:Hp) (Q:VK) (E:XK):Prop where
 |mk (x):vs=[x]->Q (.str k.wd) H->iK k vs H Q E
inductive mU (k:Kd) (vs:List V) (H:Hp) (Q:VK) (E:XK):Prop where
 |mk (x):vs=[x]->Q (.bl (decide (k≠.pu))) H->mU k vs H Q E
inductive rY (CK:Kd->Addr) (vs:List V) (H:Hp) (Q:VK) (E:XK):Prop where
 |mk (x:Addr) (k:Kd) (s g z:V):vs=[.ref x]->Rw CK H x k s g z->(∀t,H t=none->Q (.ref t) (upd H t (.tup [.str k.wd,s,g,z])))->rY CK vs H Q E
def qm5 (CK:Kd->Addr)(H:Hp)(Q:VK)(k:Kd)(s g z:V):Prop:=∀x H',aZ H H'->H x=none->Rw CK H' x k s g z->Q (.ref x) H'
theorem Xz {K:Frag}(h1:pF K H x d)(h2:pF K H y d)(hl:d.canLay0=true)(hd:d.depth<=16)(z:Q (.bl (!neg)) H):Fe K neg x y H Q:=by
 refine⟨d,d,h1,h2,hl,hl,by lia,?_⟩;have e:PyData.eqv d d=true:=PySem.SeqAt.eqv_refl _ hl;rw[e]
 cases neg<;>exact z
theorem ifT {A B:Prop}(h:c=true)(x:A):if c=true then A else B:=by rw[if_pos h];exact x
theorem ifF {A B:Prop}(h:c=false)(x:B):if c=true then A else B:=by rw[if_neg (by rw[h];decide)];exact x
theorem cP (k j:Kd):decide (V.str k.wd=V.str j.wd)=decide (k=j):=by
 by_cases h:k=j
 ·subst h;simp
 ·rw[decide_eq_false h];exact decide_eq_false fun z=>h (Kd.wd_inj (V.str.inj z))
theorem jG {p:Kd->Prop}(a:p .pc)(b:p .pu)(c:p .ho):∀k,p k:=fun k=>by cases k<;>assumption
theorem uJ (K:Frag)(t:PySem.Value):PySem.W.kitOne K t t=some true:=by unfold PySem.W.kitOne;rw[if_pos (beq_self_eq_true _)]
def kd3 {α:Type}(a b c:α):Kd->α
 | .pc=>a
 | .pu=>b
 | .ho=>c
end L2
namespace Mq
def fE (ps:List Q2):Prop:=∀p∈ps,Low p
end Mq
open Mq (fE)
namespace L2
open PySem PySem.Spec PyProof.Rows
section
variable {κ:Type} [DecidableEq κ]
def oK (kvs:List (κ × V))(k:κ):Option V:=(kvs.find? fun kv=>decide (kv.1=k)).map (·.2)
def lH (kvs:List (κ × V))(k:κ)(v:V):List (κ × V):=
 if (kvs.any fun kv=>decide (kv.1=k))=true then kvs.map (fun kv=>if kv.1=k then (kv.1,v) else kv) else kvs++[(k,v)]
theorem oZ {p:κ × V}(e:p.1=k):oK (p :: r) k=some p.2:=by simp[oK,find?_cons,e]
theorem mB {p:κ × V}(e:¬p.1=k):oK (p :: r) k=oK r k:=by simp[oK,find?_cons,e]
theorem Bj (k:κ):∀kvs:List (κ × V),(kvs.any fun kv=>decide (kv.1=k))=(oK kvs k).isSome
 | []=>rfl
 |p :: r=>by
  rw[any_cons]
  by_cases e:p.1=k
  ·simp only[oZ e,decide_eq_true e,Bool.true_or,Option.isSome_some]
  ·rw[mB e,decide_eq_false e,Bool.false_or];exact Bj k r
theorem lQ (kvs:List (κ × V))(k:κ)(v:V):(lH kvs k v).length<=kvs.length+1:=by
 unfold lH;split
 ·rw[length_map];lia
 ·rw[List.length_append,length_cons,length_nil];lia
theorem kT.isSome_eq (r:kT o u):o.isSome=u.isSome:=by
 cases o with
 |none=>cases u with
  |none=>rfl
  |some _=>exact(show False from r).elim
 |some _=>cases u with
  |none=>exact(show False from r).elim
  |some _=>rfl
theorem kT.getD (r:kT o u)(rd:cH d d'):cH (o.getD d) (u.getD d'):=by
 cases o with
 |none=>cases u with
  |none=>exact rd
  |some _=>exact(show False from r).elim
 |some _=>cases u with
  |none=>exact(show False from r).elim
  |some _=>exact r
theorem KV.val (r:KV kvs vs)(k:κ):kT (oK kvs k) (valueAt vs k):=by
 unfold KV at r
 induction r with
 |nil=>exact True.intro
 | @cons p q ps qs h t ih=>
  obtain⟨h1,h2⟩:=h
  by_cases e:p.1=k
  ·have e':q.1=k:=h1.symm.trans e;have b:valueAt (q :: qs) k=some q.2:=by simp[valueAt,find?_cons,e']
   rw[oZ e,b];exact h2
  ·have e':¬q.1=k:=fun z=>e (h1.trans z);have b:valueAt (q :: qs) k=valueAt qs k:=by simp[valueAt,find?_cons,e']
   rw[mB e,b];exact ih
theorem KV.any (r:KV kvs vs)(k:κ):(kvs.any fun kv=>decide (kv.1=k))=vs.any fun kv=>decide (kv.1=k):=by
 unfold KV at r
 induction r with
 |nil=>rfl
 |cons h t ih=>rw[any_cons,any_cons,ih,h.1]
theorem KV.repl (r:KV kvs vs)(k:κ)(ry:cH y u):
  KV (kvs.map fun kv=>if kv.1=k then (kv.1,y) else kv) (vs.map fun kv=>if kv.1=k then (kv.1,u) else kv):=by
 unfold KV at r ⊢
 induction r with
 |nil=>exact .nil
 | @cons p q ps qs h t ih=>
  rw[map_cons,map_cons];refine .cons ?_ ih;obtain⟨h1,h2⟩:=h
  by_cases e:p.1=k
  ·rw[if_pos e,if_pos (h1.symm.trans e)];exact⟨h1,ry⟩
  ·rw[if_neg e,if_neg (fun z=>e (h1.trans z))];exact⟨h1,h2⟩
theorem KV.put (r:KV kvs vs)(k:κ)(ry:cH y u):KV (lH kvs k y) (stored vs k u):=by
 unfold lH stored;rw[r.any k]
 by_cases e:(vs.any fun kv=>decide (kv.1=k))=true
 ·rw[if_pos e,if_pos e];exact r.repl k ry
 ·rw[if_neg e,if_neg e];exact Paired.snoc r ⟨rfl,ry⟩
theorem KV.length {kvs:List (κ × V)}(r:KV kvs vs):kvs.length=vs.length:=Paired.length r
end
theorem wN (r:cH (kV k) u):(eU P w).is k u=true:=by
 cases k with
 |inl i=>obtain⟨t,e⟩:=(show ∃t,u=Value.int i t from r);subst e;exact Cl P w i t
 |inr x=>obtain⟨t,e⟩:=(show ∃t,u=Value.str x t from r);subst e;exact Ay P w x t
theorem wZ:∀{ks:List Key} {us:List Value},cC (ks.map kV) us->ItemsAre (eU P w) ks us
 | [],_,r=>by rw[map_nil] at r;cases r;exact .nil
 |k :: ks,_,r=>by
  rw[map_cons] at r
  cases r with
  |cons h t=>exact .cons (wN h) (wZ t)
abbrev KT (H:Hp):List (List Key × V)->List (List Key × Addr × Value)->Prop:=Paired fun p q=>p.1=q.1/\H q.2.1=some (.tup (p.1.map kV))/\cH p.2 q.2.2
theorem KT.val (r:KT H kvs xs)(k:List Key):kT (oK kvs k) ((atKey xs k).map (·.2)):=by
 induction r with
 |nil=>exact True.intro
 | @cons p q ps qs h t ih=>
  obtain⟨h1,_,h2⟩:=h
  by_cases e:p.1=k
  ·have e':q.1=k:=h1.symm.trans e;have b:atKey (q :: qs) k=some q.2:=by simp[atKey,find?_cons,e']
   rw[oZ e,b];exact h2
  ·have e':¬q.1=k:=fun z=>e (h1.trans z);have b:atKey (q :: qs) k=atKey qs k:=by simp[atKey,find?_cons,e']
   rw[mB e,b];exact ih
theorem KT.repl (r:KT H kvs xs)(k:List Key)(ry:cH y u):
  KT H (kvs.map fun kv=>if kv.1=k then (kv.1,y) else kv) (xs.map (putAt k u)):=by
 induction r with
 |nil=>exact .nil
 | @cons p q ps qs h t ih=>
  rw[map_cons,map_cons];refine .cons ?_ ih;obtain⟨h1,h2,h3⟩:=h;unfold putAt
  by_cases e:p.1=k
  ·rw[if_pos e,if_pos (h1.symm.trans e)];exact⟨h1,h2,ry⟩
  ·rw[if_neg e,if_neg (fun z=>e (h1.trans z))];exact⟨h1,h2,h3⟩
theorem KT.put (r:KT H kvs xs)(k:List Key)(hb:H b=some (.tup (k.map kV)))(ry:cH y u):
  KT H (lH kvs k y) (storedH xs k b u):=by
 have e:(kvs.any fun kv=>decide (kv.1=k))=(atKey xs k).isSome:=by
  rw[Bj,(r.val k).isSome_eq,Option.isSome_map]
 unfold lH storedH;rw[e]
 by_cases q:(atKey xs k).isSome=true
 ·rw[if_pos q,if_pos q];exact r.repl k ry
 ·rw[if_neg q,if_neg q];exact Paired.snoc r ⟨rfl,hb,ry⟩
theorem KT.keeps (r:KT H kvs xs)(ht:∀b ys,H b=some (.tup ys)->H' b=some (.tup ys)):KT H' kvs xs:=
 Paired.mapP r fun _ _ z=>⟨z.1,ht _ _ z.2.1,z.2.2⟩
section
variable {P:Program} {w:World} {H:Hp} {h:Heap} {a:Addr}
theorem Wy (ok:HOk P w H h)(e:Rd H a u):eP P w H h a u:=e.ok ok
theorem xT (ok:HOk P w H h)(e:Rd H a (.dK kvs)):kvs.length<=sizeLine/\(a == sysModules)=false/\∃vs,KV kvs vs/\h.DictOf (eU P w) a vs:=
 show eP P w H h a (.dK kvs) from Wy ok e
theorem Wz (ok:HOk P w H h)(e:H a=some (.dK kvs)):kvs.length<=sizeLine/\(a == sysModules)=false/\∃vs,KV kvs vs/\h.DictOf (eU P w) a vs:=xT ok (.inl e)
theorem uL (ok:HOk P w H h)(e:H a=some (.tup (ks.map kV))):(tupleKind (eU P w)).is h ks a:=by
 obtain⟨_,its,r,o,h1,h2,n,h3⟩:=(show eP P w H h a (.tup (ks.map kV)) from ok a _ e)
 exact⟨o,its.toArray,n,h1,h2,h3,by simpa using wZ r⟩
theorem xQ (ok:HOk P w H h)(e:Rd H a (.dT kvs)):kvs.length<=sizeLine/\(a == sysModules)=false/\
  ∃xs,KT H kvs xs/\h.DictOfH (tupleKind (eU P w)) a xs:=by
 obtain⟨z,y,xs,r,o,es,ep,h1,h2,h3,h4,h5⟩:=(show eP P w H h a (.dT kvs) from Wy ok e)
 refine⟨z,y,xs,r,o,es,ep,h1,h2,h3,h4,fun x hx=>?_,h5⟩;have all:∀{l:List (List Key × V)} {m:List (List Key × Addr × Value)},KT H l m->∀x∈m,(tupleKind (eU P w)).is h x.1 x.2.1:=by
  intro l m q
  induction q with
  |nil=>intro x hx;exact nomatch hx
  | @cons p q ps qs hq t ih=>
   intro x hx;rcases mem_cons.mp hx with e | hx
   ·subst e;exact uL ok (by rw[<- hq.1];exact hq.2.1)
   ·exact ih x hx
 exact all r x hx
theorem qi3 (ok:HOk P w H h)(e:H a=some (.dT kvs)):kvs.length<=sizeLine/\(a == sysModules)=false/\
  ∃xs,KT H kvs xs/\h.DictOfH (tupleKind (eU P w)) a xs:=xQ ok (.inl e)
end
def jP (H:Hp)(a:Addr)(y:V)(r:Option V):Prop:=
 (∃kvs k,Rd H a (.dK kvs)/\y=kV k/\r=oK kvs k)\/∃kvs k b,Rd H a (.dT kvs)/\y=.ref b/\H b=some (.tup (k.map kV))/\r=oK kvs k
def Ob (H:Hp)(a:Addr)(y v:V)(H':Hp):Prop:=
 (∃kvs k,H a=some (.dK kvs)/\y=kV k/\kvs.length < sizeLine/\H'=upd H a (.dK (lH kvs k v)))\/
 ∃kvs k b,H a=some (.dT kvs)/\y=.ref b/\H b=some (.tup (k.map kV))/\kvs.length < sizeLine/\H'=upd H a (.dT (lH kvs k v))
theorem jP.k {k:Key}(e:H a=some (.dK kvs)):jP H a (kV k) (oK kvs k):=.inl ⟨kvs,k,.inl e,rfl,rfl⟩
theorem Ob.k {k:Key}(e:H a=some (.dK kvs))(hl:kvs.length < sizeLine):Ob H a (kV k) v (upd H a (.dK (lH kvs k v))):=.inl ⟨kvs,k,e,rfl,hl,rfl⟩
section
variable {X:Cx} {pins:List (Addr × Obj)} {σ:St} {H:Hp} {s:Shared} {a:Addr} {y v:V} {u r:Value} {o:Option V} {A:Around} {E:Value->Shared->Prop}
theorem Inv.big (I:Inv X pins σ H s):sysModules < s.heap.objs.size:=by
 have h:mainGlobals < s.heap.objs.size:=(I.mod.glob.keeps I.bk).lt;exact Nat.lt_trans (by decide) h
theorem Ky (hu:A.units+1 < cLine)(I:Inv X pins σ H s)(g:jP H a y (some v))(ry:cH y u)(h:∀w' s',Inv X pins σ H s'->cH v w'->Q w' s'):
  wpAny (model X.prog X.w) A (getItem (.ref a) u) Q E s:=by
 rcases g with ⟨kvs,k,e,ey,l⟩ | ⟨kvs,k,b,e,ey,eb,l⟩
 ·subst ey;obtain⟨z,hd,vs,rel,dd⟩:=xT I.hok e;obtain⟨w',hw,rw'⟩:=kT.some_of (v:=v) (o:=valueAt vs k) (by rw[l];exact rel.val k);exact wpAny_getItem_of (wN ry) dd.mapOf hw (h w' _ (I.tok _) rw')
 ·subst ey
  cases (show u=Value.ref b from ry)
  obtain⟨z,hd,xs,rel,dd⟩:=xQ I.hok e;obtain⟨w',hw,rw'⟩:=kT.some_of (v:=v) (o:=(atKey xs k).map (·.2)) (by rw[l];exact rel.val k);obtain⟨p,hp,hp2⟩:=Option.map_eq_some_iff.mp hw;refine wpAny_getItem_heap (tupleKind_room_in1 hu) (uL I.hok eb) dd hp ?_;rw[hp2];exact h w' _ (I.tok _) rw'
theorem Vt (hu:A.units+1 < cLine)(I:Inv X pins σ H s)(g:jP H a y o)(ry:cH y u)(h:∀s',Inv X pins σ H s'->Q (.bool (!o.isSome)) s'):
  wpAny (model X.prog X.w) A (compareOp .NotIn u (.ref a)) Q E s:=by
 rcases g with ⟨kvs,k,e,ey,l⟩ | ⟨kvs,k,b,e,ey,eb,l⟩
 ·subst ey;obtain⟨z,hd,vs,rel,dd⟩:=xT I.hok e;refine wpAny_notIn_of (wN ry) hd dd.mapOf ?_;rw[<- (rel.val k).isSome_eq,<- l];exact h _ (I.tok _)
 ·subst ey
  cases (show u=Value.ref b from ry)
  obtain⟨z,hd,xs,rel,dd⟩:=xQ I.hok e;refine wpAny_notIn_heap (tupleKind_room_in1 hu) (uL I.hok eb) hd dd ?_;have q:=(rel.val k).isSome_eq;rw[Option.isSome_map] at q;rw[<- q,<- l];exact h _ (I.tok _)
theorem zX (I:Inv X pins σ H s)(mu:Mut (H a))(hs:Heap.SameBut a s.heap h')(he:∃q,h'.get? a=some q)(new:eP X.prog X.w (upd H a ob) h' a ob):
  Inv X pins σ (upd H a ob) { s with heap:=h',toks:=t' }:=
 I.write (x:=a) (e:=a) mu (.inl rfl) (fun b q hb z=>(hs.2 b hb).trans z) he new
theorem Pe (z:kvs.length<=sizeLine)(hd:(a == sysModules)=false)(rel:KV kvs vs)(dd:h'.DictOf (eU P w) a vs):
  eP P w H' h' a (.dK kvs):=⟨z,hd,vs,rel,dd⟩
theorem Lz (hu:A.units+1 < cLine)(I:Inv X pins σ H s)(g:Ob H a y v H')(ry:cH y u)(rv:cH v r)(h:∀s',Inv X pins σ H' s'->Q () s'):
  wpAny (model X.prog X.w) A (setItem (.ref a) u r) Q E s:=by
 rcases g with ⟨kvs,k,e,ey,l,eH⟩ | ⟨kvs,k,b,e,ey,eb,l,eH⟩
 ·subst ey eH;obtain⟨z,hd,vs,rel,dd⟩:=Wz I.hok e;have hz:vs.length<=sizeLine:=by rw[<- rel.length];exact z
  have hl:(lH kvs k v).length<=sizeLine:=by have:=lQ kvs k v;lia
  refine wpAny_setItem_pairs (hsz:=hz) (wN ry) dd fun h' dd' hs=>h _ ?_;have he:∃q,h'.get? a=some q:=let ⟨q,_,_,hq,_⟩:=dd';⟨q,hq⟩
  exact zX I (by rw[e];exact True.intro) hs he (Pe hl hd (rel.put k rv) dd')
 ·subst ey eH
  cases (show u=Value.ref b from ry)
  obtain⟨z,hd,xs,rel,dd⟩:=qi3 I.hok e;have hz:xs.length<=sizeLine:=by rw[<- Paired.length rel];exact z
  have hl:(lH kvs k v).length<=sizeLine:=by have:=lQ kvs k v;lia
  refine wpAny_setItem_heap (hsz:=hz) (tupleKind_room_in1 hu) (uL I.hok eb) dd fun h' dd' hs=>h _ ?_;obtain⟨q,es,ep,hq,h2,h3,h4,_,h5⟩:=dd';refine zX I (by rw[e];exact True.intro) hs ⟨q,hq⟩ ⟨hl,hd,_,(rel.put k eb rv).keeps fun c ys ec=>?_,q,es,ep,hq,h2,h3,h4,h5⟩;rw[aY (dL ec e (fun z=>nomatch z))];exact ec
end
def qf9 (i:Expr):Prop:=∀ov iv,subscripted i false ov iv=operate [ov,iv] (getItem ov iv)
theorem Wo {T id:String}(hl:typeLookup (.type T) "__getitem__"=pure (some (.builtin id)))(hs:qf9 slice)(h:wpAny (model prog w) A (eval value env) (fun o s₁=>wpAny (model prog w) A (eval slice env) (fun i s₂=>s₂.TypeIs o T/\wpAny (model prog w) A (getItem o i) Q E s₂) E s₁) E s):
  wpAny (model prog w) A (eval (.Subscript value slice pos) env) Q E s:=by
 refine Subscript_ (wpAny_mono h (fun o s₁ h₁=>wpAny_mono h₁ (fun i s₂ h₂=>?_) fun _ _ x=>x) fun _ _ x=>x);obtain⟨hT,h₂⟩:=h₂;unfold subscriptTail;refine wpAny_bind ?_;rw[getitemInPython_of_ne hT.not_modules];refine wpAny_bind (wpAny_specialOf hT hl ?_);have fin:wpAny (model prog w) A (subscripted slice false o i) (fun r s₃=>wpAny (model prog w) A (letTemporaryGo value o r >>= fun _=>pure r) Q E s₃) E s₂:=by
  rw[hs o i];exact wpAny_operating (wpAny_mono h₂ (fun r s₃ h₃=>wpAny_bind (wpAny_letTemporaryGo (wpAny_pure h₃))) fun _ _ x=>x)
 first
  |exact wpAny_pure (wpAny_bind fin)
  |exact wpAny_bind (wpAny_pure (wpAny_bind fin))
  |exact wpAny_bind fin
theorem Cs (I:Inv X pins σ H s)(g:jP H a y o):s.TypeIs (.ref a) "dict":=by
 rcases g with ⟨kvs,k,e,_,_⟩ | ⟨kvs,k,b,e,_,_,_⟩
 ·obtain⟨_,_,vs,_,dd⟩:=xT I.hok e;exact dd.typeIs
 ·obtain⟨_,_,xs,_,dd⟩:=xQ I.hok e;exact dd.typeIs
def qj6 (td ty:TE):TE:=fun σ H Q=>td σ H fun x H1=>ty σ H1 fun y H2=>∃a v,x=.ref a/\jP H2 a y (some v)/\Q v H2
def Vj (ty td:TE):TE:=fun σ H Q=>ty σ H fun y H1=>td σ H1 fun x H2=>∃a o,x=.ref a/\jP H2 a y o/\Q (.bl (!o.isSome)) H2
def qf8 (td ty tv:TE):TS:=fun D σ H=>tv σ H fun v H1=>td σ H1 fun x H2=>ty σ H2 fun y H3=>∃a H4,x=.ref a/\Ob H3 a y v H4/\D.nx σ H4
section
variable {X:Cx} {o i e value:Expr} {pos pos' tpos:Pos} {td ty tv:TE}
theorem kG (hu:X.A.units+1 < cLine)(ho:PE X o td)(hi:PE X i ty)(hs:qf9 i):PE X (.Subscript o i pos) (qj6 td ty):=by
 intro pins s σ H Q I h;refine Wo PySem.F.slot_dict_getitem.lookup hs (thn (ho pins s σ H _ I h) fun u s1 ⟨x,H1,I1,rx,q1⟩=>thn (hi pins s1 σ H1 _ I1 q1) fun iv s2 ⟨y,H2,I2,ry,a,v,ex,g,q2⟩=>?_);subst ex;obtain rfl:u=Value.ref a:=rx;exact⟨Cs I2 g,Ky hu I2 g ry fun w' s3 I3 rw'=>⟨v,H2,I3,rw',q2⟩⟩
theorem Ll (hu:X.A.units+1 < cLine)(hi:PE X i ty)(ho:PE X o td):PC X .NotIn i o (Vj ty td):=by
 intro pins s σ H Q I h;refine thn (hi pins s σ H _ I h) fun iv s1 ⟨y,H1,I1,ry,q1⟩=>thn (ho pins s1 σ H1 _ I1 q1) fun u s2 ⟨x,H2,I2,rx,a,ov,ex,g,q2⟩=>?_;subst ex;obtain rfl:u=Value.ref a:=rx;exact Vt hu I2 g ry fun s3 I3=>⟨.bl (!ov.isSome),H2,I3,rfl,q2⟩
theorem Vq (hu:X.A.units+1 < cLine)(ho:PE X o td)(hi:PE X i ty)(hv:PE X value tv)(hs:swapsWith value (some (.Subscript o i pos')) pos.line X.env=pure false) :
  PS X (.Assign [.Subscript o i pos'] value pos) (qf8 td ty tv):=by
 intro pins s σ H D I h;refine wpAny_Assign_Subscript (thn (hv pins s σ H _ I h) fun r s1 ⟨v,H1,I1,rv,q1⟩=>thn (ho pins s1 σ H1 _ I1 q1) fun u s2 ⟨x,H2,I2,rx,q2⟩=>thn (hi pins s2 σ H2 _ I2 q2) fun iv s3 ⟨y,H3,I3,ry,a,H4,ex,g,q3⟩=>?_) hs;subst ex;obtain rfl:u=Value.ref a:=rx;exact Lz hu I3 g ry rv fun s4 I4=>⟨σ,H4,I4,q3⟩
end
theorem Ps (h:Heap)(hb:sysModules < h.objs.size):eP P w H (h.push { cls:=.type "dict",data:=.dict #[] }) h.objs.size (.dK []):=
 ⟨Nat.zero_le _,beq_eq_false_iff_ne.mpr (Ne.symm (Nat.ne_of_lt hb)),[],.nil,Heap.DictOf.new h⟩
def Fi:List (TE × TE)->St->Hp->(List (V × V)->Hp->Prop)->Prop
 | [],_,H,Q=>Q [] H
 | (tk,tv) :: r,σ,H,Q=>tk σ H fun x H1=>tv σ H1 fun y H2=>Fi r σ H2 fun ps H3=>Q ((x,y) :: ps) H3
abbrev VV:List (V × V)->List (Value × Value)->Prop:=Paired fun p q=>cH p.1 q.1/\cH p.2 q.2
def PPs (X:Cx)(pos:Pos)(keys:List (Option Expr))(values:List Expr)(trs:List (TE × TE)):Prop:=
 ∀(pins:List (Addr × Obj)) (s:Shared) (σ:St) (H:Hp) (Q:List (V × V)->Hp->Prop),Inv X pins σ H s->Fi trs σ H Q->
  wpAny (model X.prog X.w) X.A (evalPairs (pairTrees keys values X.env pos)) (fun vs s'=>∃ps H',Inv X pins σ H' s'/\VV ps vs/\Q ps H') X.xe s
theorem Iq:PPs X pos [] [] []:=fun pins s σ H Q I h=>pairTrees_nil_walk ⟨[],H,I,.nil,h⟩
theorem kY (hk:PE X k tk)(hv:PE X v tv)(hr:PPs X pos ks vs trs):
  PPs X pos (some k :: ks) (v :: vs) ((tk,tv) :: trs):=fun pins s σ H Q I h=>
 pairTrees_cons_walk (thn (hk pins s σ H _ I h) fun u s1 ⟨x,H1,I1,rx,q1⟩=>thn (hv pins s1 σ H1 _ I1 q1) fun w2 s2 ⟨y,H2,I2,ry,q2⟩=>
  thn (hr pins s2 σ H2 _ I2 q2) fun ws s3 ⟨ps,H3,I3,rel,q3⟩=>⟨(x,y) :: ps,H3,I3,.cons ⟨rx,ry⟩ rel,q3⟩)
def jM (kvs more:List (Key × V)):List (Key × V):=more.foldl (fun acc kv=>lH acc kv.1 kv.2) kvs
theorem KV.merge:∀{more:List (Key × V)} {rs:List (Key × Value)} {kvs:List (Key × V)} {vs:List (Key × Value)},KV more rs->KV kvs vs->KV (jM kvs more) (merged vs rs):=by
 intro more rs kvs vs r;unfold KV at r
 induction r generalizing kvs vs with
 |nil=>intro q;exact q
 | @cons p q ps qs h t ih=>
  intro r0;have e:KV (lH kvs p.1 p.2) (stored vs q.1 q.2):=by
   have:=r0.put p.1 h.2;rw[<- h.1];exact this
  exact ih e
theorem nU:∀(more kvs:List (Key × V)),(jM kvs more).length<=kvs.length+more.length
 | [],kvs=>by show kvs.length<=kvs.length+0;lia
 |p :: r,kvs=>by
  have h1:=nU r (lH kvs p.1 p.2);have h2:=lQ kvs p.1 p.2;show (jM (lH kvs p.1 p.2) r).length<=_;rw[length_cons];lia
theorem uM:∀{kvs:List (Key × V)} {ws:List (Value × Value)},VV (kvs.map fun kv=>(kV kv.1,kv.2)) ws->∃rs,Carries (eU P w) ws rs/\KV kvs rs
 | [],_,r=>by rw[map_nil] at r;cases r;exact⟨[],True.intro,.nil⟩
 |p :: kvs,_,r=>by
  rw[map_cons] at r
  cases r with
  | @cons a b as bs h t=>
   obtain⟨rs,c,q⟩:=uM (P:=P) (w:=w) t;obtain⟨b1,b2⟩:=b;exact⟨(p.1,b2) :: rs,⟨wN h.1,rfl,c⟩,.cons ⟨rfl,h.2⟩ q⟩
def qe5 (trs:List (TE × TE)):TE:=fun σ H Q=>∀p,H p=none->Fi trs σ (upd H p (.dK [])) fun ps H2=>H2 p=some (.dK [])/\∃kvs:List (Key × V),ps=kvs.map (fun kv=>(kV kv.1,kv.2))/\kvs.length<=15/\Q (.ref p) (upd H2 p (.dK (jM [] kvs)))
theorem Ii (h:PPs X pos keys values trs)(hall:keys.all (·.isSome)=true)(hl:keys.length=values.length)(h0:keys≠[])(h15:keys.length<=15):PE X (.Dict keys values pos) (qe5 trs):=by
 intro pins s σ H Q I q;have hn:=I.hok.fresh (Nat.le_refl s.heap.objs.size);have I1:=I.laid (a:=s.heap.objs.size) (o:=.dK []) (h':=s.heap.push { cls:=.type "dict",data:=.dict #[] }) (t':=s.toks) (fun _ _ q=>Heap.get?_push_of_some _ q) (Nat.le_refl _) (Ps s.heap I.big);refine wpAny_Dict_walk (knd:=eU X.prog X.w) hall hl h0 h15 (thn (h pins _ σ _ _ I1 (q _ hn)) fun ws s2 ⟨ps,H2,I2,rel,e,kvs,ep,lk,q2⟩=>?_);subst ep;obtain⟨rs,c,rk⟩:=uM (P:=X.prog) (w:=X.w) rel;obtain⟨z,hd,vs0,r0,dd⟩:=Wz I2.hok e
 cases r0
 refine⟨rs,c,dd,fun h' dd' hs=>⟨.ref s.heap.objs.size,_,?_,rfl,q2⟩⟩;have hz:(jM [] kvs).length<=sizeLine:=by
  have h1:=nU kvs [];rw[length_nil] at h1;rw[sizeLine_eq];lia
 have he:∃q,h'.get? s.heap.objs.size=some q:=let ⟨q,_,_,hq,_⟩:=dd';⟨q,hq⟩
 exact zX I2 (by rw[e];exact True.intro) hs he (Pe hz hd (rk.merge .nil) dd')
structure M1 (X:Cx) (o:Expr) (m:Str) (apos:Pos) (e:Expr) (cpos:Pos):Prop where
 base:attributeBase o m X.env (eval o X.env)=eval o X.env
 few:((backTo cpos (starEach [e] X.env)).all (fun x=>!x.1) && (backToKw cpos (keywordEach [] X.env)).all (fun x=>x.1.isSome)
  && decide (([e]:List Expr).length+([]:List Keyword).length+(if ([]:List Keyword).isEmpty then 0 else 1) < 30))=true
 line:(apos.endLine == cpos.line)=true
 trees:backTo cpos (starEach [e] X.env)=[(false,eval e X.env)]
def IsD (H:Hp)(a:Addr):Prop:=(∃kvs,Rd H a (.dK kvs))\/∃kvs,Rd H a (.dT kvs)
theorem Zr (I:Inv X pins σ H s)(d:IsD H a):
  s.TypeIs (.ref a) "dict"/\(∀b,Value.ref a=.ref b->∃ob,s.heap.get? b=some ob/\ob.dict=none)/\(a == sysModules)=false:=by
 rcases d with ⟨kvs,e⟩ | ⟨kvs,e⟩
 ·obtain⟨_,hd,vs,_,dd⟩:=xT I.hok e;refine⟨dd.typeIs,fun b q=>?_,hd⟩
  cases q
  obtain⟨ob,_,_,h1,h2,_⟩:=dd;exact⟨ob,h1,h2.2.1⟩
 ·obtain⟨_,hd,xs,_,dd⟩:=xQ I.hok e;refine⟨dd.typeIs,fun b q=>?_,hd⟩
  cases q
  obtain⟨ob,_,_,h1,h2,_⟩:=dd;exact⟨ob,h1,h2.2.1⟩
section
variable {X:Cx} {pins:List (Addr × Obj)} {σ:St} {H:Hp} {s:Shared} {a:Addr} {y d:V} {u r:Value} {o:Option V} {A:Around} {E:Value->Shared->Prop}
theorem qb0 (hu:A.units+1 < cLine)(I:Inv X pins σ H s)(g:jP H a y o)(ry:cH y u)(h:∀w' s',Inv X pins σ H s'->cH (o.getD .non) w'->Q w' s'):
  wpAny (model X.prog X.w) A (call (.builtin "dict.get") [.ref a,u]) Q E s:=by
 rcases g with ⟨kvs,k,e,ey,l⟩ | ⟨kvs,k,b,e,ey,eb,l⟩
 ·subst ey;obtain⟨z,hd,vs,rel,dd⟩:=xT I.hok e;refine call_meetsIn PySem.F.slot_dict_get dd.typeIs PySem.F.entry_dict_get (PySem.F.args_dict_get_2 _ _) (meets_dict_get (eU X.prog X.w) a (wN ry) hd) ⟨_,dd.mapOf,h _ _ (I.tok _) ?_⟩;rw[l];exact(rel.val k).getD rfl
 ·subst ey
  cases (show u=Value.ref b from ry)
  obtain⟨z,hd,xs,rel,dd⟩:=xQ I.hok e;refine call_meetsIn PySem.F.slot_dict_get dd.typeIs PySem.F.entry_dict_get (PySem.F.args_dict_get_2 _ _) (meetsH_dict_get (tupleKind (eU X.prog X.w)) a b hd) ⟨tupleKind_room_in1 hu,k,xs,uL I.hok eb,dd,h _ _ (I.tok _) ?_⟩;rw[l];exact(rel.val k).getD rfl
end
def Yg (td ty:TE):TE:=fun σ H Q=>td σ H fun x H1=>∃a,x=.ref a/\IsD H1 a/\ty σ H1 fun y H2=>∃o,jP H2 a y o/\Q (o.getD .non) H2
section
variable {X:Cx} {o e f:Expr} {apos cpos:Pos} {td ty tx:TE}
theorem Qx (hu:X.A.units+1 < cLine)(ho:PE X o td)(he:PE X e ty)(m:M1 X o "get" apos e cpos):PE X (.Call (.Attribute o "get" apos) [e] [] cpos) (Yg td ty):=by
 intro pins s σ H Q I h;refine wpAny_Call_method m.base m.few m.line PySem.F.plainAttrs_dict PySem.F.slot_dict_get PySem.F.type_dict_get (thn (ho pins s σ H _ I h) fun u s1 ⟨x,H1,I1,rx,a,ex,d,q1⟩=>?_);subst ex;obtain rfl:u=Value.ref a:=rx;obtain⟨t1,t2,_⟩:=Zr I1 d;refine⟨t1,t2,?_⟩;rw[m.trees];refine Calls.callWith_builtin rfl (Calls.evalArgs_plain (Calls.spliced_cons (thn (he pins s1 σ H1 _ I1 q1) fun iv s2 ⟨y,H2,I2,ry,ov,g,q2⟩=>Calls.spliced_nil ?_)));exact qb0 hu I2 g ry fun w' s3 I3 rw'=>⟨_,H2,I3,rw',q2⟩
end
def Ko:Kd->Q2->Q2->Q2->Q2
 | .pc,u,_,p=>fI u p
 | .pu,_,_,p=>p
 | .ho,_,v,_=>v
theorem Fq.mod {K:Frag}(l:K.lookup a=some ⟨.type "tuple",d,.seq #[.int i t,.int j u] n,sl⟩)(H:Hp):Fq K H a (i,j):=
 .inr ⟨_,_,_,l,rfl,rfl,(zl9 2),.cons ⟨_,rfl⟩ (.cons ⟨_,rfl⟩ .nil)⟩
abbrev RD:=Kd × Int × Int × Q2
inductive Rts (K:Frag) (H:Hp):List V->List RD->Prop where
 |nil:Rts K H [] []
 |cons {t z:Addr} {k:Kd} {i j:Int} {p:Q2} {xs:List V} {ds:List RD} (h:SqT K H t [.str k.wd,.int i,.int j,.ref z]) (f:Fq K H z p) (q:Rts K H xs ds):Rts K H (.ref t :: xs) ((k,i,j,p) :: ds)
section
variable {K:Frag} {H H':Hp}
theorem Rts.same (e:aZ H H'):∀{xs:List V} {ds:List RD},Rts K H xs ds->Rts K H' xs ds
 |_,_,.nil=>.nil
 |_,_,.cons h f q=>.cons (e.seqT h) (e.fq f) (Rts.same e q)
theorem Rts.length:∀{xs:List V} {ds:List RD},Rts K H xs ds->xs.length=ds.length
 |_,_,.nil=>rfl
 |_,_,.cons _ _ q=>by simp[Rts.length q]
theorem Rts.app:∀{xs ys:List V} {ds es:List RD},Rts K H xs ds->Rts K H ys es->Rts K H (xs++ys) (ds++es)
 |_,_,_,_,.nil,r=>r
 |_,_,_,_,.cons h f q,r=>.cons h f (Rts.app q r)
theorem Rts.at:∀{xs:List V} {ds:List RD} {q:Nat} {d:RD},Rts K H xs ds->ds[q]?=some d->∃t z,xs[q]?=some (.ref t)/\SqT K H t [.str d.1.wd,.int d.2.1,.int d.2.2.1,.ref z]/\Fq K H z d.2.2.2
 |_,_,_,_,.nil,h=>by simp at h
 |_,_,0,_,.cons h f _,e=>by simp at e;subst e;exact⟨_,_,rfl,h,f⟩
 |_,_,i+1,_,.cons _ _ q,e=>by simpa using Rts.at q (by simpa using e)
theorem Rts.set (h:SqT K H t [.str k.wd,.int i,.int j,.ref z])(f:Fq K H z p):∀{xs:List V} {ds:List RD} (q:Nat),Rts K H xs ds->Rts K H (xs.set q (.ref t)) (ds.set q (k,i,j,p))
 |_,_,_,.nil=>.nil
 |_,_,0,.cons _ _ q=>.cons h f q
 |_,_,n+1,.cons a b q=>.cons a b (Rts.set h f n q)
theorem Rts.upd (hl:H l=some (.lst ys)):∀{xs:List V} {ds:List RD},Rts K H xs ds->Rts K (L2.upd H l o) xs ds
 |_,_,.nil=>.nil
 |_,_,.cons h f q=>.cons (h.upd hl) (f.upd hl) (Rts.upd hl q)
end
def bQ (l:Addr)(H H':Hp):Prop:=∀b o,H b=some o->b≠l->H' b=some o
theorem aZ.x (s:aZ H H'):bQ l H H':=fun b o h _=>s b o h
theorem bQ.trans (a:bQ l H H1)(b:bQ l H1 H2):bQ l H H2:=fun c o h n=>b c o (a c o h n) n
theorem bQ.write (a:bQ l H H1):bQ l H (upd H1 l o):=fun c u h n=>by rw[aY n];exact a c u h n
section
variable {K:Frag} {H H':Hp} {l:Addr}
theorem bQ.seqT (hl:H l=some (.lst ys))(e:bQ l H H')(h:SqT K H a xs):SqT K H' a xs:=by
 rcases h with (h | ⟨u,h⟩) | h
 ·exact .inl (.inl (e _ _ h (dL h hl (fun z=>by cases z))))
 ·exact .inl (.inr ⟨u,e _ _ h (dL h hl (fun z=>by cases z))⟩)
 ·exact .inr h
theorem bQ.rts (hl:H l=some (.lst ys))(e:bQ l H H'):∀{xs:List V} {ds:List RD},Rts K H xs ds->Rts K H' xs ds
 |_,_,.nil=>.nil
 |_,_,.cons h f q=>.cons (e.seqT hl h) (e.seqT hl f) (bQ.rts hl e q)
end
theorem fpk:¬(("point_count":Str) = "kept"):=by decide +kernel
def gR (m:Int)(l:Addr):List (Str × V):=cQ "kept" (.ref l) (cQ "point_count" (.int m) [])
theorem uY (m:Int)(l:Addr):(gR m l).lookup ("point_count":Str)=some (.int m):=by
 unfold gR;rw[bF,if_neg fpk,bF,if_pos rfl]
theorem eX (m:Int)(l:Addr):(gR m l).lookup ("kept":Str)=some (.ref l):=by
 unfold gR;rw[bF,if_pos rfl]
theorem dA (m:Int)(l:Addr){x:Str}(h1:¬x = "point_count")(h2:¬x = "kept"):(gR m l).lookup x=none:=by
 unfold gR;rw[bF,if_neg h2,bF,if_neg h1];rfl
theorem La (m:Int)(l l':Addr):cQ "kept" (.ref l') (gR m l)=gR m l':=by
 unfold gR;show cQ "kept" (.ref l') (cQ "kept" (.ref l) [(("point_count":Str),V.int m)])=cQ "kept" (.ref l') [(("point_count":Str),V.int m)];show cQ "kept" (.ref l') (if (("point_count":Str)) = "kept" then _ else _)=(if (("point_count":Str)) = "kept" then _ else _)
 rw[if_neg fpk,if_neg fpk];show (if (("point_count":Str)) = "kept" then _ else (("point_count":Str),V.int m) :: (if ("kept":Str) = "kept" then _ else _))=_;rw[if_neg fpk,if_pos rfl];rfl
theorem Kr (m:Int)(l:Addr):(gR m l).length<=2:=by
 unfold gR;have a:=dR ("kept":Str) (.ref l) (cQ "point_count" (.int m) []);have b:=dR ("point_count":Str) (.int m) [];simp only[length_nil] at b;lia
def wL (m:Int)(d:RD):Prop:=0<=d.2.1/\d.2.1 < m/\0<=d.2.2.1/\d.2.2.1 < m/\Low d.2.2.2/\(d.1=.pc->0 < d.2.2.2.1)/\Bd 1000 d.2.2.2
structure dF (CN:Addr) (K:Frag) (H:Hp) (n l:Addr) (m:Int) (ds:List RD):Prop where
 ob:∃dx,H n=some (.ins CN dx (gR m l))
 ls:∃ts,H l=some (.lst ts)/\Rts K H ts ds
theorem dF.same {K:Frag}(e:aZ H H')(h:dF CN K H n l m ds):dF CN K H' n l m ds:=
 let ⟨⟨dx,a⟩,ts,b,c⟩:=h;⟨⟨dx,e _ _ a⟩,ts,e _ _ b,c.same e⟩
structure NT (K:Frag) (mg:Str->Option Value) (CN:Addr):Prop where
 cl:Cls K CN
 nP:gG K CN "point_count"
 nK:gG K CN "kept"
 t1:W.findIn K (.ref CN) "__class__"=some (some (.builtin "object.__class__"))
 t2:W.specialIn K (.builtin "object.__class__") "__get__"=some (some (.builtin "getset_descriptor.__get__"))
 t3:W.takesIn K (.builtin "object.__class__")=some true
 t4:W.mroIn K CN (.type "object")=some true
 mN:mg "Net"=some (.ref CN)
inductive pG (K:Frag) (CK:Kd->Addr) (vs:List V) (H:Hp) (Q:VK) (E:XK):Prop where
 |mk (t:Addr) (v s g z:V) (_:vs=[.ref t]) (_:SqT K H t [v,s,g,z]) (k:Kd):v=.str k.wd->qm5 CK H Q k s g z->pG K CK vs H Q E
inductive Jo (K:Frag) (vs:List V) (H:Hp) (Q:VK) (E:XK):Prop where
 |mk (a:Addr) (p:Q2):vs=[.ref a]->Fq K H a p->Low p->Q (.bl true) H->Jo K vs H Q E
inductive Yu (K:Frag) (vs:List V) (H:Hp) (Q:VK) (E:XK):Prop where
 |mk (a:Addr) (p:Q2) (n:Nat):vs=[.ref a]->Fq K H a p->Low p->0 < p.1->Bd n p->n<=8000->Q (.bl true) H->Yu K vs H Q E
inductive Vv (vs:List V) (H:Hp) (Q:VK) (E:XK):Prop where
 |mk (i b:Int):vs=[.int i,.int b]->0<=i->i < b->Q (.bl true) H->Vv vs H Q E
inductive Ty (K:Frag) (vs:List V) (H:Hp) (Q:VK) (E:XK):Prop where
 |mk (k:Kd) (z:Addr) (p:Q2):vs=[.str k.wd,.ref z]->Fq K H z p->Low p->(k=.pc->0 < p.1)->Bd 1000 p->Q .non H->Ty K vs H Q E
inductive sH (CN:Addr) (vs:List V) (H:Hp) (Q:VK) (E:XK):Prop where
 |mk (n dx:Addr) (m:Int):vs=[.ref n,.int m]->H n=some (.ins CN dx [])->1<=m->m<=20->(∀l H',H l=none->(∀b o,H b=some o->b≠n->H' b=some o)->H' n=some (.ins CN dx (gR m l))->H' l=some (.lst [])->Q .non H')->sH CN vs H Q E
inductive oE (CN:Addr) (K:Frag) (vs:List V) (H:Hp) (Q:VK) (E:XK):Prop where
 |mk (n l:Addr) (m:Int) (ds:List RD):vs=[.ref n]->dF CN K H n l m ds->Q (.int m) H->oE CN K vs H Q E
inductive sZ (CN:Addr) (K:Frag) (vs:List V) (H:Hp) (Q:VK) (E:XK):Prop where
 |mk (n l:Addr) (m:Int) (ds:List RD):vs=[.ref n]->dF CN K H n l m ds->Q (.int ds.length) H->sZ CN K vs H Q E
inductive Jl (CN:Addr) (K:Frag) (vs:List V) (H:Hp) (Q:VK) (E:XK):Prop where
 |mk (n l:Addr) (m:Int) (ds:List RD):vs=[.ref n]->dF CN K H n l m ds->(∀a ts H',aZ H H'->H a=none->H' a=some (.lst ts)->Rts K H' ts ds->Q (.ref a) H')->Jl CN K vs H Q E
inductive Nf (CN:Addr) (K:Frag) (CK:Kd->Addr) (vs:List V) (H:Hp) (Q:VK) (E:XK):Prop where
 |mk (n l x z:Addr) (m:Int) (ds:List RD) (k:Kd) (i j:Int) (p:Q2):vs=[.ref n,.ref x]->dF CN K H n l m ds->Rw CK H x k (.int i) (.int j) (.ref z)->Fq K H z p->wL m (k,i,j,p)->ds.length < 40->(∀H',bQ l H H'->dF CN K H' n l m (ds++[(k,i,j,p)])->Q (.int ds.length) H')->Nf CN K CK vs H Q E
inductive vZ (CN:Addr) (K:Frag) (vs:List V) (H:Hp) (Q:VK) (E:XK):Prop where
 |mk (n l z:Addr) (m q:Int) (ds:List RD) (k:Kd) (i j:Int) (p0 p:Q2):vs=[.ref n,.int q,.ref z]->dF CN K H n l m ds->0<=q->ds[q.toNat]?=some (k,i,j,p0)->Fq K H z p->Low p->(k=.pc->0 < p.1)->Bd 1000 p->(∀H',bQ l H H'->dF CN K H' n l m (ds.set q.toNat (k,i,j,p))->Q .non H')->vZ CN K vs H Q E
inductive Ap (CN:Addr) (K:Frag) (vs:List V) (H:Hp) (Q:VK) (E:XK):Prop where
 |mk (n l:Addr) (m:Int) (ds:List RD):vs=[.ref n]->dF CN K H n l m ds->1<=m->m<=20->(∀n' l' H',aZ H H'->H n'=none->H l'=none->dF CN K H' n' l' m ds->Q (.ref n') H')->Ap CN K vs H Q E
theorem pX (P:St->Hp->Prop)(h1:∀X:St->Hp->Prop,(∀σ' H',P σ' H'->X σ' H')->(a1) { D with nx:=X } σ H)(h2:∀σ' H',P σ' H'->u D σ' H'):(jH a1 (u)) D σ H:=h1 _ h2
theorem Xy (P:St->Hp->Prop)(h1:∀X:St->Hp->Prop,(∀σ' H',P σ' H'->X σ' H')->(jH a1 (a2)) { D with nx:=X } σ H)(h2:∀σ' H',P σ' H'->u D σ' H'):(jH a1 (jH a2 (u))) D σ H:=h1 _ h2
theorem qf4 (P:St->Hp->Prop)(h1:∀X:St->Hp->Prop,(∀σ' H',P σ' H'->X σ' H')->(jH a1 (jH a2 (a3))) { D with nx:=X } σ H)(h2:∀σ' H',P σ' H'->u D σ' H'):(jH a1 (jH a2 (jH a3 (u)))) D σ H:=h1 _ h2
theorem qk9 (P:St->Hp->Prop)(h1:∀X:St->Hp->Prop,(∀σ' H',P σ' H'->X σ' H')->(jH a1 (jH a2 (jH a3 (a4)))) { D with nx:=X } σ H)(h2:∀σ' H',P σ' H'->u D σ' H'):(jH a1 (jH a2 (jH a3 (jH a4 (u))))) D σ H:=h1 _ h2
theorem Lh (ns:List Int)(lo hi:Option Int):∃ms:List Int,iR (ns.map V.int) lo hi=ms.map V.int:=
 ⟨(ns.drop (HT.sIx (ns.map V.int).length 0 lo)).take (HT.sIx (ns.map V.int).length (ns.map V.int).length hi - HT.sIx (ns.map V.int).length 0 lo),by unfold iR;rw[map_take,map_drop]⟩
end L2
namespace Mq
def val (p:Q2):Rat:=(p.1:Rat) / (p.2:Rat)
theorem dZ {b:Int}(h:b≠0):(b:Rat)≠0:=fun e=>h (Rat.intCast_inj.mp (by simpa using e))
theorem Et {p:Q2}(hp:p.2≠0)(hb:b≠0)(h:p.1*b=t*p.2):val p=(t:Rat) / (b:Rat):=by
 unfold val;have h1:=dZ hp;have h2:=dZ hb;have h3:(p.1:Rat)*(b:Rat)=(t:Rat)*(p.2:Rat):=by rw[<- Rat.intCast_mul,<- Rat.intCast_mul,h]
 grind
theorem kJ (hb:b≠0):val (red t b)=(t:Rat) / (b:Rat):=by
 have:=(iE (t:=t) hb).pos;exact Et (by lia) hb (yC hb)
theorem sV (hp:Low p)(hq:Low q)(h:val p=val q):p=q:=by
 refine Of hp hq ?_;have p1:=dZ (show p.2≠0 by have:=hp.pos;lia);have q1:=dZ (show q.2≠0 by have:=hq.pos;lia);unfold val at h;have:(p.1:Rat)*(q.2:Rat)=(q.1:Rat)*(p.2:Rat):=by grind
 rw[<- Rat.intCast_mul,<- Rat.intCast_mul] at this;exact Rat.intCast_inj.mp this
theorem pL (hp:1<=p.2)(hq:1<=q.2):val (iZ p q)=val p+val q:=by
 have p1:=dZ (show p.2≠0 by lia);have q1:=dZ (show q.2≠0 by lia);unfold iZ;rw[kJ (gQ hp hq),Rat.intCast_add,Rat.intCast_mul,Rat.intCast_mul,Rat.intCast_mul];unfold val;grind
theorem gE (hp:1<=p.2)(hq:1<=q.2):val (minus p q)=val p - val q:=by
 have p1:=dZ (show p.2≠0 by lia);have q1:=dZ (show q.2≠0 by lia);unfold minus;rw[kJ (gQ hp hq),Rat.intCast_sub,Rat.intCast_mul,Rat.intCast_mul,Rat.intCast_mul];unfold val;grind
theorem yD (hp:1<=p.2)(hq:1<=q.2):val (gC p q)=val p*val q:=by
 have p1:=dZ (show p.2≠0 by lia);have q1:=dZ (show q.2≠0 by lia);unfold gC;rw[kJ (gQ hp hq),Rat.intCast_mul,Rat.intCast_mul];unfold val;grind
theorem jV (hp:1<=p.2)(hq:1<=q.2)(h0:q.1≠0):val (fI p q)=val p / val q:=by
 have p1:=dZ (show p.2≠0 by lia);have q1:=dZ (show q.2≠0 by lia);have q2:=dZ h0;unfold fI;rw[kJ (pK hp h0),Rat.intCast_mul,Rat.intCast_mul];unfold val;grind
theorem rM:val (0,1)=0:=by unfold val;simp;grind
theorem rL:val (1,1)=1:=by unfold val;simp;grind
theorem Im (ht:0 < t)(hb:0 < b):0 < (red t b).1:=by
 have h1:=yC (t:=t) (b:=b) (by lia);have h2:=(iE (t:=t) (b:=b) (by lia)).pos;have h3:0 < t*(red t b).2:=Int.mul_pos ht (by lia);rw[<- h1] at h3;exact Int.pos_of_mul_pos_left h3 (by lia)
def rs (n:Nat)(F:Nat->Rat):Rat:=match n with
 |0=>0
 |n+1=>rs n F+F n
theorem aP {F G:Nat->Rat}(h:∀i,i < n->F i=G i):rs n F=rs n G:=by
 induction n with
 |zero=>rfl
 |succ n ih=>simp only[rs];rw[ih (fun i hi=>h i (by lia)),h n (by lia)]
theorem dC (n:Nat)(F G:Nat->Rat):rs n (fun i=>F i+G i)=rs n F+rs n G:=by
 induction n with
 |zero=>simp[rs];grind
 |succ n ih=>simp only[rs];rw[ih];grind
theorem dW (n:Nat)(c:Rat)(F:Nat->Rat):rs n (fun i=>c*F i)=c*rs n F:=by
 induction n with
 |zero=>simp[rs]
 |succ n ih=>simp only[rs];rw[ih];grind
theorem jB (n:Nat)(F:Nat->Rat):rs n (fun i=>- F i)=- rs n F:=by
 induction n with
 |zero=>simp[rs]
 |succ n ih=>simp only[rs];rw[ih];grind
theorem dP (n:Nat):rs n (fun _=>0)=0:=by
 induction n with
 |zero=>rfl
 |succ n ih=>simp only[rs];rw[ih];grind
theorem yI (n k:Nat)(F:Nat->Rat):rs n (fun i=>if k=i then F i else 0)=if k < n then F k else 0:=by
 induction n with
 |zero=>simp[rs]
 |succ n ih=>
  simp only[rs];rw[ih]
  by_cases h1:k < n
  ·rw[if_pos h1,if_neg (by lia),if_pos (by lia)];grind
  ·by_cases h2:k=n
   ·subst h2;rw[if_neg h1,if_pos rfl,if_pos (by lia)];grind
   ·rw[if_neg h1,if_neg h2,if_neg (by lia)];grind
abbrev z0:Q2:=(0,1)
abbrev Row:=Nat × Nat × Q2
theorem fE.pos (h:fE ls):Pos ls:=fun p hp=>(h p hp).pos
def oA (L b:Int):Int:=Int.fdiv L (gc L b)*b
theorem oI (hL:1<=L)(hb:1<=b):1<=oA L b/\(∃j,oA L b=L*j)/\(∃k,oA L b=k*b/\1<=k)/\oA L b<=L*b:=by
 have gp:0 < gc L b:=vV (by lia);have d1:gc L b ∣ L:=by unfold gc;exact Int.gcd_dvd_left ..
 have d2:gc L b ∣ b:=by unfold gc;exact Int.gcd_dvd_right ..
 obtain⟨k,hk⟩:=d1;obtain⟨j,hj⟩:=d2;have ek:Int.fdiv L (gc L b)=k:=gA (by lia) hk;have k1:1<=k:=by
  have:0 < gc L b*k:=by lia
  have:=Int.pos_of_mul_pos_right this (by lia);lia
 unfold oA;rw[ek];refine⟨?_,⟨j,?_⟩,⟨k,rfl,k1⟩,?_⟩
 ·have:0 < k*b:=Int.mul_pos (by lia) (by lia);lia
 ·generalize gc L b=g at *
  rw[hk,hj];grind
 ·have:k<=L:=by
   rw[hk];have:=Int.mul_le_mul_of_nonneg_right (show 1<=gc L b by lia) (show 0<=k by lia);lia
  exact Int.mul_le_mul_of_nonneg_right this (by lia)
def eQ (ps:List Q2):Int:=ps.foldl (fun L p=>oA L p.2) 1
theorem Lx (ps:List Q2)(p:Q2):eQ (ps++[p])=oA (eQ ps) p.2:=by unfold eQ;rw[foldl_append];rfl
theorem mH {ps:List Q2}(h:ps[i]?=some p):eQ (ps.take (i+1))=oA (eQ (ps.take i)) p.2:=by
 rw[take_add_one,h];exact Lx _ _
theorem nV (hp:Pos ps)(hb:∀p∈ps,Bd n p):∀i,i<=ps.length->1<=eQ (ps.take i)/\B (1+n*i) (eQ (ps.take i))/\∀p∈ps.take i,∃k,eQ (ps.take i)=k*p.2
 |0,_=>⟨by show (1:Int)<=1;lia,show (1:Nat) < 2 ^ (1+n*0) by simp,fun p h=>by simp at h⟩
 |i+1,hi=>by
  obtain⟨h1,h2,h3⟩:=nV hp hb i (by lia);have e:ps[i]?=some ps[i]:=getElem?_eq_getElem (by lia);have mem:ps[i]∈ps:=getElem_mem _;rw[mH e];obtain⟨l1,⟨j,l2⟩,⟨k,l3,l4⟩,l5⟩:=oI h1 (hp _ mem);refine⟨l1,?_,fun p hpp=>?_⟩
  ·have:=h2.mul (hb _ mem).b;refine B.mono (n:=1+n*i+n) (this.le ?_) (by rw[Nat.mul_succ];lia);have h0:1<=ps[i].2:=hp _ mem;have:0<=eQ (ps.take i)*ps[i].2:=Int.mul_nonneg (by lia) (by lia);lia
  ·rw[take_add_one,e] at hpp;rcases mem_append.mp hpp with z | z
   ·obtain⟨q,hq⟩:=h3 p z;exact⟨q*j,by rw[l2,hq];grind⟩
   ·have:p=ps[i]:=by simpa using z
    rw[this];exact⟨k,l3⟩
theorem tL (hp:Pos ps):1<=eQ ps:=by
 have:∀(l:List Q2) (L:Int),1<=L->Pos l->1<=l.foldl (fun L p=>oA L p.2) L:=fun l=>by
  induction l with
  |nil=>intro L h _;exact h
  |cons p l ih=>intro L h q;exact ih _ (oI h (q p (by simp))).1 fun x hx=>q x (mem_cons_of_mem _ hx)
 exact this ps 1 (by lia) hp
def Cq (L:Int)(p:Q2):Int:=p.1*Int.fdiv L p.2
def iw (ps:List Q2):List Int:=ps.map (Cq (eQ ps))
theorem Rm (h:1<=p.2)(e:L=k*p.2):((Cq L p:Int):Rat)=val p*(L:Rat):=by
 have e1:Int.fdiv L p.2=k:=gA (by lia) (by rw[e,Int.mul_comm]);have n:=dZ (show p.2≠0 by lia);unfold Cq val;rw[e1,e,Rat.intCast_mul,Rat.intCast_mul];grind
theorem Da (hp:Pos ps):∀p∈ps,∃k,eQ ps=k*p.2:=fun p hpp=>by
 have:∀(l:List Q2) (L:Int),1<=L->Pos l->(∃j,l.foldl (fun L p=>oA L p.2) L=L*j)/\∀p∈l,∃k,l.foldl (fun L p=>oA L p.2) L=k*p.2:=fun l=>by
  induction l with
  |nil=>intro L h _;exact⟨⟨1,by simp⟩,fun p h=>by simp at h⟩
  |cons q l ih=>
   intro L h hq;obtain⟨l1,⟨j,l2⟩,⟨k,l3,l4⟩,l5⟩:=oI h (hq q (by simp));obtain⟨⟨j2,i1⟩,i2⟩:=ih (oA L q.2) l1 fun x hx=>hq x (mem_cons_of_mem _ hx);refine⟨⟨j*j2,by rw[foldl_cons,i1,l2];grind⟩,fun p hp=>?_⟩;rcases mem_cons.mp hp with rfl | hp
   ·exact⟨k*j2,by rw[foldl_cons,i1,l3];grind⟩
   ·exact i2 p hp
 exact(this ps 1 (by lia) hp).2 p hpp
def fZ (X:List (List Q2)):Prop:=∀row∈X,Pos row
theorem Sr (h:Pos row)(j:Nat):1<=(row.getD j z0).2:=by
 rw[getD_eq_getElem?_getD]
 cases e:row[j]? with
 |none=>exact Int.le_refl 1
 |some v=>exact h v (mem_of_getElem? e)
end Mq
open Mq (Cq Da Im aP dC dP dW dZ eQ fZ gE iw jB jV kJ nV pL rM sV tL yD yI)
namespace L2
open PySem PySem.Spec PyProof.Rows
def Ite (K : Frag)(a : Addr) : It :=
  ⟨fun i H => ∃ xs x, SqL K H a xs /\ xs[i]? = some x,
   fun i H v H' => ∃ T x, v = .ref T /\ H T = none /\ H' = upd H T (.tup [.int (i : Int), x]) /\ ∀ xs, SqL K H a xs -> xs[i]? = some x,
   fun i H => ∃ xs, SqL K H a xs /\ xs.length <= i⟩
def qd5 (e it l:Addr)(i:Nat)(h:Heap):Prop:=e≠it/\(∃old,IsEnum h e it (i:Int) old)/\h.IsListIter it l i
theorem Lf {K:Frag}(e it l:Addr):
  Ku P w K (.Tuple elts kk tpos) (Ite K l) [e,it] e (qd5 e it l) where
 mem:=by simp
 obj:=fun i h st b hb=>by
  obtain⟨ne,⟨old,he⟩,⟨o1,e1,c1,d1⟩⟩:=st;simp only[mem_cons,not_mem_nil,or_false] at hb;rcases hb with rfl | rfl
  ·exact⟨_,he,fun v q=>by cases q⟩
  ·exact⟨o1,e1,fun v q=>by rw[d1] at q;cases q⟩
 keep:=fun i h h' st k=>by
  obtain⟨ne,⟨old,he⟩,⟨o1,e1,c1,d1⟩⟩:=st;exact⟨ne,⟨old,k _ (by simp) _ he⟩,⟨o1,k _ (by simp) _ e1,c1,d1⟩⟩
 item:=by
  intro X hP hw hK hc i pins s σ H E I hf st hg;subst hP hw hK;obtain⟨ne,⟨old,he⟩,t1⟩:=st;obtain⟨xs,x,hx,ex⟩:=hg;obtain⟨its1,rv1,p1,z1⟩:=I.list hx;obtain⟨u1,hu1,ru1⟩:=rv1.get ex;refine wpAny_pyNext_enum_item he t1 p1.isList (x:=u1) (by simpa using hu1) ne fun h' g1 g2 g3 g4 kk'=>?_;have hn:H s.heap.objs.size=none:=I.hok.fresh (Nat.le_refl _);have lt:∀b∈[e,it],b < s.heap.objs.size:=fun b hb=>by
   simp only[mem_cons,not_mem_nil,or_false] at hb;obtain⟨o1,e1,_⟩:=t1;rcases hb with rfl | rfl
   ·exact Heap.lt_size he
   ·exact Heap.lt_size e1
  have I1:Inv X pins σ (upd H s.heap.objs.size (.tup [.int (i:Int),x])) { s with heap:=s.heap.push { cls:=.type "tuple",data:=.seq #[.int i s.toks,u1] },toks:=s.toks+1 }:=
   I.laid (t':=s.toks+1) (fun b o e=>Heap.get?_push_of_some _ e) (Nat.le_refl _) (show eP X.prog X.w _ _ _ (.tup [.int (i:Int),x]) from ⟨zl9 2,[.int i s.toks,u1],.cons ⟨_,rfl⟩ (.cons ru1 .nil),IsTup.new _ _⟩)
  have hf1:∀b∈[e,it],mY X pins (upd H s.heap.objs.size (.tup [.int (i:Int),x])) b:=fun b hb=>⟨by rw[aY (Nat.ne_of_lt (lt b hb))];exact(hf b hb).1,(hf b hb).2⟩
  have k1:∀b o,b∉[e,it]->(s.heap.push { cls:=.type "tuple",data:=.seq #[.int i s.toks,u1] }).get? b=some o->h'.get? b=some o:=fun b o nb e=>by
   simp only[mem_cons,not_mem_nil,or_false,not_or] at nb
   by_cases hb:b=s.heap.objs.size
   ·subst hb;rw[Heap.get?_push_size _ rfl] at e
    cases e
    exact g3
   ·have e0:s.heap.get? b=some o:=by rw[Heap.get?_push_ne _ _ _ hb] at e;exact e
    exact kk' b o nb.1 nb.2 e0
  have I2:Inv X pins σ (upd H s.heap.objs.size (.tup [.int (i:Int),x])) { s with heap:=h',toks:=s.toks+1 }:=Inv.turnedL (s:={ s with heap:=s.heap.push { cls:=.type "tuple",data:=.seq #[.int i s.toks,u1] },toks:=s.toks+1 }) (t':=s.toks+1) I1 k1 hf1;refine⟨_,rfl,wpAny_letOwnedTupleGo_enum (s:={ s with heap:=h',toks:=s.toks+1 }) g1 fun h2 q1 q2=>?_⟩;have kz:∀b o,b≠e->h'.get? b=some o->h2.get? b=some o:=fun b o nb e=>(q2.2 b nb).trans e;have I3:Inv X pins σ (upd H s.heap.objs.size (.tup [.int (i:Int),x])) { s with heap:=h2,toks:=s.toks+1 }:=Inv.turnedL (s:={ s with heap:=h',toks:=s.toks+1 }) (t':=s.toks+1) (fp:=[e]) I2 (fun b o nb e=>kz b o (by simpa using nb) e) fun b hb=>hf1 b (by simp at hb;simp[hb]);obtain⟨o3,e3,c3,d3⟩:=g2;refine⟨.ref s.heap.objs.size,_,I3,rfl,⟨_,x,rfl,hn,rfl,fun xs' h1=>?_⟩,⟨ne,⟨_,q1⟩,⟨o3,kz _ _ ne.symm e3,c3,d3⟩⟩,fun b hb=>(hf1 b hb).1⟩;rw[I.list_inj h1 hx];exact ex
 done:=by
  intro X hP hw hK hc i pins s σ H E I hf st hg;subst hP hw hK;obtain⟨ne,⟨old,he⟩,t1⟩:=st;obtain⟨xs,hx,hor⟩:=hg;obtain⟨its1,rv1,p1,z1⟩:=I.list hx;have l1':=rv1.length;refine wpAny_pyNext_enum_end (I.ok.hd hc) he t1 p1.isList (by simp;lia) fun h' kk'=>⟨rfl,?_⟩
  refine I.turnedL (t':=s.toks) (fun b o nb e=>?_) hf;simp only[mem_cons,not_mem_nil,or_false,not_or] at nb;exact kk' b o nb.2 e
 self:=fun A i s Q E st h=>by
  obtain⟨ne,⟨old,he⟩,t1⟩:=st;exact wpAny_pyIter_enum he h
section
variable {X:Cx}
def qj9 (K:Frag)(ta:TA):TI:=fun σ H R=>ta σ H fun vs H1=>∃a,vs=[.ref a]/\(∃xs,SqL K H1 a xs)/\R (Ite K a) H1
theorem pI (hg:Gl X "enumerate")(hm:X.mg "enumerate"=none)(hv:bootBuiltins "enumerate"=some (.type "enumerate"))(ha:PA X [e1] ta)(hs:starEach [e1] X.env=(false,eval e1 X.env) :: starEach [] X.env:=by rfl)(hpl:(backTo pos (starEach [] X.env)).any (·.1)=false:=by rfl):PI X (.Tuple elts kk tpos) (.Call (.Name "enumerate" p) [e1] [] pos) (qj9 X.K ta):=by
 intro pins s σ H R I h;refine Call_ (kE I hg hm hv (PyProof.Rows.callWith_type1 (thn (ha pos pins s σ H _ I h) fun us s1 ⟨vs,H1,I1,r1,q1⟩=>?_) hs hpl));obtain⟨a,rfl,⟨xs,hx⟩,q⟩:=q1;obtain⟨u,rfl,ra⟩:=Dl r1
 cases (show u=Value.ref a from ra)
 obtain⟨its1,rv1,p1,z1⟩:=I1.list hx;have la:a < s1.heap.objs.size:=by obtain⟨o,e,_⟩:=p1.isList;exact Heap.lt_size e
 refine call_enumerate_list p1.isList fun h' g1 g2 g3 kk'=>?_;refine wpAny_pyIter_enum g1 ?_;refine⟨s1.heap.objs.size+1,[s1.heap.objs.size+1,s1.heap.objs.size],_,Ite X.K a,H1,rfl,I1.kept (t':=s1.toks) kk',Lf _ _ a,⟨?_,⟨_,g1⟩,g2⟩,fun c hc=>?_,q⟩
 ·exact Nat.succ_ne_self _
 ·have hle:s1.heap.objs.size<=c:=by
   simp only[mem_cons,not_mem_nil,or_false] at hc;rcases hc with rfl | rfl<;>first | exact Nat.le_add_right _ _ | exact Nat.le_refl _
  exact I1.fpOk hle (I1.hok.fresh hle)
theorem Bm {K:Frag}{g:TG}{tb:TS}{D:mE}(Pv:Nat->St->Hp->Prop)(h0:Pv 0 σ H)(hl:∀i σ H,i<=xs.length->Pv i σ H->SqL K H a xs)(hs:∀i x σ H T,xs[i]?=some x->Pv i σ H->H T=none->g (.ref T) σ (upd H T (.tup [.int (i:Int),x])) fun σ2 H2=>tb { D with nx:=Pv (i+1),ct:=Pv (i+1),bk:=D.nx } σ2 H2)(hd:∀σ H,Pv xs.length σ H->D.nx σ H):
  ∃W:Nat->Nat->St->Hp->Prop,(∃m,W 0 m σ H)/\∀i m σ H,W i m σ H->
   ((Ite K a).stop i H/\D.nx σ H)\/((Ite K a).go i H/\∃N:St->Hp->Prop,(∀σ' H',N σ' H'->∃m',m' < m/\W (i+1) m' σ' H')/\∀x H',(Ite K a).yld i H x H'->g x σ H' fun σ2 H2=>tb { D with nx:=N,ct:=N,bk:=D.nx } σ2 H2):=by
 refine⟨fun i m σ H=>m=xs.length - i/\i<=xs.length/\Pv i σ H,⟨_,rfl,Nat.zero_le _,h0⟩,?_⟩;rintro i m σ H ⟨rfl,hi,p⟩;have qx:=hl i σ H hi p
 by_cases hlt:i < xs.length
 ·refine .inr ⟨⟨xs,xs[i],qx,by simp[hlt]⟩,Pv (i+1),fun σ' H' p'=>⟨xs.length - (i+1),by lia,rfl,hlt,p'⟩,fun v H' z=>?_⟩;obtain⟨T,x,rfl,hT,rfl,hh⟩:=z;exact hs i x σ H T (hh xs qx) p hT
 ·have e:i=xs.length:=by lia
  subst e;exact .inl ⟨⟨xs,qx,Nat.le_refl _⟩,hd σ H p⟩
theorem qO {K:Frag}(Pv:Nat->List V->Hp->Prop)(h0:Pv 0 [] (upd H1 D (.lst [])))(hl:∀i zs H,Pv i zs H->H D=some (.lst zs))(hx:∀i zs H,i<=xs.length->Pv i zs H->SqL K H a xs)(hs:∀i zs x H T,xs[i]?=some x->Pv i zs H->H T=none->∀(C:Nat->List V->Hp->Prop),(∀zs H,Pv (i+1) zs H->C (i+1) zs H)->Ih nl fr g tt te σ D C i zs (.ref T) (upd H T (.tup [.int (i:Int),x])))(hd:∀zs H,Pv xs.length zs H->Q (.ref D) H):
  Bx (Ite K a) nl fr g tt te σ D H1 Q:=by
 refine⟨fun i m zs H=>m=xs.length - i/\i<=xs.length/\Pv i zs H,⟨_,rfl,Nat.zero_le _,h0⟩,?_⟩;rintro i m zs H ⟨rfl,hi,p⟩;refine⟨hl i zs H p,?_⟩;have qx:=hx i zs H hi p
 by_cases hlt:i < xs.length
 ·refine .inr ⟨⟨xs,xs[i],qx,by simp[hlt]⟩,fun v H' z=>?_⟩;obtain⟨T,x,rfl,hT,rfl,hh⟩:=z;exact hs i zs x H T (hh xs qx) p hT (fun j zs Hz=>∃m',m' < xs.length - i/\m'=xs.length - j/\j<=xs.length/\Pv j zs Hz) fun zs Hz z=>⟨xs.length - (i+1),by lia,rfl,hlt,z⟩
 ·have e:i=xs.length:=by lia
  subst e;exact .inl ⟨⟨xs,qx,Nat.le_refl _⟩,hd zs H p⟩
end
end L2
namespace Shp
open PySem L2
theorem Vc (h:0 < b):dvr t b=gc t b:=by unfold dvr;rw[if_neg (by lia)]
end Shp
namespace Mq
def skip (j k:Nat):Nat:=if k < j then k else k+1
def sgn (n:Nat):Rat:=if n % 2=0 then 1 else -1
theorem vW (n:Nat):sgn (n+1)=- sgn n:=by
 unfold sgn;rcases Nat.mod_two_eq_zero_or_one n with h | h
 ·rw[if_neg (by lia),if_pos h]
 ·rw[if_pos (by lia),if_neg (by lia)];grind
abbrev Mat:=Nat->Nat->Rat
def det:Nat->Mat->Rat
 |0,_=>1
 |n+1,M=>rs (n+1) fun j=>sgn (n+j)*M n j*det n fun i k=>M i (skip j k)
theorem fV (n:Nat)(M:Mat):det (n+1) M=rs (n+1) fun j=>sgn (n+j)*M n j*det n fun i k=>M i (skip j k):=rfl
theorem Vx (hk:k < n):skip j k < n+1:=by unfold skip;split<;>lia
theorem cS:∀{n:Nat} {M N:Mat},(∀i j,i < n->j < n->M i j=N i j)->det n M=det n N
 |0,_,_,_=>rfl
 |n+1,M,N,h=>by
  rw[fV,fV];exact aP fun j hj=>by rw[h n j (by lia) hj,cS (N:=fun i k=>N i (skip j k)) fun i k hi hk=>h i _ (by lia) (Vx hk)]
theorem yF (h:j<=k):skip (k+1) (skip j l)=skip j (skip k l):=by
 unfold skip
 by_cases h1:l < j
 ·rw[if_pos h1,if_pos (show l < k by lia),if_pos (show l < k+1 by lia),if_pos h1]
 ·rw[if_neg h1]
  by_cases h2:l < k
  ·rw[if_pos h2,if_pos (show l+1 < k+1 by lia),if_neg h1]
  ·rw[if_neg h2,if_neg (show ¬l+1 < k+1 by lia),if_neg (show ¬l+1 < j by lia)]
theorem zT (n m:Nat)(F:Nat->Nat->Rat):(rs n fun i=>rs m fun j=>F i j)=rs m fun j=>rs n fun i=>F i j:=by
 induction n with
 |zero=>simp only[rs];rw[dP]
 |succ n ih=>simp only[rs];rw[ih,<- dC]
theorem jF (n:Nat)(F:Nat->Rat):rs (n+1) F=F 0+rs n fun i=>F (i+1):=by
 induction n with
 |zero=>simp only[rs];grind
 |succ n ih=>rw[show rs (n+1+1) F=rs (n+1) F+F (n+1) from rfl,ih];simp only[rs];grind
theorem xE (N:Nat)(X:Nat->Nat->Rat):(rs (N+1) fun j=>rs N fun k=>X j k)=(rs N fun k=>rs N fun j=>if k<=j then X (j+1) k else 0)+rs N fun j=>rs N fun k=>if j<=k then X j k else 0:=by
 have h1:(rs (N+1) fun j=>rs N fun k=>X j k)=(rs (N+1) fun j=>rs N fun k=>if k < j then X j k else 0)+rs (N+1) fun j=>rs N fun k=>if k < j then 0 else X j k:=by
  rw[<- dC];refine aP fun j _=>?_;rw[<- dC];exact aP fun k _=>by split<;>grind
 have h2:(rs (N+1) fun j=>rs N fun k=>if k < j then X j k else 0)=rs N fun k=>rs N fun j=>if k<=j then X (j+1) k else 0:=by
  rw[zT];refine aP fun k _=>?_;rw[jF,if_neg (by lia)];have:(rs N fun i=>if k < i+1 then X (i+1) k else 0)=rs N fun j=>if k<=j then X (j+1) k else 0:=aP fun i _=>by
   by_cases c:k<=i
   ·rw[if_pos (by lia),if_pos c]
   ·rw[if_neg (by lia),if_neg c]
  rw[this];grind
 have h3:(rs (N+1) fun j=>rs N fun k=>if k < j then 0 else X j k)=rs N fun j=>rs N fun k=>if j<=k then X j k else 0:=by
  show (rs N fun j=>rs N fun k=>if k < j then 0 else X j k)+(rs N fun k=>if k < N then 0 else X N k)=_;have:(rs N fun k=>if k < N then 0 else X N k)=rs N fun _=>0:=aP fun k hk=>by rw[if_pos hk]
  rw[this,dP];have e2:(rs N fun j=>rs N fun k=>if k < j then 0 else X j k)=rs N fun j=>rs N fun k=>if j<=k then X j k else 0:=aP fun j _=>aP fun k _=>by
   by_cases c:j<=k
   ·rw[if_neg (by lia),if_pos c]
   ·rw[if_pos (by lia),if_neg c]
  rw[e2];grind
 rw[h1,h2,h3]
theorem Gz (N:Nat)(X Y:Nat->Nat->Rat)(h:∀j k,j<=k->Y (k+1) j=- X j k)(h':∀j k,j<=k->X (k+1) j=- Y j k):(rs (N+1) fun j=>rs N fun k=>Y j k)=- rs (N+1) fun j=>rs N fun k=>X j k:=by
 rw[xE,xE];have e1:(rs N fun k=>rs N fun j=>if k<=j then Y (j+1) k else 0)=- rs N fun j=>rs N fun k=>if j<=k then X j k else 0:=by
  rw[<- jB];refine aP fun k _=>?_;rw[<- jB];exact aP fun j _=>by
   by_cases c:k<=j
   ·rw[if_pos c,if_pos c,h k j c]
   ·rw[if_neg c,if_neg c];grind
 have e2:(rs N fun k=>rs N fun j=>if k<=j then X (j+1) k else 0)=- rs N fun j=>rs N fun k=>if j<=k then Y j k else 0:=by
  rw[<- jB];refine aP fun k _=>?_;rw[<- jB];exact aP fun j _=>by
   by_cases c:k<=j
   ·rw[if_pos c,if_pos c,h' k j c]
   ·rw[if_neg c,if_neg c];grind
 rw[e1,e2];grind
def cL (a:Nat)(M:Mat):Mat:=fun i=>if i=a then M (a+1) else if i=a+1 then M a else M i
theorem Ji (n:Nat)(M:Mat):det (n+2) M=rs (n+2) fun j=>rs (n+1) fun k=>(sgn (n+1+j)*M (n+1) j)*(sgn (n+k)*M n (skip j k)*det n fun i l=>M i (skip j (skip k l))):=by
 rw[fV];exact aP fun j _=>by rw[fV,<- dW]
theorem pH (a b:Nat):sgn (a+1+b)=- sgn (a+b):=by rw[show a+1+b=a+b+1 by lia,vW]
theorem wX (n:Nat)(M:Mat):det (n+2) (cL n M)=- det (n+2) M:=by
 rw[Ji,Ji];refine Gz (n+1) _ _ (fun j k hjk=>?_) (fun j k hjk=>?_)
 ·show (sgn (n+1+(k+1))*cL n M (n+1) (k+1))*(sgn (n+j)*cL n M n (skip (k+1) j)*det n fun i l=>cL n M i (skip (k+1) (skip j l)))=- ((sgn (n+1+j)*M (n+1) j)*(sgn (n+k)*M n (skip j k)*det n fun i l=>M i (skip j (skip k l))));have a1:cL n M (n+1)=M n:=by unfold cL;rw[if_neg (by lia),if_pos rfl]
  have a2:cL n M n=M (n+1):=by unfold cL;rw[if_pos rfl]
  have a3:(det n fun i l=>cL n M i (skip (k+1) (skip j l)))=det n fun i l=>M i (skip j (skip k l)):=cS fun i l hi _=>by
   show cL n M i (skip (k+1) (skip j l))=M i (skip j (skip k l));rw[yF hjk];unfold cL;rw[if_neg (by lia),if_neg (by lia)]
  have a4:skip (k+1) j=j:=by unfold skip;rw[if_pos (by lia)]
  have a5:skip j k=k+1:=by unfold skip;rw[if_neg (by lia)]
  rw[a1,a2,a3,a4,a5,pH,pH,show n+(k+1)=n+k+1 by lia,vW];generalize (det n fun i l=>M i (skip j (skip k l)))=dd;generalize sgn (n+k)=s1;generalize sgn (n+j)=s2;grind
 ·show (sgn (n+1+(k+1))*M (n+1) (k+1))*(sgn (n+j)*M n (skip (k+1) j)*det n fun i l=>M i (skip (k+1) (skip j l)))=- ((sgn (n+1+j)*cL n M (n+1) j)*(sgn (n+k)*cL n M n (skip j k)*det n fun i l=>cL n M i (skip j (skip k l))));have a1:cL n M (n+1)=M n:=by unfold cL;rw[if_neg (by lia),if_pos rfl]
  have a2:cL n M n=M (n+1):=by unfold cL;rw[if_pos rfl]
  have a3:(det n fun i l=>M i (skip (k+1) (skip j l)))=det n fun i l=>cL n M i (skip j (skip k l)):=cS fun i l hi _=>by
   show M i (skip (k+1) (skip j l))=cL n M i (skip j (skip k l));rw[yF hjk];unfold cL;rw[if_neg (by lia),if_neg (by lia)]
  have a4:skip (k+1) j=j:=by unfold skip;rw[if_pos (by lia)]
  have a5:skip j k=k+1:=by unfold skip;rw[if_neg (by lia)]
  rw[a1,a2,a3,a4,a5,pH,pH,show n+(k+1)=n+k+1 by lia,vW];generalize (det n fun i l=>cL n M i (skip j (skip k l)))=dd;generalize sgn (n+k)=s1;generalize sgn (n+j)=s2;grind
theorem lG:∀(n a:Nat) (M:Mat),a+1 < n->det n (cL a M)=- det n M
 |0,_,_,h=>absurd h (by lia)
 |n+1,a,M,h=>by
  by_cases e:a+1=n
  ·subst e;exact wX a M
  ·rw[fV,fV,<- jB];refine aP fun j hj=>?_;have e1:cL a M n j=M n j:=by unfold cL;rw[if_neg (by lia),if_neg (by lia)]
   have e2:(det n fun i k=>cL a M i (skip j k))=- det n fun i k=>M i (skip j k):=by
    rw[<- lG n a (fun i k=>M i (skip j k)) (by lia)];exact cS fun i k _ _=>by
     show cL a M i (skip j k)=cL a (fun i k=>M i (skip j k)) i k;unfold cL;split
     ·rfl
     ·split<;>rfl
   rw[e1,e2];grind
theorem wR:∀(t n:Nat) (M:Mat) (i:Nat),i+t+1=n->(∀j,M i j=M n j)->det (n+1) M=0
 |0,n,M,i,h,e=>by
  have hn:n=i+1:=by lia
  subst hn;have s:=wX i M;have c:det (i+2) (cL i M)=det (i+2) M:=cS fun k j _ _=>by
   unfold cL
   by_cases k1:k=i
   ·rw[if_pos k1,k1];exact(e j).symm
   ·rw[if_neg k1]
    by_cases k2:k=i+1
    ·rw[if_pos k2,k2];exact e j
    ·rw[if_neg k2]
  rw[c] at s;grind
 |t+1,n,M,i,h,e=>by
  have s:=lG (n+1) i M (by lia);have z:=wR t n (cL i M) (i+1) (by lia) fun j=>by
   have a1:cL i M (i+1)=M i:=by unfold cL;rw[if_neg (by lia),if_pos rfl]
   have a2:cL i M n=M n:=by unfold cL;rw[if_neg (by lia),if_neg (by lia)]
   rw[a1,a2];exact e j
  rw[z] at s;grind
def zY (n:Nat)(S:Mat)(x:Nat->Rat):Mat:=fun i=>if i=n then x else S i
def F (n:Nat)(S:Mat)(c:Nat->Nat)(x:Nat->Rat):Rat:=det (n+1) (zY n (fun i j=>S i (c j)) fun j=>x (c j))
theorem Kg (n:Nat)(S:Mat)(c:Nat->Nat)(x:Nat->Rat):F n S c x=rs (n+1) fun j=>sgn (n+j)*x (c j)*det n fun i k=>S i (c (skip j k)):=by
 unfold F;rw[fV];refine aP fun j _=>?_;have e1:zY n (fun i j=>S i (c j)) (fun j=>x (c j)) n j=x (c j):=by unfold zY;rw[if_pos rfl]
 rw[e1,cS fun i k hi _=>show zY n (fun i j=>S i (c j)) (fun j=>x (c j)) i (skip j k)=S i (c (skip j k)) by unfold zY;rw[if_neg (by lia)]]
theorem qk2 (n:Nat)(S:Mat)(c:Nat->Nat)(x y:Nat->Rat)(l:Rat):F n S c (fun j=>x j+l*y j)=F n S c x+l*F n S c y:=by
 rw[Kg,Kg,Kg,<- dW,<- dC];exact aP fun j _=>by grind
theorem Ht (n:Nat)(S:Mat)(c:Nat->Nat)(h:i < n):F n S c (S i)=0:=by
 unfold F;refine wR (n - i - 1) n _ i (by lia) fun j=>?_;unfold zY;rw[if_neg (by lia),if_pos rfl]
theorem Aj (n:Nat)(S:Mat)(c:Nat->Nat)(x:Nat->Rat)(h:∀j,j < n->x (c j)=0):F n S c x=x (c n)*det n fun i j=>S i (c j):=by
 rw[Kg];show (rs n fun j=>sgn (n+j)*x (c j)*det n fun i k=>S i (c (skip j k)))+sgn (n+n)*x (c n)*(det n fun i k=>S i (c (skip n k)))=_;have z:(rs n fun j=>sgn (n+j)*x (c j)*det n fun i k=>S i (c (skip j k)))=rs n fun _=>0:=aP fun j hj=>by rw[h j hj];grind
 have s:sgn (n+n)=1:=by unfold sgn;rw[if_pos (by lia)]
 have d:(det n fun i k=>S i (c (skip n k)))=det n fun i j=>S i (c j):=cS fun i k _ hk=>by show S i (c (skip n k))=_;unfold skip;rw[if_pos hk]
 rw[z,dP,s,d];grind
theorem Cv {F:Nat->Rat}(h:∀i,i < n->∃z:Int,F i=(z:Rat)):∃z:Int,rs n F=(z:Rat):=by
 induction n with
 |zero=>exact⟨0,by simp[rs]⟩
 |succ n ih=>
  obtain⟨a,ha⟩:=ih fun i hi=>h i (by lia);obtain⟨b,hb⟩:=h n (by lia);exact⟨a+b,by simp only[rs];rw[ha,hb,Rat.intCast_add]⟩
theorem Lv (n:Nat):∃z:Int,sgn n=(z:Rat):=by
 unfold sgn;split
 ·exact⟨1,by simp⟩
 ·exact⟨-1,by rw[Rat.intCast_neg];simp⟩
theorem qU (h:∃z:Int,a=(z:Rat))(k:∃z:Int,b=(z:Rat)):∃z:Int,a*b=(z:Rat):=by
 obtain⟨x,rfl⟩:=h;obtain⟨y,rfl⟩:=k;exact⟨x*y,by rw[Rat.intCast_mul]⟩
theorem wW:∀{n:Nat} {M:Mat},(∀i j,∃z:Int,M i j=(z:Rat))->∃z:Int,det n M=(z:Rat)
 |0,_,_=>⟨1,by simp[det]⟩
 |n+1,M,h=>by
  rw[fV];exact Cv fun j _=>qU (qU (Lv _) (h n j)) (wW fun i k=>h i _)
theorem Vg (h:∀i j,∃z:Int,S i j=(z:Rat))(hx:∀j,∃z:Int,x j=(z:Rat)):∃z:Int,F n S c x=(z:Rat):=by
 unfold F;refine wW fun i j=>?_;unfold zY;split
 ·exact hx _
 ·exact h i _
def Lin (Φ:(Nat->Rat)->Rat):Prop:=∀x y l,Φ (fun j=>x j+l*y j)=Φ x+l*Φ y
theorem Lin.zero (h:Lin Φ):Φ (fun _=>0)=0:=by
 have:=h (fun _=>0) (fun _=>0) 1;have e:(fun j:Nat=>(fun _=>(0:Rat)) j+1*(fun _=>(0:Rat)) j)=fun _=>0:=by funext j;show (0:Rat)+1*0=0;grind
 rw[e] at this;grind
theorem Lin.mul (h:Lin Φ)(l:Rat)(y:Nat->Rat):Φ (fun j=>l*y j)=l*Φ y:=by
 have:=h (fun _=>0) y l;have e:(fun j:Nat=>(fun _=>(0:Rat)) j+l*y j)=fun j=>l*y j:=by funext j;show (0:Rat)+l*y j=_;grind
 rw[e,h.zero] at this;grind
theorem Lin.sum (h:Lin Φ)(a:Nat->Rat)(Y:Nat->Nat->Rat):∀n,Φ (fun j=>rs n fun k=>a k*Y k j)=rs n fun k=>a k*Φ (Y k)
 |0=>h.zero
 |n+1=>by
  have:=h (fun j=>rs n fun k=>a k*Y k j) (Y n) (a n);simp only[rs];rw[this,Lin.sum h a Y n]
theorem Ie (n:Nat)(S:Mat)(c:Nat->Nat):Lin (F n S c):=fun x y l=>qk2 n S c x y l
def Wh (x:Rat):Prop:=∃z:Int,x=(z:Rat)
theorem Wh.mul (h:Wh a)(k:Wh b):Wh (a*b):=qU h k
theorem Wh.neg (h:Wh a):Wh (-a):=by obtain⟨z,rfl⟩:=h;exact⟨-z,by rw[Rat.intCast_neg]⟩
theorem Wh.sub (h:Wh a)(k:Wh b):Wh (a - b):=by obtain⟨x,rfl⟩:=h;obtain⟨y,rfl⟩:=k;exact⟨x - y,by rw[Rat.intCast_sub]⟩
theorem Wh.one:Wh 1:=⟨1,by simp⟩
theorem Wh.nil:Wh 0:=⟨0,by simp⟩
structure Bar (m:Nat) (A E:Mat) (r col:Nat) (d:Rat) (c:Nat->Nat):Prop where
 dne:d≠0
 rm:r<=m
 rc:r<=col
 clt:∀j,j < r->c j < col
 cinj:∀i j,i < r->j < r->c i=c j->i=j
 wA:∀i j,Wh (A i j)
 wE:∀i j,i < m->Wh (E i j)
 i2:∀k j,k < r->j < r->E k (c j)=if j=k then d else 0
 i3:∀i x,r<=i->i < m->x < col->E i x=0
 i4:∀i x,i < m->d*A i x=(rs r fun k=>A i (c k)*E k x)+if i < r then 0 else E i x
 i5:det r (fun i j=>A i (c j))=d
 i6:∀Φ,Lin Φ->(∀s,s < r->Φ (A s)=0)->∀k,k < r->Φ (E k)=0
 full:r=col->∀j,j < r->c j=j
theorem Bar.start (wA:∀i j,Wh (A i j)):Bar m A A 0 0 1 id where
 dne:=by grind
 rm:=by lia
 rc:=by lia
 clt:=fun j h=>absurd h (by lia)
 cinj:=fun i j h=>absurd h (by lia)
 wA:=wA
 wE:=fun i j _=>wA i j
 i2:=fun k j h=>absurd h (by lia)
 i3:=fun i x _ _ h=>absurd h (by lia)
 i4:=fun i x _=>by simp only[rs];rw[if_neg (by lia)];grind
 i5:=rfl
 i6:=fun Φ _ _ k h=>absurd h (by lia)
 full:=fun _ j h=>absurd h (by lia)
section
variable {m:Nat} {A E:Mat} {r col:Nat} {d:Rat} {c:Nat->Nat}
theorem Bar.skip (h:Bar m A E r col d c)(hz:∀i,r<=i->i < m->E i col=0):Bar m A E r (col+1) d c:=
 { h with
  rc:=by have:=h.rc;lia
  clt:=fun j hj=>by have:=h.clt j hj;lia
  i3:=fun i x hi hm hx=>by
   by_cases e:x=col
   ·rw[e];exact hz i hi hm
   ·exact h.i3 i x hi hm (by lia)
  full:=fun e=>by have:=h.rc;lia }
def sw (p r i:Nat):Nat:=if i=r then p else if i=p then r else i
theorem xZ (hp:r<=p)(hi:i < r):sw p r i=i:=by unfold sw;rw[if_neg (by lia),if_neg (by lia)]
theorem Wv (hp:r<=p)(hi:r<=i):r<=sw p r i:=by unfold sw;split;exact hp;split<;>lia
theorem zM (hp:p < m)(hr:r < m)(hi:i < m):sw p r i < m:=by unfold sw;split;exact hp;split<;>lia
theorem Pz (p r i:Nat):sw p r (sw p r i)=i:=by
 unfold sw
 by_cases h1:i=r
 ·rw[if_pos h1]
  by_cases h2:p=r
  ·rw[if_pos h2];lia
  ·rw[if_neg h2,if_pos rfl];exact h1.symm
 ·rw[if_neg h1]
  by_cases h2:i=p
  ·rw[if_pos h2,if_pos rfl];exact h2.symm
  ·rw[if_neg h2,if_neg h1,if_neg h2]
theorem Bar.swap (h:Bar m A E r col d c)(hp:r<=p)(hpm:p < m):Bar m (fun i=>A (sw p r i)) (fun i=>E (sw p r i)) r col d c:=
 { h with
  wA:=fun i j=>h.wA _ j
  wE:=fun i j hi=>h.wE _ j (zM hpm (by lia) hi)
  i2:=fun k j hk hj=>by
   show E (sw p r k) (c j)=_;rw[xZ hp hk];exact h.i2 k j hk hj
  i3:=fun i x hi hm hx=>h.i3 _ x (Wv hp hi) (zM hpm (by lia) hm) hx
  i4:=fun i x hm=>by
   have e:(rs r fun k=>A (sw p r i) (c k)*E (sw p r k) x)=rs r fun k=>A (sw p r i) (c k)*E k x:=aP fun k hk=>by rw[xZ hp hk]
   show d*A (sw p r i) x=(rs r fun k=>A (sw p r i) (c k)*E (sw p r k) x)+_;rw[e,h.i4 _ x (zM hpm (by lia) hm)];congr 1
   by_cases hi:i < r
   ·rw[xZ hp hi,if_pos hi]
   ·have:=Wv hp (show r<=i by lia);rw[if_neg (by lia),if_neg hi]
  i5:=by
   rw[<- h.i5];exact cS fun i j hi _=>by show A (sw p r i) (c j)=_;rw[xZ hp hi]
  i6:=fun Φ hΦ hs k hk=>by
   show Φ (E (sw p r k))=0;rw[xZ hp hk];exact h.i6 Φ hΦ (fun s hs'=>by have:=hs s hs';rwa [xZ hp hs'] at this) k hk }
def clr (E:Mat)(r col:Nat)(d:Rat):Mat:=fun k x=>if k=r then E r x else (E r col*E k x - E k col*E r x) / d
def c1 (c:Nat->Nat)(r col:Nat):Nat->Nat:=fun j=>if j=r then col else c j
theorem jA (c:Nat->Nat)(h:j < r):c1 c r col j=c j:=by unfold c1;rw[if_neg (by lia)]
theorem nH (c:Nat->Nat)(r col:Nat):c1 c r col r=col:=by unfold c1;rw[if_pos rfl]
theorem zZ (E:Mat)(r col:Nat)(d:Rat):clr E r col d r=E r:=by funext x;unfold clr;rw[if_pos rfl]
theorem lK (E:Mat)(h:k≠r)(x:Nat):clr E r col d k x=(E r col*E k x - E k col*E r x) / d:=by unfold clr;rw[if_neg h]
theorem Bar.j2 (h:Bar m A E r col d c)(hr:r < m):∀k j,k < r+1->j < r+1->clr E r col d k (c1 c r col j)=if j=k then E r col else 0:=fun k j hk hj=>by
 have hd:=h.dne
 by_cases kr:k=r
 ·subst kr;rw[zZ]
  by_cases jr:j=k
  ·rw[if_pos jr,jr,nH]
  ·rw[if_neg jr,jA c (by lia)];exact h.i3 k _ (Nat.le_refl _) hr (h.clt j (by lia))
 ·rw[lK E kr]
  by_cases jr:j=r
  ·subst jr;rw[nH,if_neg (by lia)];grind
  ·rw[jA c (by lia),h.i2 k j (by lia) (by lia),h.i3 r (c j) (Nat.le_refl _) hr (h.clt j (by lia))]
   by_cases e:j=k
   ·rw[if_pos e,if_pos e];grind
   ·rw[if_neg e,if_neg e];grind
theorem Bar.j4 (h:Bar m A E r col d c)(hr:r < m):∀i x,i < m->E r col*A i x=(rs (r+1) fun k=>A i (c1 c r col k)*clr E r col d k x)+if i < r+1 then 0 else clr E r col d i x:=fun i x hi=>by
 have hd:=h.dne;have q:=h.i4 i x hi;have q2:=h.i4 i col hi;show _=(rs r fun k=>A i (c1 c r col k)*clr E r col d k x)+A i (c1 c r col r)*clr E r col d r x+_;rw[nH,zZ];have e:(rs r fun k=>A i (c1 c r col k)*clr E r col d k x)=(E r col / d)*(rs r fun k=>A i (c k)*E k x)+(-(E r x / d))*rs r fun k=>A i (c k)*E k col:=by
  rw[<- dW,<- dW,<- dC];exact aP fun k hk=>by rw[jA c hk,lK E (by lia)];grind
 rw[e];generalize (rs r fun k=>A i (c k)*E k x)=s1 at q ⊢;generalize (rs r fun k=>A i (c k)*E k col)=s2 at q2 ⊢
 by_cases h1:i < r
 ·rw[if_pos h1] at q q2;rw[if_pos (by lia)];have:s1=d*A i x:=by grind
  have:s2=d*A i col:=by grind
  subst s1 s2;grind
 ·rw[if_neg h1] at q q2;have a1:s1=d*A i x - E i x:=by grind
  have a2:s2=d*A i col - E i col:=by grind
  subst a1 a2
  by_cases h2:i=r
  ·subst h2;rw[if_pos (by lia)];grind
  ·rw[if_neg (by lia),lK E h2];grind
theorem Bar.j6 (h:Bar m A E r col d c)(hr:r < m):∀Φ,Lin Φ->(∀s,s < r+1->Φ (A s)=0)->∀k,k < r+1->Φ (clr E r col d k)=0:=fun Φ hΦ hs k hk=>by
 have hd:=h.dne;have z:=h.i6 Φ hΦ fun s hs'=>hs s (by lia);have zr:Φ (E r)=0:=by
  have e:E r=fun x=>(fun x=>d*A r x) x+(-1)*(fun x=>rs r fun k=>A r (c k)*E k x) x:=by
   funext x
   have:=h.i4 r x hr;rw[if_neg (by lia)] at this;show E r x=d*A r x+(-1)*(rs r fun k=>A r (c k)*E k x)
   grind
  rw[e,hΦ,hΦ.mul,hΦ.sum,hs r (by lia)];have:(rs r fun k=>A r (c k)*Φ (E k))=rs r fun _=>0:=aP fun k hk=>by rw[z k hk];grind
  rw[this,dP];grind
 by_cases kr:k=r
 ·rw[kr,zZ];exact zr
 ·have e:clr E r col d k=fun x=>(fun x=>(E r col / d)*E k x) x+(-(E k col / d))*E r x:=by
   funext x
   rw[lK E kr];show _=(E r col / d)*E k x+(-(E k col / d))*E r x;grind
  rw[e,hΦ,hΦ.mul,z k (by lia),zr];grind
theorem Bar.j5 (h:Bar m A E r col d c)(hr:r < m):det (r+1) (fun i j=>A i (c1 c r col j))=E r col:=by
 have hd:=h.dne;have e1:det (r+1) (fun i j=>A i (c1 c r col j))=F r A (c1 c r col) (A r):=by
  unfold F;exact cS fun i j hi _=>by
   unfold zY
   by_cases e:i=r
   ·rw[if_pos e,e]
   ·rw[if_neg e]
 have hΦ:=Ie r A (c1 c r col);have z:=h.i6 _ hΦ fun s hs=>Ht r A (c1 c r col) hs;have eA:A r=fun x=>(fun x=>(1 / d)*E r x) x+(1 / d)*(fun x=>rs r fun k=>A r (c k)*E k x) x:=by
  funext x
  have:=h.i4 r x hr;rw[if_neg (by lia)] at this;show A r x=(1 / d)*E r x+(1 / d)*(rs r fun k=>A r (c k)*E k x)
  grind
 have zs:(rs r fun k=>A r (c k)*F r A (c1 c r col) (E k))=0:=by
  have:(rs r fun k=>A r (c k)*F r A (c1 c r col) (E k))=rs r fun _=>0:=aP fun k hk=>by rw[z k hk];grind
  rw[this,dP]
 have fb:=Aj r A (c1 c r col) (E r) fun j hj=>by rw[jA c hj];exact h.i3 r _ (Nat.le_refl _) hr (h.clt j hj)
 have dd:(det r fun i j=>A i (c1 c r col j))=d:=by rw[<- h.i5];exact cS fun i j _ hj=>by show A i (c1 c r col j)=_;rw[jA c hj]
 rw[nH,dd] at fb;rw[e1,eA,hΦ,hΦ.mul,hΦ.sum,zs,fb];grind
theorem Bar.wV (h:Bar m A E r col d c)(hr:r < m)(he:E r col≠0):∀i x,i < m->Wh (clr E r col d i x):=by
 have j2:=h.j2 hr;have j4:=h.j4 hr;have j5:=h.j5 hr;have j6:=h.j6 hr;have cin:∀i j,i < r+1->j < r+1->c1 c r col i=c1 c r col j->i=j:=fun i j hi hj e=>by
  by_cases a:i=r
  ·by_cases b:j=r
   ·lia
   ·rw[a,nH,jA c (by lia)] at e;have:=h.clt j (by lia);lia
  ·by_cases b:j=r
   ·rw[b,nH,jA c (by lia)] at e;have:=h.clt i (by lia);lia
   ·rw[jA c (by lia),jA c (by lia)] at e;exact h.cinj i j (by lia) (by lia) e
 have top:∀k x,k < r+1->Wh (clr E r col d k x):=fun k x hk=>by
  by_cases hx:∃j,j < r+1/\x=c1 c r col j
  ·obtain⟨j,hj,rfl⟩:=hx;rw[j2 k j hk hj];split
   ·exact h.wE r col hr
   ·exact Wh.nil
  ·let c2:Nat->Nat:=fun j=>if j=r+1 then x else c1 c r col j
   let u:Nat->Rat:=fun j=>if j=c1 c r col k then 1 else 0
   have hΦ:=Ie (r+1) A c2;have z:=j6 _ hΦ (fun s hs=>Ht (r+1) A c2 hs) k hk;have eu:u=fun y=>(fun y=>u y+(-(1 / E r col))*clr E r col d k y) y+(1 / E r col)*clr E r col d k y:=by
    funext y
    show u y=u y+(-(1 / E r col))*clr E r col d k y+(1 / E r col)*clr E r col d k y;grind
   have fb:=Aj (r+1) A c2 (fun y=>u y+(-(1 / E r col))*clr E r col d k y) fun j hj=>by
    have ec:c2 j=c1 c r col j:=by show (if j=r+1 then x else c1 c r col j)=_;rw[if_neg (by lia)]
    rw[ec];show u (c1 c r col j)+(-(1 / E r col))*clr E r col d k (c1 c r col j)=0;rw[j2 k j hk hj];show (if c1 c r col j=c1 c r col k then (1:Rat) else 0)+_=0
    by_cases e:j=k
    ·rw[if_pos e,if_pos (by rw[e])];grind
    ·rw[if_neg e,if_neg (fun q=>e (cin j k hj hk q))];grind
   have dd:(det (r+1) fun i j=>A i (c2 j))=E r col:=by
    rw[<- j5];exact cS fun i j _ hj=>by show A i (if j=r+1 then x else c1 c r col j)=_;rw[if_neg (by lia)]
   have ux:u x=0:=by show (if x=c1 c r col k then (1:Rat) else 0)=0;rw[if_neg (fun q=>hx ⟨k,hk,q⟩)]
   have cx:c2 (r+1)=x:=by show (if r+1=r+1 then x else _)=x;rw[if_pos rfl]
   rw[dd,cx] at fb;have val:F (r+1) A c2 u=- clr E r col d k x:=by
    rw[eu,hΦ,z,fb];show (u x+(-(1 / E r col))*clr E r col d k x)*E r col+_=_;rw[ux];grind
   have wh:Wh (F (r+1) A c2 u):=Vg h.wA fun j=>by
    show Wh (if j=c1 c r col k then (1:Rat) else 0);split
    ·exact Wh.one
    ·exact Wh.nil
   rw[val] at wh;have:=wh.neg
   rwa [show - - clr E r col d k x=clr E r col d k x by grind] at this
 intro i x hi
 by_cases h1:i < r+1
 ·exact top i x h1
 ·have q:=j4 i x hi;rw[if_neg h1] at q;have e:clr E r col d i x=E r col*A i x - rs (r+1) fun k=>A i (c1 c r col k)*clr E r col d k x:=by grind
  rw[e];exact Wh.sub (Wh.mul (h.wE r col hr) (h.wA i x)) (Cv fun k hk=>Wh.mul (h.wA _ _) (top k x hk))
theorem Bar.clear (h:Bar m A E r col d c)(hr:r < m)(he:E r col≠0):Bar m A (clr E r col d) (r+1) (col+1) (E r col) (c1 c r col) where
 dne:=he
 rm:=hr
 rc:=by have:=h.rc;lia
 clt:=fun j hj=>by
  by_cases e:j=r
  ·rw[e,nH];lia
  ·rw[jA c (by lia)];have:=h.clt j (by lia);lia
 cinj:=fun i j hi hj e=>by
  by_cases a:i=r
  ·by_cases b:j=r
   ·lia
   ·rw[a,nH,jA c (by lia)] at e;have:=h.clt j (by lia);lia
  ·by_cases b:j=r
   ·rw[b,nH,jA c (by lia)] at e;have:=h.clt i (by lia);lia
   ·rw[jA c (by lia),jA c (by lia)] at e;exact h.cinj i j (by lia) (by lia) e
 wA:=h.wA
 wE:=fun i j hi=>h.wV hr he i j hi
 i2:=h.j2 hr
 i3:=fun i x hi hm hx=>by
  rw[lK E (by lia)]
  by_cases e:x=col
  ·rw[e];grind
  ·rw[h.i3 i x (by lia) hm (by lia),h.i3 r x (Nat.le_refl _) hr (by lia)];grind
 i4:=h.j4 hr
 i5:=h.j5 hr
 i6:=h.j6 hr
 full:=fun e j hj=>by
  by_cases a:j=r
  ·rw[a,nH];lia
  ·rw[jA c (by lia)];exact h.full (by lia) j (by lia)
end
def ent (R:List (List Int))(i x:Nat):Int:=(R.getD i []).getD x 0
def at2 (R:List (List Int)):Mat:=fun i x=>((ent R i x:Int):Rat)
theorem Bar.congr (h:Bar m A E r col d c)(e:∀i,i < m->E i=E' i):Bar m A E' r col d c:=
 { h with
  wE:=fun i j hi=>by rw[<- e i hi];exact h.wE i j hi
  i2:=fun k j hk hj=>by rw[<- e k (by have:=h.rm;lia)];exact h.i2 k j hk hj
  i3:=fun i x hi hm hx=>by rw[<- e i hm];exact h.i3 i x hi hm hx
  i4:=fun i x hm=>by
   rw[h.i4 i x hm];congr 1
   ·exact aP fun k hk=>by rw[e k (by have:=h.rm;lia)]
   ·rw[e i hm]
  i6:=fun Φ hΦ hs k hk=>by rw[<- e k (by have:=h.rm;lia)];exact h.i6 Φ hΦ hs k hk }
theorem Mt (n:Nat):∀(t p r:Nat) (A:Mat),p=r+t+1->p < n->det n (fun i=>A (sw p r i))=- det n A
 |0,p,r,A,h,hp=>by
  subst h;rw[<- lG n r A (by lia)];exact cS fun i j _ _=>by
   show A (sw (r+0+1) r i) j=cL r A i j;unfold sw cL
   by_cases h1:i=r
   ·rw[if_pos h1,if_pos h1]
   ·rw[if_neg h1,if_neg h1]
    by_cases h2:i=r+1
    ·rw[if_pos (by lia),if_pos h2]
    ·rw[if_neg (by lia),if_neg h2]
 |t+1,p,r,A,h,hp=>by
  have ih:=Mt n t (r+t+1) r (cL (r+t+1) A) rfl (by lia);have s1:=lG n (r+t+1) A (by lia);have s2:=lG n (r+t+1) (fun i=>cL (r+t+1) A (sw (r+t+1) r i)) (by lia);have e:det n (fun i=>A (sw p r i))=det n (cL (r+t+1) (fun i=>cL (r+t+1) A (sw (r+t+1) r i))):=cS fun i j _ _=>by
   subst h;show A (sw (r+(t+1)+1) r i) j=cL (r+t+1) (fun i=>cL (r+t+1) A (sw (r+t+1) r i)) i j
   by_cases h1:i=r
   ·have a1:sw (r+(t+1)+1) r i=r+t+1+1:=by unfold sw;rw[if_pos h1];lia
    have a2:sw (r+t+1) r i=r+t+1:=by unfold sw;rw[if_pos h1]
    rw[a1];unfold cL;rw[if_neg (by lia),if_neg (by lia)];dsimp only;rw[a2,if_pos rfl]
   ·by_cases h2:i=r+t+1+1
    ·have a1:sw (r+(t+1)+1) r i=r:=by unfold sw;rw[if_neg h1,if_pos (by lia)]
     have a2:sw (r+t+1) r (r+t+1)=r:=by unfold sw;rw[if_neg (by lia),if_pos rfl]
     rw[a1];unfold cL;rw[if_neg (by lia),if_pos h2];dsimp only;rw[a2,if_neg (by lia),if_neg (by lia)]
    ·have a1:sw (r+(t+1)+1) r i=i:=by unfold sw;rw[if_neg h1,if_neg (by lia)]
     rw[a1]
     by_cases h3:i=r+t+1
     ·have a2:sw (r+t+1) r (r+t+1+1)=r+t+1+1:=by unfold sw;rw[if_neg (by lia),if_neg (by lia)]
      unfold cL;rw[if_pos h3];dsimp only;rw[a2,if_neg (by lia),if_pos rfl,h3]
     ·have a2:sw (r+t+1) r i=i:=by unfold sw;rw[if_neg h1,if_neg h3]
      unfold cL;rw[if_neg h3,if_neg h2];dsimp only;rw[a2,if_neg h3,if_neg h2]
  rw[e,s2,ih,s1];grind
def fQ (R:List (List Int))(p r:Nat):List (List Int):=(R.set p (R.getD r [])).set r (R.getD p [])
theorem qa8 (R:List (List Int))(p r:Nat):(fQ R p r).length=R.length:=by unfold fQ;simp
theorem An (hp:p < R.length)(hr:r < R.length)(i:Nat):(fQ R p r).getD i []=R.getD (sw p r i) []:=by
 unfold fQ sw;rw[getD_eq_getElem?_getD]
 by_cases h1:i=r
 ·rw[if_pos h1,h1,getElem?_set_self (by simpa using hr)];rfl
 ·rw[if_neg h1,getElem?_set_ne (Ne.symm h1)]
  by_cases h2:i=p
  ·rw[if_pos h2,h2,getElem?_set_self hp];rfl
  ·rw[if_neg h2,getElem?_set_ne (Ne.symm h2),getD_eq_getElem?_getD]
def gY (upper row:List Int)(col:Nat)(dv:Int):List Int:=zipWith (fun here above=>Int.fdiv (upper.getD col 0*here - row.getD col 0*above) dv) row upper
def cN (R:List (List Int))(r col:Nat)(dv:Int):List (List Int):=R.mapIdx fun i row=>if i=r then row else gY (R.getD r []) row col dv
theorem Hy (R:List (List Int))(r col:Nat)(dv:Int):(cN R r col dv).length=R.length:=by unfold cN;simp
theorem oY (hi:i < R.length)(r col:Nat)(dv:Int):(cN R r col dv).getD i []=if i=r then R.getD i [] else gY (R.getD r []) (R.getD i []) col dv:=by
 unfold cN;rw[getD_eq_getElem?_getD,getElem?_mapIdx,getElem?_eq_getElem hi];have:R.getD i []=R[i]:=by rw[getD_eq_getElem?_getD,getElem?_eq_getElem hi];rfl
 rw[this];rfl
structure SI (m w:Nat) (A0:Mat) (R:List (List Int)) (r col:Nat) (d sg:Int):Prop where
 len:R.length=m
 wid:∀i,i < m->(R.getD i []).length=w
 bar:∃A c,Bar m A (at2 R) r col (d:Rat) c/\det m A=(sg:Rat)*det m A0
 one:sg=1\/sg=-1
theorem SI.start (h:R.length=m)(hw:∀i,i < m->(R.getD i []).length=w):SI m w (at2 R) R 0 0 1 1:=
 ⟨h,hw,⟨at2 R,id,by
  have:=Bar.start (m:=m) (A:=at2 R) fun i j=>⟨_,rfl⟩
  simpa using this,by simp⟩,.inl rfl⟩
theorem SI.skip (h:SI m w A0 R r col d sg)(hz:∀i,r<=i->i < m->ent R i col=0):SI m w A0 R r (col+1) d sg:=by
 obtain⟨A,c,B,e⟩:=h.bar;exact⟨h.len,h.wid,⟨A,c,B.skip fun i h1 h2=>by unfold at2;rw[hz i h1 h2];simp,e⟩,h.one⟩
theorem SI.swap (h:SI m w A0 R r col d sg)(hp:r < p)(hm:p < m):SI m w A0 (fQ R p r) r col d (-sg):=by
 obtain⟨A,c,B,e⟩:=h.bar;have hl:=h.len;have gd:=fun i=>An (R:=R) (p:=p) (r:=r) (by lia) (by lia) i;refine⟨(qa8 R p r).trans hl,fun i hi=>?_,⟨_,c,(B.swap (by lia) hm).congr fun i hi=>?_,?_⟩,?_⟩
 ·rw[gd i];exact h.wid _ (zM hm (by lia) hi)
 ·funext x
  show (((R.getD (sw p r i) []).getD x 0:Int):Rat)=((((fQ R p r).getD i []).getD x 0:Int):Rat)
  rw[gd i]
 ·rw[Mt m (p - r - 1) p r A (by lia) hm,e,Rat.intCast_neg];grind
 ·rcases h.one with z | z
  ·right;lia
  ·left;lia
theorem lP {l:List Int}(h:x < l.length):l[x]?=some (l.getD x 0):=by rw[getD_eq_getElem?_getD,getElem?_eq_getElem h];rfl
theorem vA {l:List Int}(h:l.length<=x):l.getD x 0=0:=by rw[getD_eq_getElem?_getD,getElem?_eq_none h];rfl
theorem Jy (h:SI m w A0 R r col d sg)(B:Bar m A (at2 R) r col (d:Rat) c)(hr:r < m)(hc:col < w)(he:ent R r col≠0)(hi:i < m)(hir:i≠r)(x:Nat):
  ∃z:Int,(gY (R.getD r []) (R.getD i []) col d).getD x 0=z/\(z:Rat)=clr (at2 R) r col (d:Rat) i x/\(x < w->ent R r col*ent R i x - ent R i col*ent R r x=d*z):=by
 have dn:d≠0:=fun z=>B.dne (by rw[z];simp);have dq:=B.dne;have heq:at2 R r col≠0:=fun z=>he (Rat.intCast_inj.mp (by unfold at2 at z;simpa using z));have wi:=h.wid i hi;have wr:=h.wid r hr
 by_cases hx:x < w
 ·obtain⟨z,hz⟩:=B.wV hr heq i x hi;have e1:ent R r col*ent R i x - ent R i col*ent R r x=d*z:=by
   rw[lK _ hir] at hz;have:((ent R r col*ent R i x - ent R i col*ent R r x:Int):Rat)=((d*z:Int):Rat):=by
    rw[Rat.intCast_sub,Rat.intCast_mul,Rat.intCast_mul,Rat.intCast_mul,<- hz];show at2 R r col*at2 R i x - at2 R i col*at2 R r x=_;grind
   exact Rat.intCast_inj.mp this
  refine⟨z,?_,hz.symm,fun _=>e1⟩;unfold gY;have g1:(R.getD i [])[x]?=some ((R.getD i []).getD x 0):=lP (by lia);have g2:(R.getD r [])[x]?=some ((R.getD r []).getD x 0):=lP (by lia);rw[getD_eq_getElem?_getD (l:=zipWith _ _ _),getElem?_zipWith,g1,g2];exact gA dn e1
 ·refine⟨0,?_,?_,fun h=>absurd h hx⟩
  ·unfold gY;exact vA (by rw[length_zipWith,wi,wr];lia)
  ·rw[lK _ hir];have a1:at2 R i x=0:=by unfold at2 ent;rw[vA (by lia)];simp
   have a2:at2 R r x=0:=by unfold at2 ent;rw[vA (by lia)];simp
   rw[a1,a2];simp;grind
theorem SI.clear (h:SI m w A0 R r col d sg)(hr:r < m)(hc:col < w)(he:ent R r col≠0):SI m w A0 (cN R r col d) (r+1) (col+1) (ent R r col) sg:=by
 obtain⟨A,c,B,e⟩:=h.bar;have hl:=h.len;have heq:at2 R r col≠0:=fun z=>he (Rat.intCast_inj.mp (by unfold at2 at z;simpa using z));refine⟨(Hy R r col d).trans hl,fun i hi=>?_,⟨A,_,(B.clear hr heq).congr fun i hi=>?_,e⟩,h.one⟩
 ·rw[oY (by lia)];split
  ·exact h.wid i hi
  ·unfold gY;rw[length_zipWith,h.wid i hi,h.wid r hr,Nat.min_self]
 ·funext x
  show clr (at2 R) r col (d:Rat) i x=((((cN R r col d).getD i []).getD x 0:Int):Rat)
  rw[oY (by lia)]
  by_cases hir:i=r
  ·rw[if_pos hir,hir,zZ];rfl
  ·rw[if_neg hir];obtain⟨z,h1,h2,_⟩:=Jy h B hr hc he hi hir x;rw[h1,h2]
def BdR (n:Nat)(R:List (List Int)):Prop:=∀i x,B n (ent R i x)
theorem SI.whole (h:SI m w A0 R m m d sg):det m A0=(sg:Rat)*(d:Rat):=by
 obtain⟨A,c,B,e⟩:=h.bar;have f:=B.full rfl;have i5:=B.i5;have:det m (fun i j=>A i (c j))=det m A:=cS fun i j _ hj=>by show A i (c j)=A i j;rw[f j hj]
 rw[this,e] at i5;rcases h.one with z | z
 ·rw[z] at i5 ⊢;simp at i5 ⊢;exact i5
 ·rw[z,Rat.intCast_neg] at i5 ⊢;simp at i5 ⊢;grind
theorem SI.lame (h:SI m w A0 R r m d sg)(hr:r < m):det m A0=0:=by
 obtain⟨A,c,B,e⟩:=h.bar;obtain⟨n,rfl⟩:∃n,m=n+1:=⟨m - 1,by lia⟩
 have dq:=B.dne;have e1:det (n+1) A=F n A id (A n):=by
  unfold F;exact cS fun i j hi _=>by
   unfold zY
   by_cases z:i=n
   ·rw[if_pos z,z];rfl
   ·rw[if_neg z];rfl
 have hΦ:=Ie n A id;have z:=B.i6 _ hΦ fun s hs=>Ht n A id (by lia);have eA:A n=fun x=>(fun x=>(1 / (d:Rat))*at2 R n x) x+(1 / (d:Rat))*(fun x=>rs r fun k=>A n (c k)*at2 R k x) x:=by
  funext x
  have:=B.i4 n x (by lia);rw[if_neg (by lia)] at this;show A n x=(1 / (d:Rat))*at2 R n x+(1 / (d:Rat))*(rs r fun k=>A n (c k)*at2 R k x)
  grind
 have zs:(rs r fun k=>A n (c k)*F n A id (at2 R k))=0:=by
  have:(rs r fun k=>A n (c k)*F n A id (at2 R k))=rs r fun _=>0:=aP fun k hk=>by rw[z k hk];grind
  rw[this,dP]
 have zn:F n A id (at2 R n)=0:=by
  rw[Kg];have:(rs (n+1) fun j=>sgn (n+j)*at2 R n (id j)*det n fun i k=>A i (id (Mq.skip j k)))=rs (n+1) fun _=>0:=aP fun j hj=>by
   rw[show at2 R n (id j)=0 from B.i3 n j (by lia) (by lia) hj];grind
  rw[this,dP]
 have:det (n+1) A=0:=by
  rw[e1,eA,hΦ,hΦ.mul,hΦ.sum,zs,zn];grind
 rw[this] at e;rcases h.one with q | q
 ·rw[q] at e;simp at e;exact e.symm
 ·rw[q,Rat.intCast_neg] at e;simp at e;grind
def Lr:Nat->(Nat->Rat)->Rat
 |0,_=>1
 |n+1,b=>Lr n b*b n
theorem qE:∀(n:Nat) (b:Nat->Rat) (Q:Mat),det n (fun i j=>b i*Q i j)=Lr n b*det n Q
 |0,_,_=>by simp[det,Lr]
 |n+1,b,Q=>by
  rw[fV,fV,<- dW];refine aP fun j _=>?_;have:=qE n b (fun i k=>Q i (Mq.skip j k));show sgn (n+j)*(b n*Q n j)*det n (fun i k=>b i*Q i (Mq.skip j k))=Lr n b*b n*_;rw[this];grind
end Mq
open Mq (An BdR Lr Mat SI cN cS ent fQ gY jF lP oY qE zT)
namespace Shp
open PySem L2
inductive Imx (D:Addr) (H:Hp):List V->List (List Int)->Prop where
 |nil:Imx D H [] []
 |cons {u:Addr} {r:List Int} {us:List V} {R:List (List Int)} (ne:u≠D) (h:H u=some (.lst (r.map V.int))) (q:Imx D H us R):Imx D H (.ref u :: us) (r :: R)
theorem Imx.same (e:aZ H H'):∀{xs:List V} {R:List (List Int)},Imx D H xs R->Imx D H' xs R
 |_,_,.nil=>.nil
 |_,_,.cons n h q=>.cons n (e _ _ h) (q.same e)
theorem Imx.upd:∀{xs:List V} {R:List (List Int)},Imx D H xs R->Imx D (L2.upd H D o) xs R
 |_,_,.nil=>.nil
 |_,_,.cons n h q=>.cons n (by rw[aY n];exact h) q.upd
theorem Imx.length:∀{xs:List V} {R:List (List Int)},Imx D H xs R->xs.length=R.length
 |_,_,.nil=>rfl
 |_,_,.cons _ _ q=>by rw[length_cons,length_cons,q.length]
theorem Imx.get:∀{xs:List V} {R:List (List Int)} {i:Nat} {x:V},Imx D H xs R->xs[i]?=some x->∃u r,x=.ref u/\R[i]?=some r/\u≠D/\H u=some (.lst (r.map V.int))
 |_,_,0,_,.cons n h q,e=>by simp at e;exact⟨_,_,e.symm,rfl,n,h⟩
 |_,_,i+1,_,.cons n h q,e=>by simp at e;exact q.get e
theorem Imx.at (h:Imx D H xs R)(hi:i < R.length):∃u,xs[i]?=some (.ref u)/\u≠D/\H u=some (.lst ((R.getD i []).map V.int)):=by
 have hx:i < xs.length:=by rw[h.length];exact hi
 obtain⟨u,r,e1,e2,e3,e4⟩:=h.get (getElem?_eq_getElem hx);refine⟨u,by rw[getElem?_eq_getElem hx,e1],e3,?_⟩;rw[getD_eq_getElem?_getD,e2];exact e4
theorem Imx.app:∀{xs ys:List V} {R S:List (List Int)},Imx D H xs R->Imx D H ys S->Imx D H (xs++ys) (R++S)
 |_,_,_,_,.nil,k=>k
 |_,_,_,_,.cons n h q,k=>.cons n h (q.app k)
theorem Imx.set (hn:u≠D)(hu:H u=some (.lst (r.map V.int))):∀{xs:List V} {R:List (List Int)} (i:Nat),Imx D H xs R->Imx D H (xs.set i (.ref u)) (R.set i r)
 |_,_,_,.nil=>by simp;exact .nil
 |_,_,0,.cons n h q=>.cons hn hu q
 |_,_,i+1,.cons n h q=>.cons n h (q.set hn hu i)
theorem Imx.other (hD:H D'=none):∀{xs:List V} {R:List (List Int)},Imx D H xs R->Imx D' H xs R
 |_,_,.nil=>.nil
 |_,_,.cons n h q=>.cons (fun z=>by rw[z,hD] at h;cases h) h (q.other hD)
theorem kB {l:List Int}(h:i < l.length):(l.map V.int)[i]?=some (.int (l.getD i 0)):=by
 rw[getElem?_map,lP h];rfl
inductive Jx (K:Frag) (vs:List V) (H:Hp) (Q:VK) (E:XK):Prop where
 |mk (a:Addr) (xs:List V) (ps:List Q2) (n:Nat):vs=[.ref a]->SqL K H a xs->Fqs K H xs ps->Mq.Pos ps->(∀p∈ps,Bd n p)->ps.length<=100->10+n+n*ps.length<=8000->(∀t l H',aZ H H'->H l=none->SqT K H' t [.ref l,.int (eQ ps)]->H' l=some (.lst ((iw ps).map V.int))->Q (.ref t) H')->Jx K vs H Q E
inductive Mn (K:Frag) (vs:List V) (H:Hp) (Q:VK) (E:XK):Prop where
 |mk (l D:Addr) (zs:List V) (R:List (List Int)) (r c m w:Nat):vs=[.ref l,.int (r:Int),.int (c:Int)]->SqL K H l zs->Imx D H zs R->R.length=m->(∀i,i < m->(R.getD i []).length=w)->c < w->r<=m->m<=100->(∀p,r<=p->p < m->ent R p c≠0->Q (.int (p:Int)) H)->((∀i,r<=i->i < m->ent R i c=0)->Q .non H)->Mn K vs H Q E
inductive rE (K:Frag) (vs:List V) (H:Hp) (Q:VK) (E:XK):Prop where
 |mk (u v:Addr) (row upper:List Int) (c n:Nat) (dv:Int):vs=[.ref u,.ref v,.int (c:Int),.int dv]->SqL K H u (row.map V.int)->SqL K H v (upper.map V.int)->row.length=upper.length->row.length<=100->c < row.length->dv≠0->(∀i,Mq.B n (row.getD i 0))->(∀i,Mq.B n (upper.getD i 0))->Mq.B n dv->n<=9000->(∀l H',aZ H H'->H l=none->H' l=some (.lst ((gY upper row c dv).map V.int))->Q (.ref l) H')->rE K vs H Q E
inductive qC (K:Frag) (vs:List V) (H:Hp) (Q:VK) (E:XK):Prop where
 |mk (l D:Addr) (zs:List V) (R:List (List Int)) (r c m w n:Nat) (dv:Int):vs=[.ref l,.int (r:Int),.int (c:Int),.int dv]->SqL K H l zs->Imx D H zs R->R.length=m->(∀i,i < m->(R.getD i []).length=w)->c < w->w<=100->r < m->m<=100->dv≠0->BdR n R->Mq.B n dv->n<=9000->(∀l' zs' H',aZ H H'->H l'=none->H' l'=some (.lst zs')->Imx l' H' zs' (cN R r c dv)->Q (.ref l') H')->qC K vs H Q E
def Rt (l:Addr)(rank:Nat)(pivot sign:Int):HO:=.dK (jM [] [(.inr "rows",.ref l),(.inr "rank",.int (rank:Int)),(.inr "pivot",.int pivot),(.inr "sign",.int sign)])
def wgt (X:List (List Q2)):Rat:=Mq.det X.length fun i j=>Mq.val ((X.getD i []).getD j Mq.z0)
theorem uW (h:H d=some (Rt l rank pivot sign)):jP H d (.str "rows") (some (.ref l))/\jP H d (.str "rank") (some (.int (rank:Int)))/\jP H d (.str "pivot") (some (.int pivot))/\jP H d (.str "sign") (some (.int sign)):=by
 refine⟨?_,?_,?_,?_⟩
 ·exact jP.k (k:=(Sum.inr "rows":Key)) h
 ·exact jP.k (k:=(Sum.inr "rank":Key)) h
 ·exact jP.k (k:=(Sum.inr "pivot":Key)) h
 ·exact jP.k (k:=(Sum.inr "sign":Key)) h
def rO (X:List (List Q2)):Int:=X.foldl (fun b row=>b*eQ row) 1
theorem xN {X:List (List Q2)}(h:X[i]?=some row):rO (X.take (i+1))=rO (X.take i)*eQ row:=by
 unfold rO;rw[take_add_one,h,foldl_append];rfl
theorem qA (X:List (List Q2)):∀i,i<=X.length->((rO (X.take i):Int):Rat)=Lr i fun k=>((eQ (X.getD k []):Int):Rat)
 |0,_=>by simp[rO,Lr]
 |i+1,h=>by
  have e:X[i]?=some (X.getD i []):=by rw[getD_eq_getElem?_getD,getElem?_eq_getElem (by lia)];rfl
  rw[xN e,Rat.intCast_mul,qA X i (by lia)];rfl
theorem yH (hX:fZ X):∀i,i<=X.length->1<=rO (X.take i)
 |0,_=>by show (1:Int)<=1;lia
 |i+1,h=>by
  have e:X[i]?=some (X.getD i []):=by rw[getD_eq_getElem?_getD,getElem?_eq_getElem (by lia)];rfl
  rw[xN e];have h1:=yH hX i (by lia);have h2:=tL (hX _ (mem_of_getElem? e));have:=Int.mul_pos (show 0 < rO (X.take i) by lia) (show 0 < eQ (X.getD i []) by lia);lia
theorem Ra (hp:Mq.Pos row)(hj:j < row.length):(((iw row).getD j 0:Int):Rat)=((eQ row:Int):Rat)*Mq.val (row.getD j Mq.z0):=by
 have ej:row[j]?=some (row.getD j Mq.z0):=by rw[getD_eq_getElem?_getD,getElem?_eq_getElem hj];rfl
 have mem:row.getD j Mq.z0∈row:=mem_of_getElem? ej;obtain⟨k,hk⟩:=Da hp _ mem;have e2:(iw row).getD j 0=Cq (eQ row) (row.getD j Mq.z0):=by
  unfold iw;rw[getD_eq_getElem?_getD,getElem?_map,ej];rfl
 rw[e2,Mq.Rm (hp _ mem) hk];grind
theorem vH (row:List Q2):(iw row).length=row.length:=by unfold iw;simp
end Shp
namespace Mq
theorem lL (m a:Nat)(v:Rat)(h:a < m):(rs m fun i=>if i=a then v else 0)=v:=by
 induction m with
 |zero=>lia
 |succ m ih=>
  simp only[rs]
  by_cases e:m=a
  ·subst e;rw[if_pos rfl];have:(rs m fun i=>if i=m then v else 0)=rs m fun _=>0:=aP fun i hi=>by rw[if_neg (by lia)]
   rw[this,dP];grind
  ·rw[if_neg e,ih (by lia)];grind
theorem qj7 (m p r:Nat)(hp:p < m)(hr:r < m)(F:Nat->Rat):(rs m fun i=>F (sw p r i))=rs m F:=by
 by_cases e:p=r
 ·subst e;exact aP fun i _=>by
   congr 1;unfold sw
   by_cases h:i=p
   ·rw[if_pos h,h]
   ·rw[if_neg h,if_neg h]
 have:(rs m fun i=>F (sw p r i))=rs m fun i=>F i+((if i=r then F p - F r else 0)+(if i=p then F r - F p else 0)):=aP fun i _=>by
  unfold sw
  by_cases h1:i=r
  ·rw[if_pos h1,if_pos h1,if_neg (by lia),h1];grind
  ·rw[if_neg h1,if_neg h1]
   by_cases h2:i=p
   ·rw[if_pos h2,if_pos h2,h2];grind
   ·rw[if_neg h2,if_neg h2];grind
 rw[this,dC,dC,lL m r _ hr,lL m p _ hp];grind
structure LI (m:Nat) (Aq:Mat) (R:List (List Int)):Prop where
 lin:∀i x,i < m->x < m->at2 R i x=rs m fun k=>at2 R i (m+k)*Aq k x
 ind:∀lam:Nat->Rat,(∀j,j < m->(rs m fun i=>lam i*at2 R i (m+j))=0)->∀i,i < m->lam i=0
theorem qQ (hp:p < R.length)(hr:r < R.length)(i x:Nat):at2 (fQ R p r) i x=at2 R (sw p r i) x:=by
 show ((((fQ R p r).getD i []).getD x 0:Int):Rat)=_;rw[An hp hr];rfl
theorem LI.swap (h:LI m Aq R)(hl:R.length=m)(hp:p < m)(hr:r < m):LI m Aq (fQ R p r) where
 lin:=fun i x hi hx=>by
  rw[qQ (by lia) (by lia),h.lin _ x (zM hp hr hi) hx];exact aP fun k _=>by rw[qQ (by lia) (by lia)]
 ind:=fun lam hz i hi=>by
  have:=h.ind (fun i=>lam (sw p r i)) (fun j hj=>by
   rw[<- hz j hj,<- qj7 m p r hp hr];exact aP fun i _=>by
    show lam (sw p r (sw p r i))*_=_;rw[Pz,qQ (by lia) (by lia)]) (sw p r i) (zM hp hr hi)
  have e:lam (sw p r (sw p r i))=0:=this
  rwa [Pz] at e
theorem rW (h:SI m w A0 R r col d sg)(hr:r < m)(hc:col < w)(he:ent R r col≠0)(hi:i < m)(x:Nat):
  at2 (cN R r col d) i x=if i=r then at2 R i x else (at2 R r col*at2 R i x - at2 R i col*at2 R r x) / (d:Rat):=by
 obtain⟨A,c,B,e⟩:=h.bar;have hl:=h.len;show ((((cN R r col d).getD i []).getD x 0:Int):Rat)=_;rw[oY (by lia)]
 by_cases hir:i=r
 ·rw[if_pos hir,if_pos hir];rfl
 ·rw[if_neg hir,if_neg hir];obtain⟨z,h1,h2,_⟩:=Jy h B hr hc he hi hir x;rw[h1,h2,lK _ hir]
theorem SI.dne (h:SI m w A0 R r col d sg):(d:Rat)≠0:=by
 obtain⟨A,c,B,e⟩:=h.bar;exact B.dne
theorem LI.clear (h:LI m Aq R)(s:SI m w A0 R r col d sg)(hr:r < m)(hc:col < w)(he:ent R r col≠0):LI m Aq (cN R r col d):=by
 have dn:=s.dne;have hn:at2 R r col≠0:=fun z=>he (Rat.intCast_inj.mp (by unfold at2 at z;simpa using z));have cl:=fun (i:Nat) (hi:i < m) (x:Nat)=>rW s hr hc he hi x;refine⟨fun i x hi hx=>?_,fun lam hz i hi=>?_⟩
 ·rw[cl i hi x]
  by_cases e:i=r
  ·rw[if_pos e,h.lin i x hi hx];exact aP fun k _=>by rw[cl i hi,if_pos e]
  ·rw[if_neg e,h.lin i x hi hx,h.lin r x hr hx];have:(rs m fun k=>at2 (cN R r col d) i (m+k)*Aq k x)=rs m fun k=>(at2 R r col / (d:Rat))*(at2 R i (m+k)*Aq k x)+(-(at2 R i col / (d:Rat)))*(at2 R r (m+k)*Aq k x):=aP fun k _=>by rw[cl i hi,if_neg e];grind
   rw[this,dC,dW,dW];grind
 ·-- the factors of the rows as they were
  have key:=h.ind (fun i=>if i=r then lam r - (rs m fun k=>if k=r then 0 else lam k*(at2 R k col / (d:Rat))) else lam i*(at2 R r col / (d:Rat))) (fun j hj=>by
   have e0:=hz j hj;have e1:(rs m fun i=>lam i*at2 (cN R r col d) i (m+j))=rs m fun i=>(if i=r then lam r*at2 R r (m+j) else 0)+((if i=r then 0 else lam i*(at2 R r col / (d:Rat))*at2 R i (m+j))+(-(at2 R r (m+j)))*(if i=r then 0 else lam i*(at2 R i col / (d:Rat)))):=aP fun i hi=>by
    rw[cl i hi]
    by_cases e:i=r
    ·rw[if_pos e,if_pos e,if_pos e,if_pos e,e];grind
    ·rw[if_neg e,if_neg e,if_neg e,if_neg e];grind
   rw[e1,dC,dC,dW,lL m r _ hr] at e0;have e2:(rs m fun i=>(if i=r then lam r - (rs m fun k=>if k=r then 0 else lam k*(at2 R k col / (d:Rat))) else lam i*(at2 R r col / (d:Rat)))*at2 R i (m+j))=rs m fun i=>(if i=r then (lam r - (rs m fun k=>if k=r then 0 else lam k*(at2 R k col / (d:Rat))))*at2 R r (m+j) else 0)+(if i=r then 0 else lam i*(at2 R r col / (d:Rat))*at2 R i (m+j)):=aP fun i _=>by
    by_cases e:i=r
    ·rw[if_pos e,if_pos e,if_pos e,e];grind
    ·rw[if_neg e,if_neg e,if_neg e];grind
   rw[e2,dC,lL m r _ hr];grind)
  have other:∀k,k < m->k≠r->lam k=0:=fun k hk e=>by
   have:=key k hk;rw[if_neg e] at this;have n2:at2 R r col / (d:Rat)≠0:=fun z=>hn (by grind);grind
  by_cases e:i=r
  ·have:=key r hr;rw[if_pos rfl] at this;have z:(rs m fun k=>if k=r then 0 else lam k*(at2 R k col / (d:Rat)))=rs m fun _=>0:=aP fun k hk=>by
    by_cases e:k=r
    ·rw[if_pos e]
    ·rw[if_neg e,other k hk e];grind
   rw[z,dP] at this;rw[e];grind
  ·exact other i hi e
theorem LI.lame (h:LI m Aq R)(s:SI m w A0 R r m d sg)(hr:r < m):(∃k,k < m/\ent R (m - 1) (m+k)≠0)/\∀x,x < m->(rs m fun k=>at2 R (m - 1) (m+k)*Aq k x)=0:=by
 obtain⟨A,c,B,e⟩:=s.bar;refine⟨Classical.byContradiction fun n=>?_,fun x hx=>?_⟩
 ·have all:∀k,k < m->ent R (m - 1) (m+k)=0:=fun k hk=>Classical.byContradiction fun z=>n ⟨k,hk,z⟩;have:=h.ind (fun i=>if i=m - 1 then 1 else 0) (fun j hj=>by
   have:(rs m fun i=>(if i=m - 1 then (1:Rat) else 0)*at2 R i (m+j))=rs m fun _=>0:=aP fun i _=>by
    by_cases e:i=m - 1
    ·rw[if_pos e,e];have:at2 R (m - 1) (m+j)=0:=by unfold at2;rw[all j hj];simp
     rw[this];grind
    ·rw[if_neg e];grind
   rw[this,dP]) (m - 1) (by lia)
  rw[if_pos rfl] at this;grind
 ·rw[<- h.lin (m - 1) x (by lia) hx];exact B.i3 (m - 1) x (by lia) (by lia) hx
end Mq
namespace Shp
open PySem L2
inductive Fmd (K:Frag) (H0:Hp) (D:Addr) (H:Hp):List V->List (List Q2)->Prop where
 |nil:Fmd K H0 D H [] []
 |cons {u:Addr} {xs:List V} {ps:List Q2} {us:List V} {X:List (List Q2)} (n0:H0 u=none) (ne:u≠D) (h:H u=some (.lst xs)) (f:Fqs K H xs ps) (q:Fmd K H0 D H us X):Fmd K H0 D H (.ref u :: us) (ps :: X)
theorem Fmd.same (e:aZ H H'):∀{xs:List V} {X:List (List Q2)},Fmd K H0 D H xs X->Fmd K H0 D H' xs X
 |_,_,.nil=>.nil
 |_,_,.cons n0 n h f q=>.cons n0 n (e _ _ h) (f.same e) (q.same e)
theorem Fmd.length:∀{xs:List V} {X:List (List Q2)},Fmd K H0 D H xs X->xs.length=X.length
 |_,_,.nil=>rfl
 |_,_,.cons _ _ _ _ q=>by rw[length_cons,length_cons,q.length]
def qK (X:List (List Q2)):Mat:=fun i j=>Mq.val ((X.getD i []).getD j Mq.z0)
def mP (m i:Nat)(row:List Q2):List Int:=iw row++(List.range m).map fun c=>if c=i then eQ row else 0
def jS (X:List (List Q2)):List (List Int):=X.mapIdx fun i row=>mP X.length i row
theorem Qm (X:List (List Q2)):(jS X).length=X.length:=by unfold jS;simp
theorem vP (h:i < X.length):(jS X).getD i []=mP X.length i (X.getD i []):=by
 unfold jS;rw[getD_eq_getElem?_getD,getElem?_mapIdx,getD_eq_getElem?_getD,getElem?_eq_getElem h];rfl
theorem wJ {X:List (List Q2)}(h:i < X.length):X[i]?=some (X.getD i []):=by rw[getD_eq_getElem?_getD,getElem?_eq_getElem h];rfl
theorem Co (m i:Nat)(row:List Q2):(mP m i row).length=row.length+m:=by unfold mP;simp[vH]
theorem yE (hX:fZ X)(hw:∀row∈X,row.length=X.length)(hi:i < X.length)(hx:x < X.length):Mq.at2 (jS X) i x=((eQ (X.getD i []):Int):Rat)*qK X i x:=by
 have mem:=mem_of_getElem? (wJ hi);show ((((jS X).getD i []).getD x 0:Int):Rat)=_;rw[vP hi];unfold mP;have l:=hw _ mem;rw[getD_eq_getElem?_getD,getElem?_append_left (by rw[vH];lia),<- getD_eq_getElem?_getD];exact Ra (hX _ mem) (by lia)
theorem uS (hw:∀row∈X,row.length=X.length)(hi:i < X.length)(hk:k < X.length):ent (jS X) i (X.length+k)=if k=i then eQ (X.getD i []) else 0:=by
 have mem:=mem_of_getElem? (wJ hi);unfold ent;rw[vP hi];unfold mP;have l:=hw _ mem;rw[getD_eq_getElem?_getD,getElem?_append_right (by rw[vH];lia),vH,l,Nat.add_sub_cancel_left,getElem?_map,getElem?_range hk];rfl
theorem Vw (hX:fZ X)(hw:∀row∈X,row.length=X.length):Mq.LI X.length (qK X) (jS X) where
 lin:=fun i x hi hx=>by
  rw[yE hX hw hi hx];have:(Mq.rs X.length fun k=>Mq.at2 (jS X) i (X.length+k)*qK X k x)=Mq.rs X.length fun k=>if k=i then ((eQ (X.getD i []):Int):Rat)*qK X i x else 0:=aP fun k hk=>by
   show ((ent (jS X) i (X.length+k):Int):Rat)*_=_;rw[uS hw hi hk]
   by_cases e:k=i
   ·rw[if_pos e,if_pos e,e]
   ·rw[if_neg e,if_neg e];simp
  rw[this,Mq.lL _ _ _ hi]
 ind:=fun lam hz i hi=>by
  have e:=hz i hi;have:(Mq.rs X.length fun j=>lam j*Mq.at2 (jS X) j (X.length+i))=Mq.rs X.length fun j=>if j=i then lam i*((eQ (X.getD i []):Int):Rat) else 0:=aP fun k hk=>by
   show _*((ent (jS X) k (X.length+i):Int):Rat)=_;rw[uS hw hk hi]
   by_cases e:k=i
   ·rw[if_pos e,if_pos e.symm,e]
   ·rw[if_neg e,if_neg (Ne.symm e)];simp
  rw[this,Mq.lL _ _ _ hi] at e;have g:=tL (hX _ (mem_of_getElem? (wJ hi)));have n:=dZ (show eQ (X.getD i [])≠0 by lia);grind
theorem Tz (h:∀i j,i < X.length->j < X.length->Mq.at2 R i j=((eQ (X.getD i []):Int):Rat)*qK X i j):Mq.det X.length (Mq.at2 R)=((rO X:Int):Rat)*wgt X:=by
 unfold wgt;have hb:=qA X X.length (Nat.le_refl _);rw[take_length] at hb;rw[hb,<- qE];exact cS fun i j hi hj=>h i j hi hj
theorem Qk (hX:fZ X)(hR:Mq.det X.length (Mq.at2 R)=((rO X:Int):Rat)*wgt X)(h:SI X.length w (Mq.at2 R) R' r X.length d sg):(r < X.length/\wgt X=0)\/(r=X.length/\wgt X≠0):=by
 have b1:=yH hX X.length (Nat.le_refl _);rw[take_length] at b1;have bn:=dZ (show rO X≠0 by lia);obtain⟨A,c,B,e⟩:=h.bar;have rm:=B.rm;have dn:=B.dne;clear B
 by_cases hr:r < X.length
 ·left
  have e:=h.lame hr;rw[hR] at e;exact⟨hr,by grind⟩
 ·right
  have er:r=X.length:=by lia
  subst er;refine⟨rfl,fun z=>?_⟩;have e:=h.whole;rw[hR,z] at e;rcases h.one with q | q
  ·rw[q] at e;simp at e;grind
  ·rw[q,Rat.intCast_neg] at e;simp at e;grind
structure Stp (m w:Nat) (A0:Mat) (Pr:List (List Int)->Prop):Prop where
 sw:∀R r col d sg p,SI m w A0 R r col d sg->r < p->p < m->Pr R->Pr (fQ R p r)
 cl:∀R r col d sg,SI m w A0 R r col d sg->r < m->col < w->ent R r col≠0->Pr R->Pr (cN R r col d)
theorem qd0:Stp m w A0 (Mq.LI m Aq):=
 ⟨fun R r col d sg p s h1 h2 h=>h.swap s.len h2 (by lia),fun R r col d sg s h1 h2 h3 h=>h.clear s h1 h2 h3⟩
end Shp
namespace L2
open PySem
theorem Rl (h:X.K=K):SlR X (Tq K):=by subst h;exact gK
end L2
namespace Mq
theorem My {row:List Q2}(h:j < row.length):row[j]?=some (row.getD j z0):=by rw[getD_eq_getElem?_getD,getElem?_eq_getElem h];rfl
end Mq
namespace Shp
open PySem L2
theorem Fmd.get:∀{xs:List V} {X:List (List Q2)} {i:Nat} {x:V},Fmd K H0 D H xs X->xs[i]?=some x->∃u ys ps,x=.ref u/\X[i]?=some ps/\H0 u=none/\u≠D/\H u=some (.lst ys)/\Fqs K H ys ps
 |_,_,0,_,.cons n0 n h f q,e=>by simp at e;exact⟨_,_,_,e.symm,rfl,n0,n,h,f⟩
 |_,_,i+1,_,.cons n0 n h f q,e=>by simp at e;exact q.get e
end Shp
namespace Mq
def KI (m:Nat)(A0:Mat)(R:List (List Int)):Prop:=∀Φ,Lin Φ->(∀k,k < m->Φ (at2 R k)=0)->∀i,i < m->Φ (A0 i)=0
theorem KI.swap (h:KI m A0 R)(hl:R.length=m)(hp:p < m)(hr:r < m):KI m A0 (fQ R p r):=fun Φ lin hz=>by
 refine h Φ lin fun k hk=>?_;have e:at2 R k=at2 (fQ R p r) (sw p r k):=by
  funext x
  rw[qQ (by lia) (by lia),Pz]
 rw[e];exact hz _ (zM hp hr hk)
theorem KI.clear (h:KI m A1 R)(s:SI m w A0 R r col d sg)(hr:r < m)(hc:col < w)(he:ent R r col≠0):KI m A1 (cN R r col d):=fun Φ lin hz=>by
 have dn:=s.dne;have hn:at2 R r col≠0:=fun z=>he (Rat.intCast_inj.mp (by unfold at2 at z;simpa using z));have cl:=fun (i:Nat) (hi:i < m) (x:Nat)=>rW s hr hc he hi x;have zr:Φ (at2 R r)=0:=by
  have e:at2 R r=at2 (cN R r col d) r:=by funext x;rw[cl r hr x,if_pos rfl]
  rw[e];exact hz r hr
 refine h Φ lin fun k hk=>?_
 by_cases e:k=r
 ·rw[e];exact zr
 ·have e2:at2 R k=fun x=>(fun x=>((d:Rat) / at2 R r col)*at2 (cN R r col d) k x) x+(at2 R k col / at2 R r col)*at2 R r x:=by
   funext x
   show _=((d:Rat) / at2 R r col)*at2 (cN R r col d) k x+_;rw[cl k hk x,if_neg e];grind
  rw[e2,lin,lin.mul,hz k hk,zr];grind
theorem KI.whole (h:KI m A1 R)(s:SI m w A0 R m m d sg)(hi:i < m):(rs m fun k=>A1 i k*(at2 R k m / (d:Rat)))=A1 i m:=by
 obtain⟨A,c,B,e⟩:=s.bar;have dn:=B.dne;have:=h (fun f=>(rs m fun k=>f k*(at2 R k m / (d:Rat))) - f m) (fun x y l=>by
  have:(rs m fun k=>(x k+l*y k)*(at2 R k m / (d:Rat)))=(rs m fun k=>x k*(at2 R k m / (d:Rat))+l*(y k*(at2 R k m / (d:Rat)))):=aP fun k _=>by grind
  show (rs m fun k=>(x k+l*y k)*(at2 R k m / (d:Rat))) - (x m+l*y m)=((rs m fun k=>x k*(at2 R k m / (d:Rat))) - x m)+l*((rs m fun k=>y k*(at2 R k m / (d:Rat))) - y m)
  rw[this,dC,dW];grind) (fun k hk=>by
  have:(rs m fun j=>at2 R k j*(at2 R j m / (d:Rat)))=rs m fun j=>if j=k then (d:Rat)*(at2 R k m / (d:Rat)) else 0:=aP fun j hj=>by
   have i2:=B.i2 k j hk hj;rw[B.full rfl j hj] at i2;rw[i2]
   by_cases z:j=k
   ·rw[if_pos z,if_pos z,z]
   ·rw[if_neg z,if_neg z];grind
  show (rs m fun j=>at2 R k j*(at2 R j m / (d:Rat))) - at2 R k m=0;rw[this,lL m k _ hk];grind) i hi
 have e2:(rs m fun k=>A1 i k*(at2 R k m / (d:Rat))) - A1 i m=0:=this;grind
end Mq
namespace Shp
open PySem L2
def kU (X:List (List Q2))(qs:List Q2):List (List Q2):=zipWith (fun row q=>row++[q]) X qs
def iL (X:List (List Q2))(qs:List Q2):List (List Int):=(kU X qs).map iw
section
variable {X:List (List Q2)} {qs:List Q2}
theorem pD (hl:qs.length=X.length):(kU X qs).length=X.length:=by unfold kU;simp[hl]
theorem Db (hl:qs.length=X.length):(iL X qs).length=X.length:=by unfold iL;rw[length_map,pD hl]
theorem pQ (hl:qs.length=X.length)(hi:i < X.length):(kU X qs).getD i []=X.getD i []++[qs.getD i Mq.z0]:=by
 unfold kU;rw[getD_eq_getElem?_getD,getElem?_zipWith,wJ hi,Mq.My (show i < qs.length by lia)];rfl
theorem uA (hl:qs.length=X.length)(hi:i < X.length):(iL X qs).getD i []=iw (X.getD i []++[qs.getD i Mq.z0]):=by
 unfold iL;rw[getD_eq_getElem?_getD,getElem?_map,wJ (X:=kU X qs) (by rw[pD hl];exact hi),pQ hl hi];rfl
theorem tH (hX:fZ X)(hq:Mq.Pos qs)(hl:qs.length=X.length)(hi:i < X.length):Mq.Pos (X.getD i []++[qs.getD i Mq.z0]):=fun p hp=>by
 rcases mem_append.mp hp with z | z
 ·exact hX _ (mem_of_getElem? (wJ hi)) p z
 ·have e:p=qs.getD i Mq.z0:=by simpa using z
  rw[e];exact Mq.Sr hq i
theorem Fo (hX:fZ X)(hq:Mq.Pos qs)(hl:qs.length=X.length):fZ (kU X qs):=fun row hr=>by
 obtain⟨i,hi,rfl⟩:=getElem_of_mem hr;have hi':i < X.length:=by rw[pD hl] at hi;exact hi
 have e:=pQ hl hi';rw[getD_eq_getElem?_getD,getElem?_eq_getElem hi] at e;have e':(kU X qs)[i]=X.getD i []++[qs.getD i Mq.z0]:=e;rw[e'];exact tH hX hq hl hi'
theorem vK (hX:fZ X)(hq:Mq.Pos qs)(hl:qs.length=X.length)(hw:∀row∈X,row.length=X.length)(hi:i < X.length)(hx:x < X.length+1):
  Mq.at2 (iL X qs) i x=((eQ ((kU X qs).getD i []):Int):Rat)*if x < X.length then qK X i x else Mq.val (qs.getD i Mq.z0):=by
 have l:=hw _ (mem_of_getElem? (wJ hi));show ((((iL X qs).getD i []).getD x 0:Int):Rat)=_;rw[uA hl hi,pQ hl hi,Ra (tH hX hq hl hi) (by rw[List.length_append,l];simpa using hx)];congr 1
 by_cases h:x < X.length
 ·rw[if_pos h,getD_eq_getElem?_getD,getElem?_append_left (by rw[l];exact h),<- getD_eq_getElem?_getD];rfl
 ·have ex:x=X.length:=by lia
  rw[if_neg h,getD_eq_getElem?_getD,getElem?_append_right (by rw[l];lia),l,ex,Nat.sub_self];rfl
theorem Ul (hX:fZ X)(hq:Mq.Pos qs)(hl:qs.length=X.length)(hw:∀row∈X,row.length=X.length):Mq.det X.length (Mq.at2 (iL X qs))=((rO (kU X qs):Int):Rat)*wgt X:=by
 unfold wgt;have hb:=qA (kU X qs) (kU X qs).length (Nat.le_refl _);rw[take_length,pD hl] at hb;rw[hb,<- qE];refine cS fun i j hi hj=>?_;rw[vK hX hq hl hw hi (by lia),if_pos hj];rfl
theorem Ks (fn:f≠0)(hR:Mq.det X.length (Mq.at2 R)=f*wgt X)(h:SI X.length w (Mq.at2 R) R' r X.length d sg):(r < X.length/\wgt X=0)\/(r=X.length/\wgt X≠0):=by
 obtain⟨A,c,B,e⟩:=h.bar;have rm:=B.rm;have dn:=B.dne;clear B
 by_cases hr:r < X.length
 ·left
  have e:=h.lame hr;rw[hR] at e;exact⟨hr,by grind⟩
 ·right
  have er:r=X.length:=by lia
  subst er;refine⟨rfl,fun z=>?_⟩;have e:=h.whole;rw[hR,z] at e;rcases h.one with q | q
  ·rw[q] at e;simp at e;grind
  ·rw[q,Rat.intCast_neg] at e;simp at e;grind
theorem Qe (hX:fZ X)(hq:Mq.Pos qs)(hl:qs.length=X.length)(hw:∀row∈X,row.length=X.length)(h:SI X.length w (Mq.at2 (iL X qs)) R' r X.length d sg):(r < X.length/\wgt X=0)\/(r=X.length/\wgt X≠0):=by
 have b1:=yH (Fo hX hq hl) (kU X qs).length (Nat.le_refl _);rw[take_length] at b1;exact Ks (dZ (show rO (kU X qs)≠0 by lia)) (Ul hX hq hl hw) h
end
structure Slv (X:List (List Q2)) (qs ps:List Q2):Prop where
 len:ps.length=X.length
 low:fE ps
 bd:∀p∈ps,Bd 9000 p
 sum:∀i,i < X.length->(Mq.rs X.length fun j=>qK X i j*Mq.val (ps.getD j Mq.z0))=Mq.val (qs.getD i Mq.z0)
theorem Zd (hX:fZ X)(hq:Mq.Pos qs)(hl:qs.length=X.length)(hw:∀row∈X,row.length=X.length)(h:Mq.KI X.length (Mq.at2 (iL X qs)) R)(s:SI X.length w (Mq.at2 (iL X qs)) R X.length X.length d sg)(hi:i < X.length):(Mq.rs X.length fun j=>qK X i j*(Mq.at2 R j X.length / (d:Rat)))=Mq.val (qs.getD i Mq.z0):=by
 have e:=h.whole s hi;rw[vK hX hq hl hw hi (by lia),if_neg (by lia)] at e;have e2:(Mq.rs X.length fun k=>Mq.at2 (iL X qs) i k*(Mq.at2 R k X.length / (d:Rat)))=((eQ ((kU X qs).getD i []):Int):Rat)*Mq.rs X.length fun k=>qK X i k*(Mq.at2 R k X.length / (d:Rat)):=by
  rw[<- dW];refine aP fun k hk=>?_;rw[vK hX hq hl hw hi (by lia),if_pos hk];grind
 rw[e2] at e;have g:=tL (tH hX hq hl hi);have n:=dZ (show eQ ((kU X qs).getD i [])≠0 by rw[pQ hl hi];lia);grind
end Shp
namespace Mq
def Wb (n:Nat)(x:Rat):Prop:=∃z:Int,x=(z:Rat)/\B n z
theorem Wb.mono (h:Wb n x)(l:n<=m):Wb m x:=by obtain⟨z,e,b⟩:=h;exact⟨z,e,b.mono l⟩
theorem Wb.mul (h:Wb n x)(k:Wb m y):Wb (n+m) (x*y):=by
 obtain⟨a,rfl,b⟩:=h;obtain⟨c,rfl,d⟩:=k;exact⟨a*c,by rw[Rat.intCast_mul],b.mul d⟩
theorem Wb.sub (h:Wb n x)(k:Wb n y):Wb (n+1) (x - y):=by
 obtain⟨a,rfl,b⟩:=h;obtain⟨c,rfl,d⟩:=k;exact⟨a - c,by rw[Rat.intCast_sub],b.sub d⟩
theorem Wb.neg (h:Wb n x):Wb n (-x):=by
 obtain⟨a,rfl,b⟩:=h;exact⟨-a,by rw[Rat.intCast_neg],b.neg⟩
theorem Wb.zero (n:Nat):Wb n 0:=⟨0,by simp,Nat.two_pow_pos _⟩
theorem Wb.one:Wb 1 1:=⟨1,by simp,show (1:Nat) < 2 ^ 1 by decide⟩
theorem Wb.sgn (h:Wb n x)(k:Nat):Wb n (Mq.sgn k*x):=by
 unfold Mq.sgn;split
 ·rw[show (1:Rat)*x=x by grind];exact h
 ·rw[show (-1:Rat)*x=-x by grind];exact h.neg
theorem Xb:∀K,(∀k,k < K->Wb n (f k))->∃z:Int,rs K f=(z:Rat)/\z.natAbs+K<=K*2 ^ n
 |0,_=>⟨0,by simp only[rs];simp,by simp⟩
 |K+1,h=>by
  obtain⟨z,e,b⟩:=Xb K fun k hk=>h k (by lia);obtain⟨y,e2,b2⟩:=h K (by lia);refine⟨z+y,by simp only[rs];rw[e,e2,Rat.intCast_add],?_⟩;have:y.natAbs < 2 ^ n:=b2;rw[Nat.succ_mul];lia
def SB (n m:Nat)(R:List (List Int))(r col:Nat)(d:Int):Prop:=∃A c,Bar m A (at2 R) r col (d:Rat) c/\∀i x,i < m->Wb n (A i x)
theorem SB.start (hb:BdR n R):SB n m R 0 0 1:=
 ⟨at2 R,id,by
  have:=Bar.start (m:=m) (A:=at2 R) fun i j=>⟨_,rfl⟩
  simpa using this,fun i x _=>⟨ent R i x,rfl,hb i x⟩⟩
theorem SB.skip (h:SB n m R r col d)(hz:∀i,r<=i->i < m->ent R i col=0):SB n m R r (col+1) d:=by
 obtain⟨A,c,B,q⟩:=h;exact⟨A,c,B.skip fun i h1 h2=>by unfold at2;rw[hz i h1 h2];simp,q⟩
theorem SB.swap (h:SB n m R r col d)(s:SI m w A0 R r col d sg)(hp:r < p)(hm:p < m):SB n m (fQ R p r) r col d:=by
 obtain⟨A,c,B,q⟩:=h;have hl:=s.len;refine⟨_,c,(B.swap (by lia) hm).congr fun i hi=>?_,fun i x hi=>q _ x (zM hm (by lia) hi)⟩
 funext x
 rw[qQ (by lia) (by lia)]
theorem SB.clear (h:SB n m R r col d)(s:SI m w A0 R r col d sg)(hr:r < m)(hc:col < w)(he:ent R r col≠0):SB n m (cN R r col d) (r+1) (col+1) (ent R r col):=by
 obtain⟨A,c,B,q⟩:=h;have heq:at2 R r col≠0:=fun z=>he (Rat.intCast_inj.mp (by unfold at2 at z;simpa using z));refine⟨A,_,(B.clear hr heq).congr fun i hi=>?_,q⟩
 funext x
 rw[rW s hr hc he hi x];unfold clr
 by_cases e:i=r
 ·rw[if_pos e,if_pos e,e]
 ·rw[if_neg e,if_neg e]
end Mq
namespace Shp
open PySem L2
abbrev bq (n m:Nat):Nat:=(n+4)*(m+1)+7
end Shp
namespace L2
open PySem PySem.Spec PyProof.Rows
theorem aL.weak {K:Frag}(F:aL P w K mg base CX k f fd ps sp)(h:∀vs H Q E,sp' vs H Q E->sp vs H Q E):aL P w K mg base CX k f fd ps sp':=
 ⟨fun vs H Q E q=>F.len vs H Q E (h _ _ _ _ q),fun A outer s H args us vs Q E hr he hb hv hs=>F.run A outer s H args us vs Q E hr he hb hv (h _ _ _ _ hs)⟩
abbrev cX (m i j:Int):Prop:=0<=i/\i < m/\0<=j/\j < m
inductive Zv (K:Frag) (H:Hp):V->Option Q2->Prop where
 |fr {u:Addr} {p:Q2} (h:Fq K H u p) (l:Low p):Zv K H (.ref u) (some p)
 |ty {v:V} {t:Value} (h:TyQ K H v t) (n:W.kitOne K t (.type "tuple")=some false):Zv K H v none
 |len {u:Addr} {x y z:V} (h:SqT K H u [x,y,z]):Zv K H (.ref u) none
 |n0 {u:Addr} {x y:V} {t:Value} (h:SqT K H u [x,y]) (ty:mZ K H x t) (n:uF t):Zv K H (.ref u) none
 |n1 {u:Addr} {i:Int} {y:V} {t:Value} (h:SqT K H u [.int i,y]) (ty:mZ K H y t) (n:uF t):Zv K H (.ref u) none
 |fb {u:Addr} {p:Q2} (h:Fq K H u p) (c:p.2 < 1\/(1<=p.2/\gc p.1 p.2≠1)):Zv K H (.ref u) none
inductive Fw (K:Frag) (vs:List V) (H:Hp) (Q:VK) (E:XK):Prop where
 |mk (v:V) (o:Option Q2):vs=[v]->Zv K H v o->Q (.bl o.isSome) H->Fw K vs H Q E
inductive hV (CK:Kd->Addr) (K:Frag) (H:Hp):List V->List RD->Prop where
 |nil:hV CK K H [] []
 |cons {x z:Addr} {k:Kd} {i j:Int} {p:Q2} {xs:List V} {ds:List RD} (h:Rw CK H x k (.int i) (.int j) (.ref z)) (f:Fq K H z p) (q:hV CK K H xs ds):hV CK K H (.ref x :: xs) ((k,i,j,p) :: ds)
section
variable {CK:Kd->Addr} {K:Frag} {H H':Hp}
theorem hV.same (e:aZ H H'):∀{xs:List V} {ds:List RD},hV CK K H xs ds->hV CK K H' xs ds
 |_,_,.nil=>.nil
 |_,_,.cons h f q=>.cons (h.same e) (e.fq f) (hV.same e q)
theorem hV.length:∀{xs:List V} {ds:List RD},hV CK K H xs ds->xs.length=ds.length
 |_,_,.nil=>rfl
 |_,_,.cons _ _ q=>by simp[hV.length q]
theorem hV.app:∀{xs ys:List V} {ds es:List RD},hV CK K H xs ds->hV CK K H ys es->hV CK K H (xs++ys) (ds++es)
 |_,_,_,_,.nil,r=>r
 |_,_,_,_,.cons h f q,r=>.cons h f (hV.app q r)
theorem hV.at:∀{xs:List V} {ds:List RD} {q:Nat} {d:RD},hV CK K H xs ds->ds[q]?=some d->∃x z,xs[q]?=some (.ref x)/\Rw CK H x d.1 (.int d.2.1) (.int d.2.2.1) (.ref z)/\Fq K H z d.2.2.2
 |_,_,_,_,.nil,h=>by simp at h
 |_,_,0,_,.cons h f _,e=>by simp at e;subst e;exact⟨_,_,rfl,h,f⟩
 |_,_,i+1,_,.cons _ _ q,e=>by simpa using hV.at q (by simpa using e)
theorem hV.upd (hl:H l=some (.lst ys)):∀{xs:List V} {ds:List RD},hV CK K H xs ds->hV CK K (L2.upd H l o) xs ds
 |_,_,.nil=>.nil
 |_,_,.cons (h:=h) f q=>by
  obtain⟨dx,e⟩:=h;exact .cons ⟨dx,by rw[aY (dL e hl (fun z=>by cases z))];exact e⟩ (f.upd hl) (hV.upd hl q)
end
inductive kM (CN:Addr) (K:Frag) (CK:Kd->Addr) (vs:List V) (H:Hp) (Q:VK) (E:XK):Prop where
 |mk (n l:Addr) (m:Int) (ds:List RD):vs=[.ref n]->dF CN K H n l m ds->ds.length<=100->(∀a xs H',aZ H H'->H a=none->H' a=some (.lst xs)->hV CK K H' xs ds->Q (.ref a) H')->kM CN K CK vs H Q E
abbrev RE:=RD × Q2
def flF (hp:List Q2)(d:RD):Q2:=Mq.minus (hp.getD d.2.1.toNat (0,1)) (hp.getD d.2.2.1.toNat (0,1))
def iU (k:Kd)(l:List RD):List RD:=l.filter fun d=>decide (d.1=k)
theorem Lj (k:Kd)(l:List RD)(e:RD):iU k (l++[e])=if e.1=k then iU k l++[e] else iU k l:=by
 unfold iU;rw[filter_append]
 by_cases h:e.1=k
 ·rw[if_pos h];simp[h]
 ·rw[if_neg h];simp[h]
inductive oB (K:Frag) (vs:List V) (H:Hp) (Q:VK) (E:XK):Prop where
 |mk (a b:Addr) (p q:Q2) (n m:Nat):vs=[.ref a,.ref b]->Fq K H a p->Fq K H b q->1<=p.2->1<=q.2->0 < q.1->Bd n p->Bd m q->n+m+1<=9000->mD H Q (fI p q)->oB K vs H Q E
section
variable {m n:Nat} {hp:List Q2} {d:RD} {e:RE}
theorem uT {ps:List Q2}(h:j < ps.length):ps[j]?=some (ps.getD j (0,1)):=by rw[getD_eq_getElem?_getD,getElem?_eq_getElem h];rfl
end
def rzl (ps:List Q2)(j:Nat)(a:Q2):List Q2:=ps.set j (iZ (ps.getD j (0,1)) a)
def jO (M:List (List Q2))(i j:Nat):Q2:=(M.getD i []).getD j (0,1)
def rz (M:List (List Q2))(i j:Nat)(a:Q2):List (List Q2):=M.set i (rzl (M.getD i []) j a)
structure MxB (M:List (List Q2)) (h w n:Nat):Prop where
 h:M.length=h
 w:∀ps∈M,ps.length=w
 l:∀ps∈M,∀p∈ps,Low p/\Bd n p
theorem MxB.mono {h w n n':Nat}(b:MxB M h w n)(le:n<=n'):MxB M h w n':=⟨b.h,b.w,fun ps hp p hp'=>⟨(b.l ps hp p hp').1,(b.l ps hp p hp').2.mono le⟩⟩
theorem MxB.row {h w n i:Nat}(b:MxB M h w n)(hi:i < h):M[i]?=some (M.getD i [])/\M.getD i []∈M/\(M.getD i []).length=w:=by
 have hi':i < M.length:=by rw[b.h];exact hi
 have e:M.getD i []=M[i]:=by rw[getD_eq_getElem?_getD,getElem?_eq_getElem hi'];rfl
 rw[e];exact⟨getElem?_eq_getElem hi',getElem_mem hi',b.w _ (getElem_mem hi')⟩
theorem MxB.at {h w n i j:Nat}(b:MxB M h w n)(hi:i < h)(hj:j < w):(M.getD i [])[j]?=some (jO M i j)/\Low (jO M i j)/\Bd n (jO M i j):=by
 obtain⟨e,m,l⟩:=b.row hi;have hj':j < (M.getD i []).length:=by rw[l];exact hj
 have:=uT hj';exact⟨this,b.l _ m _ (mem_of_getElem? this)⟩
theorem MxB.rz {h w n k i j:Nat}(b:MxB M h w n)(hi:i < h)(hj:j < w)(la:Low a)(ba:Bd k a):MxB (L2.rz M i j a) h w (n+k+1):=by
 obtain⟨e,m,l⟩:=b.row hi;obtain⟨e2,l2,b2⟩:=b.at hi hj;refine⟨by unfold L2.rz;rw[length_set];exact b.h,fun ps hp=>?_,fun ps hp p hp'=>?_⟩
 ·rcases mem_or_eq_of_mem_set hp with z | z
  ·exact b.w ps z
  ·rw[z];unfold rzl;rw[length_set];exact l
 ·rcases mem_or_eq_of_mem_set hp with z | z
  ·have:=b.l ps z p hp';exact⟨this.1,this.2.mono (by lia)⟩
  ·rw[z] at hp';unfold rzl at hp';rcases mem_or_eq_of_mem_set hp' with y | y
   ·have:=b.l _ m p y;exact⟨this.1,this.2.mono (by lia)⟩
   ·rw[y];exact⟨lW l2.pos la.pos,sU b2 ba l2.pos la.pos⟩
theorem Ah (b:MxB M h w n)(hi:i < h)(hj:j < w)(la:Low a)(x y:Nat):Mq.val (jO (L2.rz M i j a) x y)=Mq.val (jO M x y)+if i=x/\j=y then Mq.val a else 0:=by
 obtain⟨e,m,l⟩:=b.row hi;obtain⟨e2,l2,b2⟩:=b.at hi hj;have hl:i < M.length:=by rw[b.h];exact hi
 unfold jO L2.rz
 by_cases c:i=x
 ·subst c;have e3:(M.set i (rzl (M.getD i []) j a)).getD i []=rzl (M.getD i []) j a:=by rw[getD_eq_getElem?_getD,getElem?_set,if_pos rfl,if_pos hl];rfl
  rw[e3];unfold rzl
  by_cases d:j=y
  ·subst d;have e4:((M.getD i []).set j (iZ ((M.getD i []).getD j (0,1)) a)).getD j (0,1)=iZ ((M.getD i []).getD j (0,1)) a:=by rw[getD_eq_getElem?_getD,getElem?_set,if_pos rfl,if_pos (by rw[l];exact hj)];rfl
   rw[e4,if_pos ⟨rfl,rfl⟩];exact pL l2.pos la.pos
  ·have e4:((M.getD i []).set j (iZ ((M.getD i []).getD j (0,1)) a)).getD y (0,1)=(M.getD i []).getD y (0,1):=by rw[getD_eq_getElem?_getD,getElem?_set,if_neg d,<- getD_eq_getElem?_getD]
   rw[e4,if_neg (fun z=>d z.2),Rat.add_zero]
 ·have e3:(M.set i (rzl (M.getD i []) j a)).getD x []=M.getD x []:=by rw[getD_eq_getElem?_getD,getElem?_set,if_neg c,<- getD_eq_getElem?_getD]
  rw[e3,if_neg (fun z=>c z.1),Rat.add_zero]
structure LnB (R:List Q2) (w n:Nat):Prop where
 w:R.length=w
 l:∀p∈R,Low p/\Bd n p
theorem LnB.mono {w n n':Nat}(b:LnB R w n)(le:n<=n'):LnB R w n':=⟨b.w,fun p hp=>⟨(b.l p hp).1,(b.l p hp).2.mono le⟩⟩
theorem LnB.at {w n j:Nat}(b:LnB R w n)(hj:j < w):R[j]?=some (R.getD j (0,1))/\Low (R.getD j (0,1))/\Bd n (R.getD j (0,1)):=by
 have hj':j < R.length:=by rw[b.w];exact hj
 have:=uT hj';exact⟨this,b.l _ (mem_of_getElem? this)⟩
theorem LnB.set {w n j:Nat}(b:LnB R w n)(lq:Low q)(bq:Bd n q):LnB (R.set j q) w n:=⟨by rw[length_set];exact b.w,fun p hp=>by
 rcases mem_or_eq_of_mem_set hp with z | z
 ·exact b.l p z
 ·rw[z];exact⟨lq,bq⟩⟩
theorem LnB.rz {w n k j:Nat}(b:LnB R w n)(hj:j < w)(la:Low a)(ba:Bd k a):LnB (rzl R j a) w (n+k+1):=by
 obtain⟨_,l2,b2⟩:=b.at hj;exact(b.mono (by lia)).set (lW l2.pos la.pos) (sU b2 ba l2.pos la.pos)
theorem xK {R:List Q2}(hj:j < R.length):(R.set j q).getD y (0,1)=if j=y then q else R.getD y (0,1):=by
 rw[getD_eq_getElem?_getD,getElem?_set]
 by_cases e:j=y
 ·rw[if_pos e,if_pos e,if_pos (by lia)];rfl
 ·rw[if_neg e,if_neg e,<- getD_eq_getElem?_getD]
theorem Iz (b:LnB R w n)(hj:j < w)(la:Low a)(y:Nat):Mq.val ((rzl R j a).getD y (0,1))=Mq.val (R.getD y (0,1))+if j=y then Mq.val a else 0:=by
 obtain⟨_,l2,b2⟩:=b.at hj;unfold rzl;rw[xK (by rw[b.w];exact hj)]
 by_cases d:j=y
 ·subst d;rw[if_pos rfl,if_pos rfl];exact pL l2.pos la.pos
 ·rw[if_neg d,if_neg d,Rat.add_zero]
def SX (as:List Addr)(H H':Hp):Prop:=∀b o,H b=some o->b∉as->H' b=some o
theorem aZ.sx (s:aZ H H'):SX as H H':=fun b o e _=>s b o e
theorem SX.trans (a:SX as H H1)(b:SX as H1 H2):SX as H H2:=fun c o h n=>b c o (a c o h n) n
theorem SX.write (a:SX as H H1)(hl:l∈as):SX as H (upd H1 l o):=fun c u h n=>by rw[aY (fun z=>n (by rw[z];exact hl))];exact a c u h n
theorem SX.mono (a:SX as H H')(h:∀x∈as,x∈bs):SX bs H H':=fun c o e n=>a c o e fun z=>n (h c z)
theorem SX.same (s:aZ H0 H)(a:SX as H H')(h:∀x∈as,H0 x=none):aZ H0 H':=fun c o e=>a c o (s c o e) fun z=>by rw[h c z] at e;cases e
def Vz (as:List Addr)(H:Hp):Prop:=∀a∈as,∃xs,H a=some (.lst xs)
theorem SX.seqT {K:Frag}(hl:Vz as H)(e:SX as H H')(h:SqT K H a xs):SqT K H' a xs:=by
 have nx:∀{o:HO},H a=some o->(∀ys,o≠.lst ys)->a∉as:=fun ho n z=>by
  obtain⟨ys,hy⟩:=hl a z;rw[hy] at ho;exact n ys (Option.some.inj ho).symm
 rcases h with (h | ⟨u,h⟩) | h
 ·exact .inl (.inl (e _ _ h (nx h fun ys z=>by cases z)))
 ·exact .inl (.inr ⟨u,e _ _ h (nx h fun ys z=>by cases z)⟩)
 ·exact .inr h
theorem SX.rw (hl:Vz as H)(e:SX as H H')(h:Rw CK H x k s g z):Rw CK H' x k s g z:=by
 obtain⟨dx,q⟩:=h;refine⟨dx,e _ _ q fun y=>?_⟩;obtain⟨ys,hy⟩:=hl x y;rw[hy] at q;cases q
theorem SX.fqs {K:Frag}(hl:Vz as H)(e:SX as H H'):∀{xs:List V} {ps:List Q2},Fqs K H xs ps->Fqs K H' xs ps
 |_,_,.nil=>.nil
 |_,_,.cons f q=>.cons (e.seqT hl f) (SX.fqs hl e q)
structure Mx (K:Frag) (H:Hp) (D:Addr) (as:List Addr) (M:List (List Q2)):Prop where
 d:H D=some (.lst (as.map V.ref))
 n:as.Nodup
 nd:D∉as
 la:as.length=M.length
 r:∀(i:Nat) (a:Addr) (ps:List Q2),as[i]?=some a->M[i]?=some ps->∃xs,H a=some (.lst xs)/\Fqs K H xs ps
theorem Mx.lsts {K:Frag}(m:Mx K H D as M):Vz as H:=fun a ha=>by
 obtain⟨i,hi⟩:=getElem?_of_mem ha;have il:=(List.getElem?_eq_some_iff.mp hi).1;have il':i < M.length:=by rw[<- m.la];exact il
 obtain⟨xs,h,_⟩:=m.r i a M[i] hi (getElem?_eq_getElem il');exact⟨xs,h⟩
theorem Mx.same {K:Frag}(s:aZ H H')(m:Mx K H D as M):Mx K H' D as M:=⟨s _ _ m.d,m.n,m.nd,m.la,fun i a ps h1 h2=>by
 obtain⟨xs,h,f⟩:=m.r i a ps h1 h2;exact⟨xs,s _ _ h,f.same s⟩⟩
theorem Mx.other {K:Frag}(m:Mx K H D as M)(hl:H l=some (.lst ys))(n1:l≠D)(n2:l∉as):Mx K (upd H l o) D as M:=⟨by rw[aY (Ne.symm n1)];exact m.d,m.n,m.nd,m.la,fun i a ps h1 h2=>by
 obtain⟨xs,h,f⟩:=m.r i a ps h1 h2;exact⟨xs,by rw[aY (fun z=>n2 (by rw[<- z];exact mem_of_getElem? h1))];exact h,f.upd hl⟩⟩
theorem Mx.set {K:Frag}(m:Mx K H D as M)(ha:as[i]?=some a)(hp:M[i]?=some ps)(hx:H a=some (.lst xs))(hF:Fqs K H xs ps)(s:aZ H H1)(fv:Fq K H1 v q):Mx K (upd H1 a (.lst (xs.set j (.ref v)))) D as (M.set i (ps.set j q))/\SX as H (upd H1 a (.lst (xs.set j (.ref v)))):=by
 have ma:=mem_of_getElem? ha;have hx1:=s _ _ hx;have il:=(List.getElem?_eq_some_iff.mp ha).1;refine⟨⟨?_,m.n,m.nd,by rw[length_set];exact m.la,fun k b qs h1 h2=>?_⟩,s.sx.write ma⟩
 ·rw[aY (fun z=>m.nd (by rw[z];exact ma))];exact s _ _ m.d
 ·rw[getElem?_set] at h2
  by_cases c:i=k
  ·subst c;rw[ha] at h1;have h1:a=b:=Option.some.inj h1;subst h1;rw[if_pos rfl] at h2;split at h2
   ·have h2:ps.set j q=qs:=Option.some.inj h2;rw[<- h2];exact⟨_,aD,(Fqs.set fv j (hF.same s)).upd hx1⟩
   ·cases h2
  ·rw[if_neg c] at h2;obtain⟨ys,hy,fy⟩:=m.r k b qs h1 h2;have nb:b≠a:=fun z=>by
    subst z;have kl:=(List.getElem?_eq_some_iff.mp h1).1;have e1:as[i]'il=b:=(List.getElem?_eq_some_iff.mp ha).2;have e2:as[k]'kl=b:=(List.getElem?_eq_some_iff.mp h1).2;exact c ((getElem_inj m.n).mp (e1.trans e2.symm))
   exact⟨ys,by rw[aY nb];exact s _ _ hy,(fy.same s).upd hx1⟩
def bV (k:Kd):Nat:=if k=.ho then 1 else 0
def en (M:List (List Q2))(d:RD)(c:Nat)(a:Q2):List (List Q2):=rz (rz M d.2.1.toNat c a) d.2.2.1.toNat c (Mq.minus (0,1) a)
def dl (s g x:Nat):Rat:=(if s=x then 1 else 0) - (if g=x then 1 else 0)
def cM (d:RD)(h x y:Nat):Rat:=match d.1 with
 | .pc=>dl d.2.1.toNat d.2.2.1.toNat x*dl d.2.1.toNat d.2.2.1.toNat y*(1 / Mq.val d.2.2.2)
 | .pu=>0
 | .ho=>dl d.2.1.toNat d.2.2.1.toNat x*(if h=y then 1 else 0)+(if h=x then 1 else 0)*dl d.2.1.toNat d.2.2.1.toNat y
def cR (d:RD)(h x:Nat):Rat:=match d.1 with
 | .pc=>0
 | .pu=>- dl d.2.1.toNat d.2.2.1.toNat x*Mq.val d.2.2.2
 | .ho=>if h=x then Mq.val d.2.2.2 else 0
def eqM:Nat->List RD->Nat->Nat->Rat
 |_,[],_,_=>0
 |h,d :: ds,x,y=>cM d h x y+eqM (h+bV d.1) ds x y
def eqR:Nat->List RD->Nat->Rat
 |_,[],_=>0
 |h,d :: ds,x=>cR d h x+eqR (h+bV d.1) ds x
def bA (ds:List RD):Nat:=(iU .ho ds).length
theorem fY (ds:List RD)(d:RD):bA (ds++[d])=bA ds+bV d.1:=by
 unfold bA bV;rw[Lj];split
 ·rw[List.length_append];rfl
 ·rfl
theorem dM (d:RD)(ds:List RD):bA (d :: ds)=bV d.1+bA ds:=by
 unfold bA bV iU
 by_cases h:d.1=.ho
 ·rw[filter_cons_of_pos (by exact decide_eq_true h),if_pos h,length_cons];lia
 ·rw[filter_cons_of_neg (by simp[h]),if_neg h];lia
theorem Bk (d:RD)(x y:Nat):∀(ds:List RD) (h:Nat),eqM h (ds++[d]) x y=eqM h ds x y+cM d (h+bA ds) x y
 | [],h=>by show cM d h x y+0=0+cM d (h+0) x y;rw[Nat.add_zero];grind
 |e :: ds,h=>by
  show cM e h x y+eqM (h+bV e.1) (ds++[d]) x y=cM e h x y+eqM (h+bV e.1) ds x y+_;rw[Bk d x y ds,dM,Nat.add_assoc];grind
theorem Cg (d:RD)(x:Nat):∀(ds:List RD) (h:Nat),eqR h (ds++[d]) x=eqR h ds x+cR d (h+bA ds) x
 | [],h=>by show cR d h x+0=0+cR d (h+0) x;rw[Nat.add_zero];grind
 |e :: ds,h=>by
  show cR e h x+eqR (h+bV e.1) (ds++[d]) x=cR e h x+eqR (h+bV e.1) ds x+_;rw[Cg d x ds,dM,Nat.add_assoc];grind
theorem gV:Low (1,1):=⟨by decide,by decide⟩
theorem lZ (la:Low a)(ba:Bd k a):Low (Mq.minus (0,1) a)/\Bd (k+2) (Mq.minus (0,1) a)/\Mq.val (Mq.minus (0,1) a)=- Mq.val a:=by
 have h01:1<=((0,1):Q2).2:=by decide
 have b01:Bd 1 (0,1):=⟨show (0:Nat) < 2 ^ 1 by decide,show (1:Nat) < 2 ^ 1 by decide⟩
 refine⟨dD h01 la.pos,(iI b01 ba h01 la.pos).mono (by lia),?_⟩;rw[gE h01 la.pos,rM];grind
theorem Ct (b:MxB M h w n)(pt:cX (h:Int) d.2.1 d.2.2.1)(hc:c < w)(la:Low a)(ba:Bd k a):MxB (en M d c a) h w (n+2*k+4)/\∀x y,Mq.val (jO (en M d c a) x y)=Mq.val (jO M x y)+dl d.2.1.toNat d.2.2.1.toNat x*(if c=y then 1 else 0)*Mq.val a:=by
 obtain⟨i0,i1,j0,j1⟩:=pt;obtain⟨ln,bn,vn⟩:=lZ la ba;have b1:=b.rz (i:=d.2.1.toNat) (by lia) hc la ba;have b2:=b1.rz (i:=d.2.2.1.toNat) (by lia) hc ln bn;refine⟨b2.mono (by lia),fun x y=>?_⟩;unfold en;rw[Ah b1 (by lia) hc ln,Ah b (by lia) hc la,vn];unfold dl
 by_cases c1:d.2.1.toNat=x<;>by_cases c2:d.2.2.1.toNat=x<;>by_cases c3:c=y<;>simp only[c1,c2,c3,true_and,and_true,false_and,and_false,and_self,if_true,if_false]<;>grind
def hM (M:List (List Q2))(d:RD)(c:Nat):List (List Q2):=rz (rz (en M d c (1,1)) c d.2.1.toNat (1,1)) c d.2.2.1.toNat (Mq.minus (0,1) (1,1))
def pM (M:List (List Q2))(d:RD):List (List Q2):=en (en M d d.2.1.toNat (fI (1,1) d.2.2.2)) d d.2.2.1.toNat (Mq.minus (0,1) (fI (1,1) d.2.2.2))
def pR (rs:List Q2)(d:RD):List Q2:=rzl (rzl rs d.2.1.toNat (Mq.minus (0,1) d.2.2.2)) d.2.2.1.toNat d.2.2.2
theorem iC:Bd 1 (1,1):=⟨show (1:Nat) < 2 ^ 1 by decide,show (1:Nat) < 2 ^ 1 by decide⟩
theorem h11:1<=((1,1):Q2).2:=by decide
theorem Cz (l:Low p)(h0:0 < p.1)(b:Bd k p):Low (fI (1,1) p)/\Bd (k+1) (fI (1,1) p)/\Mq.val (fI (1,1) p)=1 / Mq.val p:=by
 refine⟨iH h11 (by lia),(oS iC b h11 (by lia)).mono (by lia),?_⟩;rw[jV h11 l.pos (by lia),Mq.rL]
theorem qg3 {w n k m h:Nat}(b:MxB M w w n)(pt:cX (m:Int) d.2.1 d.2.2.1)(hm:m<=w)(hk:d.1=.pc)(l:Low d.2.2.2)(h0:0 < d.2.2.2.1)(bk:Bd k d.2.2.2):MxB (pM M d) w w (n+4*k+20)/\∀x y,Mq.val (jO (pM M d) x y)=Mq.val (jO M x y)+cM d h x y:=by
 obtain⟨i0,i1,j0,j1⟩:=pt;obtain⟨ls,bs,vs⟩:=Cz l h0 bk;obtain⟨ln,bn,vn⟩:=lZ ls bs;have pt':cX (w:Int) d.2.1 d.2.2.1:=⟨i0,by lia,j0,by lia⟩
 obtain⟨b1,v1⟩:=Ct b pt' (c:=d.2.1.toNat) (by lia) ls bs;obtain⟨b2,v2⟩:=Ct b1 pt' (c:=d.2.2.1.toNat) (by lia) ln bn;refine⟨b2.mono (by lia),fun x y=>?_⟩;unfold pM;rw[v2,v1,vn,vs];unfold cM;rw[hk];show _=_+dl d.2.1.toNat d.2.2.1.toNat x*dl d.2.1.toNat d.2.2.1.toNat y*(1 / Mq.val d.2.2.2)
 generalize 1 / Mq.val d.2.2.2=v;generalize dl d.2.1.toNat d.2.2.1.toNat x=u;unfold dl
 by_cases c1:d.2.1.toNat=y<;>by_cases c2:d.2.2.1.toNat=y<;>simp only[c1,c2,if_true,if_false]<;>grind
theorem qf3 {w n m c:Nat}(b:MxB M w w n)(pt:cX (m:Int) d.2.1 d.2.2.1)(hm:m<=w)(hc:c < w)(hk:d.1=.ho):MxB (hM M d c) w w (n+20)/\∀x y,Mq.val (jO (hM M d c) x y)=Mq.val (jO M x y)+cM d c x y:=by
 obtain⟨i0,i1,j0,j1⟩:=pt;have pt':cX (w:Int) d.2.1 d.2.2.1:=⟨i0,by lia,j0,by lia⟩
 obtain⟨ln,bn,vn⟩:=lZ gV iC;obtain⟨b1,v1⟩:=Ct b pt' hc gV iC;have b2:=b1.rz (i:=c) (j:=d.2.1.toNat) hc (by lia) gV iC;have b3:=b2.rz (i:=c) (j:=d.2.2.1.toNat) hc (by lia) ln bn;refine⟨b3.mono (by lia),fun x y=>?_⟩;unfold hM;rw[Ah b2 hc (by lia) ln,Ah b1 hc (by lia) gV,v1,vn,Mq.rL];unfold cM;rw[hk];show _=_+(dl d.2.1.toNat d.2.2.1.toNat x*(if c=y then 1 else 0)+(if c=x then 1 else 0)*dl d.2.1.toNat d.2.2.1.toNat y)
 generalize dl d.2.1.toNat d.2.2.1.toNat x=u;unfold dl
 by_cases c1:d.2.1.toNat=y<;>by_cases c2:d.2.2.1.toNat=y<;>by_cases c3:c=x<;>by_cases c4:c=y<;>simp only[c1,c2,c3,c4,true_and,and_true,false_and,and_false,and_self,if_true,if_false]<;>grind
theorem Wr {w n k m h:Nat}(b:LnB rs w n)(pt:cX (m:Int) d.2.1 d.2.2.1)(hm:m<=w)(hk:d.1=.pu)(l:Low d.2.2.2)(bk:Bd k d.2.2.2):LnB (pR rs d) w (n+4*k+20)/\∀x,Mq.val ((pR rs d).getD x (0,1))=Mq.val (rs.getD x (0,1))+cR d h x:=by
 obtain⟨i0,i1,j0,j1⟩:=pt;obtain⟨ln,bn,vn⟩:=lZ l bk;have b1:=b.rz (j:=d.2.1.toNat) (by lia) ln bn;have b2:=b1.rz (j:=d.2.2.1.toNat) (by lia) l bk;refine⟨b2.mono (by lia),fun x=>?_⟩;unfold pR;rw[Iz b1 (by lia) l,Iz b (by lia) ln,vn];unfold cR;rw[hk];show _=_ + - dl d.2.1.toNat d.2.2.1.toNat x*Mq.val d.2.2.2;unfold dl
 by_cases c1:d.2.1.toNat=x<;>by_cases c2:d.2.2.1.toNat=x<;>simp only[c1,c2,if_true,if_false]<;>grind
theorem xH {m:Nat}:∀(ds:List RD) (h x:Nat),(∀d∈ds,cX (m:Int) d.2.1 d.2.2.1)->m<=h->h+bA ds<=x->eqR h ds x=0
 | [],_,_,_,_,_=>rfl
 |d :: ds,h,x,pt,hm,hx=>by
  rw[dM] at hx;have ih:=xH ds (h+bV d.1) x (fun e he=>pt e (mem_cons_of_mem _ he)) (by lia) (by lia);obtain⟨i0,i1,j0,j1⟩:=pt d (by simp);show cR d h x+eqR (h+bV d.1) ds x=0;rw[ih];have z:dl d.2.1.toNat d.2.2.1.toNat x=0:=by unfold dl;rw[if_neg (by lia),if_neg (by lia)];grind
  unfold cR
  cases hk:d.1 with
  |pc=>show (0:Rat)+0=0;grind
  |pu=>show - dl d.2.1.toNat d.2.2.1.toNat x*Mq.val d.2.2.2+0=0;rw[z];grind
  |ho=>
   have:bV d.1=1:=by unfold bV;rw[if_pos hk]
   show (if h=x then Mq.val d.2.2.2 else 0)+0=0;rw[if_neg (by lia)];grind
theorem qg7 {rs:List Q2}{w n k m c:Nat}{d:RD}(b:LnB rs w n)(hc:c < w)(hk:d.1=.ho)(l:Low d.2.2.2)(bk:Bd k d.2.2.2)(h0:Mq.val (rs.getD c (0,1))=0):LnB (rs.set c d.2.2.2) w (n+k)/\∀x,Mq.val ((rs.set c d.2.2.2).getD x (0,1))=Mq.val (rs.getD x (0,1))+cR d c x:=by
 refine⟨(b.mono (by lia)).set l (bk.mono (by lia)),fun x=>?_⟩;rw[xK (by rw[b.w];exact hc)];unfold cR;rw[hk];show _=_+if c=x then Mq.val d.2.2.2 else 0
 by_cases e:c=x
 ·subst e;rw[if_pos rfl,if_pos rfl,h0];grind
 ·rw[if_neg e,if_neg e];grind
inductive oO (K:Frag) (vs:List V) (H:Hp) (Q:VK) (E:XK):Prop where
 |mk (l z:Addr) (j:Nat) (xs:List V) (ps:List Q2) (a:Q2) (n m:Nat):vs=[.ref l,.int (j:Int),.ref z]->H l=some (.lst xs)->Fqs K H xs ps->j < ps.length->1<=(ps.getD j (0,1)).2->Bd n (ps.getD j (0,1))->Fq K H z a->1<=a.2->Bd m a->n+m+1<=9000->(∀v H1,aZ H H1->Fq K H1 v (iZ (ps.getD j (0,1)) a)->Q .non (upd H1 l (.lst (xs.set j (.ref v)))))->oO K vs H Q E
inductive sM (K:Frag) (CK:Kd->Addr) (vs:List V) (H:Hp) (Q:VK) (E:XK):Prop where
 |mk (D x z:Addr) (zz:V) (as:List Addr) (M:List (List Q2)) (d:RD) (w n k c:Nat) (a:Q2):vs=[.ref D,.ref x,.int (c:Int),.ref z]->Mx K H D as M->MxB M w w n->Rw CK H x d.1 (.int d.2.1) (.int d.2.2.1) zz->cX (w:Int) d.2.1 d.2.2.1->c < w->Fq K H z a->Low a->Bd k a->n+2*k+4<=9000->(∀H',SX as H H'->Mx K H' D as (en M d c a)->Q .non H')->sM K CK vs H Q E
inductive tW (K:Frag) (CK:Kd->Addr) (vs:List V) (H:Hp) (Q:VK) (E:XK):Prop where
 |mk (D x zz:Addr) (as:List Addr) (M:List (List Q2)) (d:RD) (w n k:Nat):vs=[.ref D,.ref x]->Mx K H D as M->MxB M w w n->Rw CK H x d.1 (.int d.2.1) (.int d.2.2.1) (.ref zz)->Fq K H zz d.2.2.2->cX (w:Int) d.2.1 d.2.2.1->Low d.2.2.2->0 < d.2.2.2.1->Bd k d.2.2.2->n+4*k+20<=9000->(∀H',SX as H H'->Mx K H' D as (pM M d)->Q .non H')->tW K CK vs H Q E
inductive pT (K:Frag) (CK:Kd->Addr) (vs:List V) (H:Hp) (Q:VK) (E:XK):Prop where
 |mk (R x zz:Addr) (ys:List V) (rs:List Q2) (d:RD) (w n k:Nat):vs=[.ref R,.ref x]->H R=some (.lst ys)->Fqs K H ys rs->LnB rs w n->Rw CK H x d.1 (.int d.2.1) (.int d.2.2.1) (.ref zz)->Fq K H zz d.2.2.2->cX (w:Int) d.2.1 d.2.2.1->Low d.2.2.2->Bd k d.2.2.2->n+4*k+20<=9000->(∀ys' H',SX [R] H H'->H' R=some (.lst ys')->Fqs K H' ys' (pR rs d)->Q .non H')->pT K CK vs H Q E
inductive tQ (K:Frag) (CK:Kd->Addr) (vs:List V) (H:Hp) (Q:VK) (E:XK):Prop where
 |mk (D R x zz:Addr) (as:List Addr) (M:List (List Q2)) (ys:List V) (rs:List Q2) (d:RD) (w n c:Nat):vs=[.ref D,.ref R,.ref x,.int (c:Int)]->Mx K H D as M->MxB M w w n->H R=some (.lst ys)->Fqs K H ys rs->rs.length=w->R≠D->R∉as->Rw CK H x d.1 (.int d.2.1) (.int d.2.2.1) (.ref zz)->Fq K H zz d.2.2.2->cX (w:Int) d.2.1 d.2.2.1->c < w->n+20<=9000->(∀ys' H',SX (R :: as) H H'->Mx K H' D as (hM M d c)->H' R=some (.lst ys')->Fqs K H' ys' (rs.set c d.2.2.2)->Q .non H')->tQ K CK vs H Q E
structure Fms (K:Frag) (H0 H:Hp) (us:List V) (X:List (List Q2)):Prop where
 l:us.length=X.length
 r:∀(i:Nat) (x:V) (ps:List Q2),us[i]?=some x->X[i]?=some ps->∃(a:Addr) (xs:List V),x=.ref a/\H0 a=none/\H a=some (.lst xs)/\Fqs K H xs ps
structure yX (m:Nat) (ds:List RD) (N:Nat) (X:List (List Q2)) (Y:List Q2):Prop where
 x:MxB X (m - 1+bA ds) (m - 1+bA ds) N
 y:LnB Y (m - 1+bA ds) N
 vx:∀i j,Mq.val (jO X i j)=eqM m ds (i+1) (j+1)
 vy:∀i,Mq.val (Y.getD i (0,1))=eqR m ds (i+1)
def kK (kb:Nat->Nat):Nat->Nat
 |0=>0
 |i+1=>kK kb i+(4*kb i+20)
theorem wQ (kb:Nat->Nat):∀{j:Nat},i<=j->kK kb i<=kK kb j
 |0,h=>by rw[Nat.le_zero.mp h];exact Nat.le_refl _
 |j+1,h=>by
  rcases Nat.eq_or_lt_of_le h with z | z
  ·rw[z];exact Nat.le_refl _
  ·have:=wQ kb (i:=i) (j:=j) (by lia);show _<=kK kb j+(4*kb j+20)
   lia
inductive uH (CN:Addr) (K:Frag) (vs:List V) (H:Hp) (Q:VK) (E:XK):Prop where
 |mk (n l:Addr) (m:Nat) (kb:Nat->Nat) (ds:List RD):vs=[.ref n]->dF CN K H n l (m:Int) ds->(∀i d,ds[i]?=some d->wL (m:Int) d/\Bd (kb i) d.2.2.2)->1<=m->m<=20->ds.length<=40->kK kb ds.length+30<=8900->(∀t p r us ys X Y H',aZ H H'->H' t=some (.tup [.ref p,.ref r])->H p=none->H r=none->H' p=some (.lst us)->H' r=some (.lst ys)->Fms K H H' us X->Fqs K H' ys Y->(∀x∈us,x≠.ref p/\x≠.ref r)->yX m ds (kK kb ds.length+1) X Y->Q (.ref t) H')->uH CN K vs H Q E
def Tk (ta:TA):TE:=fun σ H Q=>ta σ H fun vs H1=>∃n:Nat,vs=[.int (n:Int)]/\n<=1000/\∀l,H1 l=none->Q (.ref l) (upd H1 l (.lst ((List.range n).map fun (i:Nat)=>V.int (i:Int))))
theorem tO:∀{n:Nat} {acc:List Value},acc.length=n->(∀(j:Nat) (v:Value),acc[j]?=some v->∃t,v=Value.int (j:Int) t)->cC ((List.range n).map fun (i:Nat)=>V.int (i:Int)) acc
 |0,[],_,_=>.nil
 |n+1,acc,hl,h=>by
  have e:acc=acc.take n++[acc[n]'(by lia)]:=by
   have h1:acc.take (n+1)=acc:=take_of_length_le (by lia);have h2:acc.take (n+1)=acc.take n++[acc[n]'(by lia)]:=by rw[take_add_one,getElem?_eq_getElem (by lia)];rfl
   rw[h1] at h2;exact h2
  rw[range_succ,map_append,e];refine cC.append (tO (by rw[length_take];lia) fun j v hj=>?_) (.cons ?_ .nil)
  ·have hjn:j < n:=by
    have:=(List.getElem?_eq_some_iff.mp hj).1;rw[length_take] at this;lia
   rw[getElem?_take,if_pos hjn] at hj;exact h j v hj
  ·obtain⟨t,ht⟩:=h n _ (getElem?_eq_getElem (by lia));rw[ht];exact⟨t,rfl⟩
section
variable {X:Cx} {a:Expr} {p p2 pos pos2:Pos} {ta:TA}
theorem pO (hc:X.calm=true)(hgl:Gl X "list")(hml:X.mg "list"=none)(hg:Gl X "range")(hm:X.mg "range"=none)(ha:PA X [a] ta)(hs:starEach [a] X.env=[(false,eval a X.env)]:=by rfl)(he:starEach [.Call (.Name "range" p2) [a] [] pos2] X.env=(false,eval (.Call (.Name "range" p2) [a] [] pos2) X.env) :: starEach [] X.env:=by rfl)(hpl:(backTo pos (starEach [] X.env)).any (·.1)=false:=by rfl) :
  PE X (.Call (.Name "list" p) [.Call (.Name "range" p2) [a] [] pos2] [] pos) (Tk ta):=by
 intro pins s σ H Q I h;refine wpAny_Call_Name_kw (kE I hgl hml PyProof.Rows.boot_list ?_);refine PyProof.Rows.callWith_type1 ?_ he hpl;rw[he];show wpAny _ _ (spliced ((false,eval (.Call (.Name "range" p2) [a] [] pos2) X.env) :: backTo pos (starEach [] X.env))) _ _ s;refine Calls.spliced_cons ?_;refine wpAny_Call_Name_kw (kE I hg hm boot_range (PyProof.Rows.callWith_type1 (thn (ha pos2 pins s σ H _ I h) fun us s1 ⟨vs,H1,I1,r1,q1⟩=>?_) hs rfl));obtain⟨n,e,hn,q⟩:=q1;subst e
 cases r1 with
 |cons r rr=>
  cases rr
  obtain⟨t,rfl⟩:=r;refine call_range_1 ?_;refine Calls.spliced_nil ?_;have I2:∀(ob:Obj) (tk:Nat),Inv X pins σ H1 { s1 with heap:=s1.heap.push ob,toks:=tk }:=fun ob tk=>I1.kept (t':=tk) (fun b ob e=>Heap.get?_push_of_some _ e);have hn24:(n:Nat)<=2 ^ 24:=by lia
  refine call_list_range (n:=n) (I1.ok.hd hc) (IsRange.new ..) (small_one (by lia) (by lia) (by lia) (by lia)) (by rw[rangeSize_one];split<;>lia) hn24 (fun h' tk acc' c' kp e items=>?_);have rl:cC ((List.range n).map fun (i:Nat)=>V.int (i:Int)) acc'.toList:=tO (by rw[Array.length_toList];exact items.1) (fun j v hj=>by
   obtain⟨t,ht⟩:=items.2 j v (by rw[<- Array.getElem?_toList];exact hj);exact⟨t,by rw[ht];congr 1;lia⟩)
  have hz:((List.range n).map fun (i:Nat)=>V.int (i:Int)).length<=sizeLine:=by rw[length_map,length_range,sizeLine_eq];lia
  exact⟨.ref _,_,(I2 _ _).laid (t':=tk) kp (Nat.le_refl _) (show eP X.prog X.w _ h' _ (.lst ((List.range n).map fun (i:Nat)=>V.int (i:Int))) from ⟨hz,acc'.toList,c',rl,e⟩),rfl,q _ ((I2 _ _).hok.fresh (Nat.le_refl _))⟩
end
def jn (ms:List Int)(s g:Nat):List Int:=ms.map fun x=>if x=ms.getD g 0 then ms.getD s 0 else x
def Kp (m:Nat):List Int:=(List.range m).map fun (i:Nat)=>(i:Int)
def iY (ms:List Int)(d:RD):List Int:=if d.1=.pu then ms else jn ms d.2.1.toNat d.2.2.1.toNat
def mks (m:Nat)(ds:List RD):List Int:=ds.foldl iY (Kp m)
def mk (m:Nat)(ds:List RD)(p:Nat):Int:=(mks m ds).getD p 0
theorem oV (m:Nat)(ds:List RD)(d:RD):mks m (ds++[d])=iY (mks m ds) d:=by unfold mks;rw[foldl_append];rfl
theorem Ma (ms:List Int)(d:RD):(iY ms d).length=ms.length:=by
 unfold iY;split
 ·rfl
 ·unfold jn;rw[length_map]
theorem xW:∀(ds:List RD) (ms:List Int),(ds.foldl iY ms).length=ms.length
 | [],_=>rfl
 |d :: ds,ms=>by show (ds.foldl iY (iY ms d)).length=_;rw[xW ds,Ma]
theorem pN (m:Nat)(ds:List RD):(mks m ds).length=m:=by unfold mks Kp;rw[xW,length_map,length_range]
theorem Qd {ms:List Int}{f:Int->Int}(h:p < ms.length):(ms.map f).getD p 0=f (ms.getD p 0):=by
 rw[getD_eq_getElem?_getD,getElem?_map,getD_eq_getElem?_getD,getElem?_eq_getElem h];rfl
theorem Pl (h:p < m):mk m [] p=(p:Int):=by
 show (Kp m).getD p 0=_;unfold Kp;rw[getD_eq_getElem?_getD,getElem?_map,getElem?_range h];rfl
theorem sI (hk:d.1=.pu)(p:Nat):mk m (ds++[d]) p=mk m ds p:=by
 unfold mk;rw[oV];unfold iY;rw[if_pos hk]
theorem sR (hk:d.1≠.pu)(hp:p < m):mk m (ds++[d]) p=if mk m ds p=mk m ds d.2.2.1.toNat then mk m ds d.2.1.toNat else mk m ds p:=by
 unfold mk;rw[oV];unfold iY;rw[if_neg hk];unfold jn;rw[Qd (by rw[pN];exact hp)]
inductive Cn (ds:List RD):Nat->Nat->Prop where
 |refl (p:Nat):Cn ds p p
 |row {d:RD} (h:d∈ds) (hk:d.1≠.pu):Cn ds d.2.1.toNat d.2.2.1.toNat
 |symm {p q:Nat} (h:Cn ds p q):Cn ds q p
 |trans {p q r:Nat} (h:Cn ds p q) (g:Cn ds q r):Cn ds p r
theorem Cn.mono (h:∀d∈ds,d∈es)(c:Cn ds p q):Cn es p q:=by
 induction c with
 |refl p=>exact .refl p
 |row hd hk=>exact .row (h _ hd) hk
 |symm _ ih=>exact .symm ih
 |trans _ _ a b=>exact .trans a b
theorem Bq {m:Nat}:∀(n:Nat) (ds:List RD),ds.length=n->(∀d∈ds,cX (m:Int) d.2.1 d.2.2.1)->∀p q,p < m->q < m->mk m ds p=mk m ds q->Cn ds p q
 |0,ds,hl,_,p,q,hp,hq,e=>by
  have:ds=[]:=length_eq_zero_iff.mp hl;subst this;rw[Pl hp,Pl hq] at e;have:p=q:=by lia
  subst this;exact .refl p
 |n+1,ds,hl,pt,p,q,hp,hq,e=>by
  obtain⟨es,d,rfl⟩:∃es d,ds=es++[d]:=⟨ds.dropLast,ds.getLast (by intro z;rw[z] at hl;cases hl),(dropLast_concat_getLast _).symm⟩
  have le:es.length=n:=by rw[List.length_append] at hl;simpa using hl
  have ih:=Bq n es le (fun x hx=>pt x (mem_append_left _ hx));have up:∀{a b:Nat},Cn es a b->Cn (es++[d]) a b:=fun c=>c.mono fun x hx=>mem_append_left _ hx
  by_cases hk:d.1=.pu
  ·rw[sI hk,sI hk] at e;exact up (ih p q hp hq e)
  ·obtain⟨i0,i1,j0,j1⟩:=pt d (by simp);have hs:d.2.1.toNat < m:=by lia
   have hg:d.2.2.1.toNat < m:=by lia
   have rw':Cn (es++[d]) d.2.1.toNat d.2.2.1.toNat:=.row (by simp) hk;rw[sR hk hp,sR hk hq] at e
   by_cases a:mk m es p=mk m es d.2.2.1.toNat
   ·have cp:=up (ih _ _ hp hg a);rw[if_pos a] at e
    by_cases b:mk m es q=mk m es d.2.2.1.toNat
    ·exact cp.trans (up (ih _ _ hq hg b)).symm
    ·rw[if_neg b] at e;exact cp.trans (rw'.symm.trans (up (ih _ _ hs hq e)))
   ·rw[if_neg a] at e
    by_cases b:mk m es q=mk m es d.2.2.1.toNat
    ·rw[if_pos b] at e;exact(up (ih _ _ hp hs e)).trans (rw'.trans (up (ih _ _ hq hg b)).symm)
    ·rw[if_neg b] at e;exact up (ih _ _ hp hq e)
theorem tD {m:Nat}:∀(n:Nat) (ds:List RD),ds.length=n->(∀d∈ds,cX (m:Int) d.2.1 d.2.2.1)->∀d∈ds,d.1≠.pu->mk m ds d.2.1.toNat=mk m ds d.2.2.1.toNat
 |0,ds,hl,_,d,hd,_=>by
  have:ds=[]:=length_eq_zero_iff.mp hl;rw[this] at hd;cases hd
 |n+1,ds,hl,pt,x,hx,hkx=>by
  obtain⟨es,d,rfl⟩:∃es d,ds=es++[d]:=⟨ds.dropLast,ds.getLast (by intro z;rw[z] at hl;cases hl),(dropLast_concat_getLast _).symm⟩
  have le:es.length=n:=by rw[List.length_append] at hl;simpa using hl
  obtain⟨i0,i1,j0,j1⟩:=pt x hx;have hs:x.2.1.toNat < m:=by lia
  have hg:x.2.2.1.toNat < m:=by lia
  by_cases hk:d.1=.pu
  ·rw[sI hk,sI hk];rcases mem_append.mp hx with z | z
   ·exact tD n es le (fun y hy=>pt y (mem_append_left _ hy)) x z hkx
   ·have:x=d:=by simpa using z
    rw[this] at hkx;exact absurd hk hkx
  ·rw[sR hk hs,sR hk hg];rcases mem_append.mp hx with z | z
   ·have ih:=tD n es le (fun y hy=>pt y (mem_append_left _ hy)) x z hkx;rw[ih]
   ·have:x=d:=by simpa using z
    subst this;rw[if_pos rfl]
    by_cases c:mk m es x.2.1.toNat=mk m es x.2.2.1.toNat
    ·rw[if_pos c]
    ·rw[if_neg c]
theorem Cn.ind {R:Nat->Nat->Prop}(r:∀p,R p p)(s:∀p q,R p q->R q p)(t:∀p q x,R p q->R q x->R p x)(h:∀d∈ds,d.1≠.pu->R d.2.1.toNat d.2.2.1.toNat)(c:Cn ds p q):R p q:=by
 induction c with
 |refl p=>exact r p
 |row hd hk=>exact h _ hd hk
 |symm _ ih=>exact s _ _ ih
 |trans _ _ a b=>exact t _ _ _ a b
theorem Oz {m:Nat}(pt:∀d∈ds,cX (m:Int) d.2.1 d.2.2.1)(hp:p < m)(hq:q < m):mk m ds p=mk m ds q↔Cn ds p q:=
 ⟨Bq _ ds rfl pt p q hp hq,fun c=>Cn.ind (R:=fun a b=>mk m ds a=mk m ds b) (fun _=>rfl) (fun _ _ e=>e.symm) (fun _ _ _ a b=>a.trans b) (fun d hd hk=>tD _ ds rfl pt d hd hk) c⟩
theorem Hw:∀{m:Nat} {S:List Nat},S.Nodup->(∀p∈S,p < m)->S.length<=m
 |0,[],_,_=>Nat.le_refl _
 |0,p :: S,_,h=>absurd (h p (mem_cons_self ..)) (Nat.not_lt_zero _)
 |m+1,S,nd,h=>by
  have e:=Hw (m:=m) (S:=S.erase m) (nd.erase m) (fun p hp=>by
   have h1:=h p (mem_of_mem_erase hp);have h2:p≠m:=fun z=>by rw[z] at hp;exact(Nodup.not_mem_erase nd) hp
   lia)
  have:=length_erase_le (a:=m) (l:=S);have h3:S.length<=(S.erase m).length+1:=by
   rw[length_erase];split<;>lia
  lia
theorem Lu {m:Nat}{S:List Nat}(pt:∀d∈ds,cX (m:Int) d.2.1 d.2.2.1)(hf:f < m)(h1:f∈S)(h2:∀p∈S,p < m/\mk m ds p=mk m ds f)(h3:∀d∈ds,d.1≠.pu->(d.2.1.toNat∈S↔d.2.2.1.toNat∈S))(hp:p < m):p∈S↔mk m ds p=mk m ds f:=by
 refine⟨fun h=>(h2 p h).2,fun h=>?_⟩;exact(Cn.ind (R:=fun a b=>a∈S↔b∈S) (fun _=>Iff.rfl) (fun _ _ e=>e.symm) (fun _ _ _ a b=>a.trans b) h3 ((Oz pt hf hp).mp h.symm)).mp h1
abbrev Stp:=Nat × Int
abbrev Br:=Nat × Nat × Nat
def stF (es:List Br)(p:Nat):List (Stp × Nat):=es.filterMap fun e=>if e.2.1=p then some ((e.1,1),e.2.2) else if e.2.2=p then some ((e.1,-1),e.2.1) else none
abbrev WS:=List (Nat × List Stp)
def cE (w:WS):List Nat:=w.map (·.1)
def oJ:WS->Nat->Option (List Stp)
 | [],_=>none
 |e :: w,p=>if e.1=p then some e.2 else oJ w p
theorem gD {st:List Stp}:∀{w:WS},oJ w p=some st->(p,st)∈w
 | [],h=>by cases h
 |e :: w,h=>by
  unfold oJ at h
  by_cases c:e.1=p
  ·rw[if_pos c] at h
   cases h
   obtain⟨a,b⟩:=e;have c:a=p:=c;subst c;exact mem_cons_self ..
  ·rw[if_neg c] at h;exact mem_cons_of_mem _ (gD h)
theorem mQ:∀{w:WS},p∈cE w->∃st,oJ w p=some st
 | [],h=>by cases h
 |e :: w,h=>by
  unfold oJ
  by_cases c:e.1=p
  ·rw[if_pos c];exact⟨_,rfl⟩
  ·rw[if_neg c];rcases mem_cons.mp h with z | z
   ·exact absurd z.symm c
   ·exact mQ z
theorem qH:∀{w:WS},p∉cE w->oJ w p=none
 | [],_=>rfl
 |e :: w,h=>by
  unfold oJ;rw[if_neg (fun z=>h (by rw[<- z];exact mem_cons_self ..))];exact qH fun z=>h (mem_cons_of_mem _ z)
theorem Nt:(oJ w p).isSome=true↔p∈cE w:=by
 by_cases c:p∈cE w
 ·obtain⟨st,e⟩:=mQ c;rw[e];exact⟨fun _=>c,fun _=>rfl⟩
 ·rw[qH c];exact⟨fun z=>(by cases z),fun z=>absurd z c⟩
def inF (p:Nat)(s:WS × List Nat)(t:Stp × Nat):WS × List Nat:=if t.2∈cE s.1 then s else (s.1++[(t.2,(oJ s.1 p).getD []++[t.1])],s.2++[t.2])
def kP (es:List Br)(s:WS × List Nat):WS × List Nat:=if s.2=[] then s else (stF es (s.2.getLastD 0)).foldl (inF (s.2.getLastD 0)) (s.1,s.2.dropLast)
def cD (es:List Br)(b:Nat):Nat->WS × List Nat
 |0=>([(b,[])],[b])
 |n+1=>kP es (cD es b n)
def kS (es:List Br)(b e:Nat):Option (List Stp):=oJ (cD es b 60).1 e
def mX (es:List Br)(s:Stp)(p q:Nat):Prop:=∃u v,(s.1,u,v)∈es/\((s.2=1/\p=u/\q=v)\/(s.2=-1/\p=v/\q=u))
inductive Pt (es:List Br) (b:Nat):List Stp->Nat->List Nat->Prop where
 |nil:Pt es b [] b [b]
 |snoc {st:List Stp} {p q:Nat} {pts:List Nat} {s:Stp} (h:Pt es b st p pts) (g:mX es s p q) (n:q∉pts):Pt es b (st++[s]) q (pts++[q])
theorem mC (h:t∈stF es p):mX es t.1 p t.2:=by
 unfold stF at h;obtain⟨e,he,ht⟩:=mem_filterMap.mp h
 by_cases c1:e.2.1=p
 ·rw[if_pos c1] at ht
  cases ht
  exact⟨e.2.1,e.2.2,he,.inl ⟨rfl,c1.symm,rfl⟩⟩
 ·rw[if_neg c1] at ht
  by_cases c2:e.2.2=p
  ·rw[if_pos c2] at ht
   cases ht
   exact⟨e.2.1,e.2.2,he,.inr ⟨rfl,c2.symm,rfl⟩⟩
  ·rw[if_neg c2] at ht;cases ht
theorem Qt (h:mX es s p q):q=p\/∃t∈stF es p,t.2=q:=by
 obtain⟨u,v,he,h⟩:=h
 by_cases c:q=p
 ·exact .inl c
 refine .inr ?_;rcases h with ⟨_,rfl,rfl⟩ | ⟨_,rfl,rfl⟩
 ·refine⟨((s.1,1),q),mem_filterMap.mpr ⟨_,he,?_⟩,rfl⟩;rw[if_pos rfl]
 ·refine⟨((s.1,-1),q),mem_filterMap.mpr ⟨_,he,?_⟩,rfl⟩;rw[if_neg c,if_pos rfl]
structure WI (es:List Br) (b:Nat) (s:WS × List Nat):Prop where
 nd:(cE s.1).Nodup
 kb:b∈cE s.1
 pt:∀x st,(x,st)∈s.1->∃pts,Pt es b st x pts/\∀y∈pts,y∈cE s.1
 q:∀x∈s.2,x∈cE s.1
 cl:∀x∈cE s.1,x∉s.2->∀t y,mX es t x y->y∈cE s.1
theorem Ni (es:List Br)(b:Nat):WI es b ([(b,[])],[b]):=by
 refine⟨by simp[cE],by simp[cE],fun x st h=>?_,fun x h=>?_,fun x h n=>?_⟩
 ·have:(x,st)=(b,[]):=by simpa using h
  cases this
  exact⟨[b],.nil,fun y hy=>by simpa[cE] using hy⟩
 ·simpa[cE] using h
 ·have:x=b:=by simpa[cE] using h
  exact absurd (by simp[this]) n
theorem Av (w:WS)(x:Nat)(st:List Stp):cE (w++[(x,st)])=cE w++[x]:=by unfold cE;rw[map_append];rfl
structure WJ (es:List Br) (b p:Nat) (T:List (Stp × Nat)) (s:WS × List Nat):Prop where
 nd:(cE s.1).Nodup
 kb:b∈cE s.1
 kp:p∈cE s.1
 pt:∀x st,(x,st)∈s.1->∃pts,Pt es b st x pts/\∀y∈pts,y∈cE s.1
 q:∀x∈s.2,x∈cE s.1
 cl:∀x∈cE s.1,x∉s.2->x≠p->∀t y,mX es t x y->y∈cE s.1
 t:∀t∈T,t.2∈cE s.1
theorem Hv (h:WJ es b p T s)(g:mX es t.1 p t.2):WJ es b p (T++[t]) (inF p s t):=by
 unfold inF
 by_cases c:t.2∈cE s.1
 ·rw[if_pos c];refine { h with t:=fun u hu=>?_ };rcases mem_append.mp hu with z | z
  ·exact h.t u z
  ·have:u=t:=by simpa using z
   rw[this];exact c
 ·rw[if_neg c];obtain⟨sp,ep⟩:=mQ h.kp;rw[ep];have up:∀{x:Nat},x∈cE s.1->x∈cE (s.1++[(t.2,sp++[t.1])]):=fun hx=>by rw[Av];exact mem_append_left _ hx
  have me:t.2∈cE (s.1++[(t.2,sp++[t.1])]):=by rw[Av];simp
  refine⟨?_,up h.kb,up h.kp,fun x st hx=>?_,fun x hx=>?_,fun x hx nx np=>?_,fun u hu=>?_⟩
  ·show (cE (s.1++[(t.2,sp++[t.1])])).Nodup;rw[Av,nodup_append];refine⟨h.nd,by simp,fun x hx y hy z=>?_⟩;have:y=t.2:=by simpa using hy
   exact c (by rw[<- this,<- z];exact hx)
  ·rcases mem_append.mp hx with z | z
   ·obtain⟨pts,h1,h2⟩:=h.pt x st z;exact⟨pts,h1,fun y hy=>up (h2 y hy)⟩
   ·have:(x,st)=(t.2,sp++[t.1]):=by simpa using z
    cases this
    obtain⟨pts,h1,h2⟩:=h.pt p sp (gD ep);refine⟨pts++[t.2],.snoc h1 g (fun z=>c (h2 _ z)),fun y hy=>?_⟩;rcases mem_append.mp hy with z | z
    ·exact up (h2 y z)
    ·have:y=t.2:=by simpa using z
     rw[this];exact me
  ·rcases mem_append.mp hx with z | z
   ·exact up (h.q x z)
   ·have:x=t.2:=by simpa using z
    rw[this];exact me
  ·have hx':x∈cE s.1:=by
    have hx2:x∈cE (s.1++[(t.2,sp++[t.1])]):=hx;rw[Av] at hx2;rcases mem_append.mp hx2 with z | z
    ·exact z
    ·exact absurd (mem_append_right _ z) nx
   intro t' y hg;exact up (h.cl x hx' (fun z=>nx (mem_append_left _ z)) np t' y hg)
  ·rcases mem_append.mp hu with z | z
   ·exact up (h.t u z)
   ·have:u=t:=by simpa using z
    rw[this];exact me
theorem yT:∀(U T:List (Stp × Nat)) {s:WS × List Nat},WJ es b p T s->(∀t∈U,mX es t.1 p t.2)->WJ es b p (T++U) (U.foldl (inF p) s)
 | [],T,s,h,_=>by rw[append_nil];exact h
 |u :: U,T,s,h,g=>by
  have:=yT U (T++[u]) (Hv h (g u (by simp))) fun t ht=>g t (mem_cons_of_mem _ ht);rw[List.append_assoc] at this;exact this
theorem Ir (h:q≠[]):q.getLastD 0∈q/\q=q.dropLast++[q.getLastD 0]:=by
 have e:q.getLastD 0=q.getLast h:=by rw[getLastD_eq_getLast?,getLast?_eq_some_getLast h];rfl
 rw[e];exact⟨getLast_mem h,(dropLast_concat_getLast h).symm⟩
theorem uB (h:WI es b s)(hq:s.2≠[]):WJ es b (s.2.getLastD 0) [] (s.1,s.2.dropLast):=by
 obtain⟨m,e⟩:=Ir hq;refine⟨h.nd,h.kb,h.q _ m,h.pt,fun x hx=>h.q x (dropLast_subset _ hx),fun x hx nx np=>h.cl x hx fun z=>?_,fun t ht=>by cases ht⟩;rw[e] at z;rcases mem_append.mp z with z | z
 ·exact nx z
 ·exact np (by simpa using z)
theorem Xq (h:WJ es b p (stF es p) s):WI es b s:=by
 refine⟨h.nd,h.kb,h.pt,h.q,fun x hx nx t y hg=>?_⟩
 by_cases c:x=p
 ·subst c;rcases Qt hg with z | ⟨u,hu,e⟩
  ·rw[z];exact hx
  ·rw[<- e];exact h.t u hu
 ·exact h.cl x hx nx c t y hg
theorem Sy (h:WI es b s):WI es b (kP es s):=by
 unfold kP
 by_cases c:s.2=[]
 ·rw[if_pos c];exact h
 ·rw[if_neg c];have:=yT (stF es (s.2.getLastD 0)) [] (uB h c) fun t ht=>mC ht;rw[nil_append] at this;exact Xq this
theorem iG (es:List Br)(b:Nat):∀n,WI es b (cD es b n)
 |0=>Ni es b
 |n+1=>Sy (iG es b n)
def muF (s:WS × List Nat):Nat:=2*(20 - s.1.length)+s.2.length
structure Ptm (m:Nat) (es:List Br):Prop where
 p:∀e∈es,e.2.1 < m/\e.2.2 < m
theorem qi1 (h:Ptm m es)(hb:b < m){st:List Stp}(p:Pt es b st x pts):x < m:=by
 cases p with
 |nil=>exact hb
 |snoc _ g _=>
  obtain⟨u,v,he,g⟩:=g;have:=h.p _ he;rcases g with ⟨_,_,rfl⟩ | ⟨_,_,rfl⟩
  ·exact this.2
  ·exact this.1
theorem yS (h:Ptm m es)(hb:b < m)(pt:∀x st,(x,st)∈w->∃pts,Pt es b st x pts/\∀y∈pts,y∈cE w):∀x∈cE w,x < m:=fun x hx=>by
 obtain⟨st,e⟩:=mQ hx;obtain⟨pts,p,_⟩:=pt x st (gD e);exact qi1 h hb p
theorem Om (h:Ptm m es)(hb:b < m)(nd:(cE w).Nodup)(pt:∀x st,(x,st)∈w->∃pts,Pt es b st x pts/\∀y∈pts,y∈cE w):w.length<=m:=by
 have:=Hw nd (yS h hb pt);unfold cE at this
 rwa [length_map] at this
theorem qh8 (hm:Ptm m es)(hb:b < m)(h20:m<=20)(h:WJ es b p T s)(g:mX es t.1 p t.2):muF (inF p s t)<=muF s:=by
 have h':=Hv h g;have le:=Om hm hb h'.nd h'.pt;unfold inF at le ⊢
 by_cases c:t.2∈cE s.1
 ·rw[if_pos c];exact Nat.le_refl _
 ·rw[if_neg c] at le ⊢;unfold muF;simp only[List.length_append,length_cons,length_nil] at le ⊢;lia
theorem zJ (hm:Ptm m es)(hb:b < m)(h20:m<=20):∀(U T:List (Stp × Nat)) {s:WS × List Nat},WJ es b p T s->(∀t∈U,mX es t.1 p t.2)->muF (U.foldl (inF p) s)<=muF s
 | [],_,_,_,_=>Nat.le_refl _
 |u :: U,T,s,h,g=>Nat.le_trans (zJ hm hb h20 U (T++[u]) (Hv h (g u (by simp))) fun t ht=>g t (mem_cons_of_mem _ ht)) (qh8 hm hb h20 h (g u (by simp)))
theorem De (h:s.2≠[]):muF (s.1,s.2.dropLast)+1=muF s:=by
 have:0 < s.2.length:=length_pos_iff.mpr h;show 2*(20 - s.1.length)+s.2.dropLast.length+1=2*(20 - s.1.length)+s.2.length;rw[length_dropLast];lia
theorem Ja (hm:Ptm m es)(hb:b < m)(h20:m<=20)(h:WI es b s)(hq:s.2≠[]):muF (kP es s)+1<=muF s:=by
 unfold kP;rw[if_neg hq];have:=zJ hm hb h20 (stF es (s.2.getLastD 0)) [] (uB h hq) fun t ht=>mC ht;have e:=De hq;lia
theorem wU (h:(cD es b i).2=[]):∀n,cD es b (i+n)=cD es b i
 |0=>rfl
 |n+1=>by
  show kP es (cD es b (i+n))=_;rw[wU h n];unfold kP;rw[if_pos h]
theorem Tu (h:(cD es b i).2=[])(hi:i<=60):(cD es b 60).1=(cD es b i).1:=by
 have:=wU h (60 - i);rw[show i+(60 - i)=60 by lia] at this;rw[this]
theorem qJ (hm:Ptm m es)(hb:b < m)(h20:m<=20):∀n,(cD es b n).2=[]\/n+muF (cD es b n)<=39
 |0=>.inr (by show 0+(2*(20 - 1)+1)<=39;lia)
 |n+1=>by
  by_cases c:(cD es b n).2=[]
  ·refine .inl ?_;show (kP es (cD es b n)).2=[]
   unfold kP;rw[if_pos c];exact c
  ·rcases qJ hm hb h20 n with z | z
   ·exact absurd z c
   ·have:=Ja hm hb h20 (iG es b n) c;refine .inr ?_;show n+1+muF (kP es (cD es b n))<=39;lia
theorem Bi (hm:Ptm m es)(hb:b < m)(h20:m<=20):(cD es b 60).2=[]:=by
 rcases qJ hm hb h20 60 with z | z
 ·exact z
 ·lia
def rJ (es:List Br):List RD:=es.map fun e=>(.pc,(e.2.1:Int),(e.2.2:Int),(0,1))
theorem vS (h:Ptm m es):∀d∈rJ es,cX (m:Int) d.2.1 d.2.2.1:=fun d hd=>by
 obtain⟨e,he,rfl⟩:=mem_map.mp hd;have:=h.p e he;exact⟨by show (0:Int)<=(e.2.1:Int);lia,by show ((e.2.1:Nat):Int) < m;lia,by show (0:Int)<=(e.2.2:Int);lia,by show ((e.2.2:Nat):Int) < m;lia⟩
theorem Uy (h:Ptm m es)(g:mX es s p q):mk m (rJ es) q=mk m (rJ es) p:=by
 obtain⟨u,v,he,g⟩:=g;have e:=tD _ (rJ es) rfl (vS h) (.pc,(u:Int),(v:Int),(0,1)) (mem_map.mpr ⟨_,he,rfl⟩) (by intro z;cases z);rw[Int.toNat_natCast,Int.toNat_natCast] at e;rcases g with ⟨_,rfl,rfl⟩ | ⟨_,rfl,rfl⟩
 ·exact e.symm
 ·exact e
theorem qe4 (h:Ptm m es){st:List Stp}(p:Pt es b st x pts):mk m (rJ es) x=mk m (rJ es) b:=by
 induction p with
 |nil=>rfl
 |snoc _ g _ ih=>rw[Uy h g,ih]
theorem Td (h:Ptm m es)(h20:m<=20)(hb:b < m)(he:e < m):(kS es b e).isSome=true↔mk m (rJ es) e=mk m (rJ es) b:=by
 have wi:=iG es b 60;have q0:=Bi h hb h20;unfold kS;rw[Nt];refine Lu (vS h) hb wi.kb (fun p hp=>⟨yS h hb wi.pt p hp,?_⟩) (fun d hd _=>?_) he
 ·obtain⟨st,e'⟩:=mQ hp;obtain⟨pts,pp,_⟩:=wi.pt p st (gD e');exact qe4 h pp
 ·obtain⟨a,ha,rfl⟩:=mem_map.mp hd;show ((a.2.1:Int).toNat∈_↔(a.2.2:Int).toNat∈_);rw[Int.toNat_natCast,Int.toNat_natCast];exact⟨fun z=>wi.cl _ z (by rw[q0];simp) (a.1,1) _ ⟨a.2.1,a.2.2,ha,.inl ⟨rfl,rfl,rfl⟩⟩,fun z=>wi.cl _ z (by rw[q0];simp) (a.1,-1) _ ⟨a.2.1,a.2.2,ha,.inr ⟨rfl,rfl,rfl⟩⟩⟩
structure uC (es:List Br) (b e:Nat) (st:List Stp) (pts:List Nat):Prop where
 l:pts.length=st.length+1
 hb:pts[0]?=some b
 he:pts[st.length]?=some e
 g:∀i s,st[i]?=some s->∃p q,pts[i]?=some p/\pts[i+1]?=some q/\mX es s p q
 n:(st.map (·.1)).Nodup
theorem Vo {st:List Stp}(p:Pt es b st x pts):∀s∈st,∃y z,y∈pts/\z∈pts/\mX es s y z:=by
 induction p with
 |nil=>intro s h;cases h
 | @snoc st p q pts s h g n ih=>
  intro t ht;rcases mem_append.mp ht with z | z
  ·obtain⟨y,z',h1,h2,h3⟩:=ih t z;exact⟨y,z',mem_append_left _ h1,mem_append_left _ h2,h3⟩
  ·have:t=s:=by simpa using z
   subst this;refine⟨p,q,mem_append_left _ ?_,by simp,g⟩
   cases h with
   |nil=>simp
   |snoc _ _ _=>simp
theorem Lg {st:List Stp}(ne:(es.map (·.1)).Nodup)(p:Pt es b st x pts):uC es b x st pts:=by
 induction p with
 |nil=>exact⟨rfl,rfl,rfl,fun i s h=>by simp at h,by simp⟩
 | @snoc st p q pts s h g n ih=>
  have l:=ih.l;refine⟨by rw[List.length_append,List.length_append,l];rfl,?_,?_,fun i t ht=>?_,?_⟩
  ·rw[getElem?_append_left (by lia)];exact ih.hb
  ·rw[List.length_append,getElem?_append_right (by simp;lia)];simp only[length_cons,length_nil];rw[show st.length+(0+1) - pts.length=0 by lia];rfl
  ·by_cases c:i < st.length
   ·rw[getElem?_append_left c] at ht;obtain⟨y,z,h1,h2,h3⟩:=ih.g i t ht;exact⟨y,z,by rw[getElem?_append_left (by lia)];exact h1,by rw[getElem?_append_left (by lia)];exact h2,h3⟩
   ·have hi:i=st.length:=by
     have:=(List.getElem?_eq_some_iff.mp ht).1;simp only[List.length_append,length_cons,length_nil] at this;lia
    subst hi;rw[getElem?_append_right (Nat.le_refl _),Nat.sub_self] at ht;have:s=t:=by simpa using ht
    subst this;refine⟨p,q,by rw[getElem?_append_left (by lia)];exact ih.he,?_,g⟩;rw[getElem?_append_right (by lia),show st.length+1 - pts.length=0 by lia];rfl
  ·rw[map_append,nodup_append];refine⟨ih.n,by simp,fun a ha c hc z=>?_⟩;have hc:c=s.1:=by simpa using hc
   obtain⟨t,ht,et⟩:=mem_map.mp ha;obtain⟨y,w,h1,h2,u',v',he',g'⟩:=Vo h t ht;obtain⟨u,v,he,g⟩:=g;have same:(t.1,u',v')=(s.1,u,v):=by
    have key:∀{l:List Br},(l.map (·.1)).Nodup->∀{a c:Br},a∈l->c∈l->a.1=c.1->a=c:=fun {l}=>by
     induction l with
     |nil=>intro _ a c h;cases h
     |cons x l ih=>
      intro nd a c ha hc e;rw[map_cons,nodup_cons] at nd;rcases mem_cons.mp ha with rfl | z1<;>rcases mem_cons.mp hc with rfl | z2
      ·rfl
      ·exact absurd (mem_map.mpr ⟨c,z2,e.symm⟩) nd.1
      ·exact absurd (mem_map.mpr ⟨a,z1,e⟩) nd.1
      ·exact ih nd.2 z1 z2 e
    exact key ne he' he (by show t.1=s.1;rw[et,z,hc])
   have e1:u'=u:=by injection same with _ e;injection e
   have e2:v'=v:=by injection same with _ e;injection e
   subst e1;subst e2;rcases g with ⟨_,rfl,rfl⟩ | ⟨_,rfl,rfl⟩<;>rcases g' with ⟨_,rfl,rfl⟩ | ⟨_,rfl,rfl⟩
   ·exact n h2
   ·exact n h1
   ·exact n h1
   ·exact n h2
theorem Kq {st:List Stp}(ne:(es.map (·.1)).Nodup)(h:kS es b e=some st):∃pts,uC es b e st pts:=by
 obtain⟨pts,p,_⟩:=(iG es b 60).pt e st (gD h);exact⟨pts,Lg ne p⟩
theorem xG {st:List Stp}(hm:Ptm m es)(hb:b < m)(h:kS es b e=some st):st.length < m:=by
 obtain⟨pts,p,k⟩:=(iG es b 60).pt e st (gD h);have l:pts.length=st.length+1:=by
  clear h
  induction p with
  |nil=>rfl
  |snoc h g n ih=>rw[List.length_append,List.length_append,ih fun y hy=>k y (mem_append_left _ hy)];rfl
 have nd:pts.Nodup:=by
  clear h k l
  induction p with
  |nil=>simp
  |snoc h g n ih=>
   rw[nodup_append];refine⟨ih,by simp,fun x hx y hy z=>n ?_⟩;rw[mem_singleton] at hy;rw[<- hy,<- z];exact hx
 have:=Hw nd fun y hy=>yS hm hb (iG es b 60).pt y (k y hy);lia
abbrev Sk:=Kd × Nat × Nat
def skl (ds:List RD):List Sk:=ds.map fun d=>(d.1,d.2.1.toNat,d.2.2.1.toNat)
abbrev RS:=List Br × List (Nat × List Stp)
def gJ (W:Kd->Bool)(s:RS)(k:Nat)(d:Sk):RS:=if W d.1 then (match kS s.1 d.2.2 d.2.1 with
 |none=>(s.1++[(k,d.2.1,d.2.2)],s.2)
 |some st=>(s.1,s.2++[(k,(k,1) :: st)])) else s
def dE (W:Kd->Bool)(sk:List Sk):Nat->RS
 |0=>([],[])
 |n+1=>match sk[n]? with
  |none=>dE W sk n
  |some d=>gJ W (dE W sk n) n d
theorem gO (h:sk[n]?=some d):dE W sk (n+1)=gJ W (dE W sk n) n d:=by
 show (match sk[n]? with | none=>dE W sk n | some d=>gJ W (dE W sk n) n d)=_;rw[h]
structure RI (W:Kd->Bool) (sk:List Sk) (m n:Nat) (s:RS):Prop where
 pt:Ptm m s.1
 nd:(s.1.map (·.1)).Nodup
 lt:∀e∈s.1,e.1 < n
 at_:∀e∈s.1,∃k,sk[e.1]?=some (k,e.2.1,e.2.2)
 rl:s.2.length<=n
 r:∀c∈s.2,c.1 < n/\∃k u v st pts,sk[c.1]?=some (k,u,v)/\c.2=(c.1,1) :: st/\(∀t∈st,t.1 < c.1/\t.1∈s.1.map (·.1))/\uC s.1 v u st pts/\st.length < m
theorem uC.mono {st:List Stp}(h:uC es b e st pts)(hs:∀x∈es,x∈es'):uC es' b e st pts:=
 { h with g:=fun i s hi=>let ⟨p,q,h1,h2,u,v,h3,h4⟩:=h.g i s hi;⟨p,q,h1,h2,u,v,hs _ h3,h4⟩ }
theorem Qa {st:List Stp}(h:uC es b e st pts):∀t∈st,t.1∈es.map (·.1):=fun t ht=>by
 obtain⟨i,hi⟩:=getElem?_of_mem ht;obtain⟨p,q,_,_,u,v,h3,_⟩:=h.g i t hi;exact mem_map.mpr ⟨_,h3,rfl⟩
theorem jY (hm:∀d∈sk,d.2.1 < m/\d.2.2 < m):∀n,n<=sk.length->RI W sk m n (dE W sk n)
 |0,_=>⟨⟨fun e h=>(by cases h)⟩,(by show ([]:List Nat).Nodup;simp),fun e h=>(by cases h),fun e h=>(by cases h),Nat.le_refl _,fun c h=>(by cases h)⟩
 |n+1,hn=>by
  have ih:=jY (W:=W) hm n (by lia);have hd:sk[n]?=some sk[n]:=getElem?_eq_getElem (by lia);rw[gO hd];have pm:=hm _ (mem_of_getElem? hd);generalize sk[n]=d at hd pm;generalize dE W sk n=s at ih;unfold gJ
  by_cases hw:W d.1=true
  ·rw[if_pos hw]
   cases hy:kS s.1 d.2.2 d.2.1 with
   |none=>
    show RI W sk m (n+1) (s.1++[(n,d.2.1,d.2.2)],s.2);refine⟨⟨fun e he=>?_⟩,?_,fun e he=>?_,fun e he=>?_,by have:=ih.rl;show s.2.length<=n+1;lia,fun c hc=>?_⟩
    ·rcases mem_append.mp he with z | z
     ·exact ih.pt.p e z
     ·have:e=(n,d.2.1,d.2.2):=by simpa using z
      rw[this];exact pm
    ·show ((s.1++[(n,d.2.1,d.2.2)]).map (·.1)).Nodup;rw[map_append,nodup_append];refine⟨ih.nd,by simp,fun x hx y hy z=>?_⟩;have:y=n:=by simpa using hy
     obtain⟨e,he,ee⟩:=mem_map.mp hx;have:=ih.lt e he;lia
    ·rcases mem_append.mp he with z | z
     ·have:=ih.lt e z;lia
     ·have:e=(n,d.2.1,d.2.2):=by simpa using z
      rw[this];exact Nat.lt_succ_self n
    ·rcases mem_append.mp he with z | z
     ·exact ih.at_ e z
     ·have:e=(n,d.2.1,d.2.2):=by simpa using z
      rw[this];exact⟨d.1,hd⟩
    ·obtain⟨h1,k,u,v,st,pts,h2,h3,h4,h5,h6⟩:=ih.r c hc;refine⟨by lia,k,u,v,st,pts,h2,h3,fun t ht=>⟨(h4 t ht).1,?_⟩,h5.mono fun x hx=>mem_append_left _ hx,h6⟩;show t.1∈(s.1++[(n,d.2.1,d.2.2)]).map (·.1);rw[map_append];exact mem_append_left _ (h4 t ht).2
   |some st=>
    show RI W sk m (n+1) (s.1,s.2++[(n,(n,1) :: st)]);refine⟨ih.pt,ih.nd,fun e he=>Nat.lt_succ_of_lt (ih.lt e he),ih.at_,by have:=ih.rl;show (s.2++[(n,(n,1) :: st)]).length<=n+1;rw[List.length_append];simp only[length_cons,length_nil];lia,fun c hc=>?_⟩;rcases mem_append.mp hc with z | z
    ·obtain⟨h1,r⟩:=ih.r c z;exact⟨by lia,r⟩
    ·have:c=(n,(n,1) :: st):=by simpa using z
     subst this;obtain⟨pts,ch⟩:=Kq ih.nd hy;refine⟨Nat.lt_succ_self n,d.1,d.2.1,d.2.2,st,pts,hd,rfl,fun t ht=>?_,ch,xG ih.pt pm.2 hy⟩;have ti:=Qa ch t ht;obtain⟨e,he,ee⟩:=mem_map.mp ti;have:=ih.lt e he;exact⟨by show t.1 < n;lia,ti⟩
  ·rw[if_neg hw];exact⟨ih.pt,ih.nd,fun e he=>Nat.lt_succ_of_lt (ih.lt e he),ih.at_,by have:=ih.rl;lia,fun c hc=>let ⟨h1,r⟩:=ih.r c hc;⟨by lia,r⟩⟩
theorem SqT.updD {K:Frag}(h:SqT K H a xs)(hl:H l=some (.dK kvs)):SqT K (L2.upd H l o) a xs:=by
 rcases h with (h | ⟨u,h⟩) | h
 ·exact .inl (.inl (by rw[aY (dL h hl (fun z=>by cases z))];exact h))
 ·exact .inl (.inr ⟨u,by rw[aY (dL h hl (fun z=>by cases z))];exact h⟩)
 ·exact .inr h
inductive Sts (K:Frag) (H:Hp):List V->List Stp->Prop where
 |nil:Sts K H [] []
 |cons {t:Addr} {n:Nat} {w:Int} {xs:List V} {st:List Stp} (h:SqT K H t [.int (n:Int),.int w]) (q:Sts K H xs st):Sts K H (.ref t :: xs) ((n,w) :: st)
section
variable {K:Frag} {H H':Hp}
theorem Sts.same (e:aZ H H'):∀{xs:List V} {st:List Stp},Sts K H xs st->Sts K H' xs st
 |_,_,.nil=>.nil
 |_,_,.cons h q=>.cons (e.seqT h) (Sts.same e q)
theorem Sts.length:∀{xs:List V} {st:List Stp},Sts K H xs st->xs.length=st.length
 |_,_,.nil=>rfl
 |_,_,.cons _ q=>by simp[Sts.length q]
theorem Sts.app:∀{xs ys:List V} {st su:List Stp},Sts K H xs st->Sts K H ys su->Sts K H (xs++ys) (st++su)
 |_,_,_,_,.nil,r=>r
 |_,_,_,_,.cons h q,r=>.cons h (Sts.app q r)
theorem Sts.get:∀{xs:List V} {st:List Stp} {i:Nat} {x:V},Sts K H xs st->xs[i]?=some x->∃t s,x=.ref t/\st[i]?=some s/\SqT K H t [.int (s.1:Int),.int s.2]
 |_,_,_,_,.nil,h=>by simp at h
 |_,_,0,_,.cons h _,e=>by simp at e;subst e;exact⟨_,_,rfl,rfl,h⟩
 |_,_,i+1,_,.cons _ q,e=>by simpa using Sts.get q (by simpa using e)
theorem Sts.upd (hl:H l=some (.lst ys)):∀{xs:List V} {st:List Stp},Sts K H xs st->Sts K (L2.upd H l o) xs st
 |_,_,.nil=>.nil
 |_,_,.cons h q=>.cons (SqT.upd h hl) (Sts.upd hl q)
theorem Sts.updD (hl:H l=some (.dK kvs)):∀{xs:List V} {st:List Stp},Sts K H xs st->Sts K (L2.upd H l o) xs st
 |_,_,.nil=>.nil
 |_,_,.cons h q=>.cons (SqT.updD h hl) (Sts.updD hl q)
end
inductive Sds (K:Frag) (H:Hp):List V->List (Stp × Nat)->Prop where
 |nil:Sds K H [] []
 |cons {t s:Addr} {n x:Nat} {w:Int} {xs:List V} {st:List (Stp × Nat)} (h:SqT K H t [.ref s,.int (x:Int)]) (g:SqT K H s [.int (n:Int),.int w]) (q:Sds K H xs st):Sds K H (.ref t :: xs) (((n,w),x) :: st)
section
variable {K:Frag} {H H':Hp}
theorem Sds.same (e:aZ H H'):∀{xs:List V} {st:List (Stp × Nat)},Sds K H xs st->Sds K H' xs st
 |_,_,.nil=>.nil
 |_,_,.cons h g q=>.cons (e.seqT h) (e.seqT g) (Sds.same e q)
theorem Sds.length:∀{xs:List V} {st:List (Stp × Nat)},Sds K H xs st->xs.length=st.length
 |_,_,.nil=>rfl
 |_,_,.cons _ _ q=>by simp[Sds.length q]
theorem Sds.app:∀{xs ys:List V} {st su:List (Stp × Nat)},Sds K H xs st->Sds K H ys su->Sds K H (xs++ys) (st++su)
 |_,_,_,_,.nil,r=>r
 |_,_,_,_,.cons h g q,r=>.cons h g (Sds.app q r)
theorem Sds.get:∀{xs:List V} {st:List (Stp × Nat)} {i:Nat} {x:V},Sds K H xs st->xs[i]?=some x->∃t u s,x=.ref t/\st[i]?=some s/\SqT K H t [.ref u,.int (s.2:Int)]/\SqT K H u [.int (s.1.1:Int),.int s.1.2]
 |_,_,_,_,.nil,h=>by simp at h
 |_,_,0,_,.cons h g _,e=>by simp at e;subst e;exact⟨_,_,_,rfl,rfl,h,g⟩
 |_,_,i+1,_,.cons _ _ q,e=>by simpa using Sds.get q (by simpa using e)
theorem Sds.upd (hl:H l=some (.lst ys)):∀{xs:List V} {st:List (Stp × Nat)},Sds K H xs st->Sds K (L2.upd H l o) xs st
 |_,_,.nil=>.nil
 |_,_,.cons h g q=>.cons (SqT.upd h hl) (SqT.upd g hl) (Sds.upd hl q)
theorem Sds.updD (hl:H l=some (.dK kvs)):∀{xs:List V} {st:List (Stp × Nat)},Sds K H xs st->Sds K (L2.upd H l o) xs st
 |_,_,.nil=>.nil
 |_,_,.cons h g q=>.cons (SqT.updD h hl) (SqT.updD g hl) (Sds.updD hl q)
end
inductive Wys (K:Frag) (H0:Hp) (W:Addr) (H:Hp):List (Key × V)->WS->Prop where
 |nil:Wys K H0 W H [] []
 |cons {a:Addr} {x:Nat} {xs:List V} {st:List Stp} {kvs:List (Key × V)} {w:WS} (n:H0 a=none) (nw:a≠W) (h:H a=some (.lst xs)) (f:Sts K H xs st) (q:Wys K H0 W H kvs w):Wys K H0 W H ((Sum.inl (x:Int),.ref a) :: kvs) ((x,st) :: w)
section
variable {K:Frag} {H0 H H':Hp} {W:Addr}
theorem Wys.same (e:aZ H H'):∀{kvs:List (Key × V)} {w:WS},Wys K H0 W H kvs w->Wys K H0 W H' kvs w
 |_,_,.nil=>.nil
 |_,_,.cons n nw h f q=>.cons n nw (e _ _ h) (f.same e) (Wys.same e q)
theorem Wys.updW (hl:H W=some (.lst ys)):∀{kvs:List (Key × V)} {w:WS},Wys K H0 W H kvs w->Wys K H0 W (L2.upd H W o) kvs w
 |_,_,.nil=>.nil
 |_,_,.cons n nw h f q=>.cons n nw (by rw[aY nw];exact h) (f.upd hl) (Wys.updW hl q)
theorem Wys.updD (hl:H D=some (.dK kv)):∀{kvs:List (Key × V)} {w:WS},Wys K H0 W H kvs w->Wys K H0 W (L2.upd H D o) kvs w
 |_,_,.nil=>.nil
 |_,_,.cons n nw h f q=>.cons n nw (by rw[aY (dL h hl (fun z=>by cases z))];exact h) (f.updD hl) (Wys.updD hl q)
theorem Wys.length:∀{kvs:List (Key × V)} {w:WS},Wys K H0 W H kvs w->kvs.length=w.length
 |_,_,.nil=>rfl
 |_,_,.cons _ _ _ _ q=>by simp[Wys.length q]
theorem Wys.snoc {x:Nat}{st:List Stp}(n:H0 a=none)(nw:a≠W)(h:H a=some (.lst xs))(f:Sts K H xs st):∀{kvs:List (Key × V)} {w:WS},Wys K H0 W H kvs w->Wys K H0 W H (kvs++[(Sum.inl (x:Int),.ref a)]) (w++[(x,st)])
 |_,_,.nil=>.cons n nw h f .nil
 |_,_,.cons n' nw' h' f' q=>.cons n' nw' h' f' (Wys.snoc n nw h f q)
theorem Wys.none_:∀{kvs:List (Key × V)} {w:WS},Wys K H0 W H kvs w->p∉cE w->oK kvs (Sum.inl (p:Int))=none/\(kvs.any fun kv=>decide (kv.1=Sum.inl (p:Int)))=false
 |_,_,.nil,_=>⟨rfl,rfl⟩
 |_,_,.cons (x:=x) (kvs:=kvs) (w:=w) n nw h f q,hp=>by
  have hx:x≠p:=fun z=>hp (by rw[<- z];exact mem_cons_self ..);obtain⟨h1,h2⟩:=Wys.none_ q fun z=>hp (mem_cons_of_mem _ z);refine⟨by rw[mB (fun z=>hx (Int.ofNat.inj (Sum.inl.inj z)))];exact h1,?_⟩;rw[any_cons,h2];have e:decide ((Sum.inl (x:Int):Key)=Sum.inl (p:Int))=false:=decide_eq_false fun z=>hx (Int.ofNat.inj (Sum.inl.inj z));show (decide ((Sum.inl (x:Int):Key)=Sum.inl (p:Int)) || false)=false;rw[e];rfl
theorem Wys.some_:∀{kvs:List (Key × V)} {w:WS},Wys K H0 W H kvs w->p∈cE w->∃a xs st,oK kvs (Sum.inl (p:Int))=some (.ref a)/\oJ w p=some st/\H0 a=none/\a≠W/\H a=some (.lst xs)/\Sts K H xs st
 |_,_,.nil,h=>by cases h
 |_,_,.cons (a:=a) (x:=x) (xs:=xs) (st:=st) (kvs:=kvs) (w:=w) n nw h f q,hp=>by
  by_cases c:x=p
  ·subst c;exact⟨a,xs,st,by rw[oZ rfl],by unfold oJ;rw[if_pos rfl],n,nw,h,f⟩
  ·have hp':p∈cE w:=by
    rcases mem_cons.mp hp with z | z
    ·exact absurd z.symm c
    ·exact z
   obtain⟨a',xs',st',h1,h2,r⟩:=Wys.some_ q hp';exact⟨a',xs',st',by rw[mB (fun z=>c (Int.ofNat.inj (Sum.inl.inj z)))];exact h1,by unfold oJ;rw[if_neg c];exact h2,r⟩
theorem Wys.isSome {p:Nat}(h:Wys K H0 W H kvs w):(oK kvs (Sum.inl (p:Int))).isSome=decide (p∈cE w):=by
 by_cases c:p∈cE w
 ·obtain⟨a,xs,st,e,_⟩:=h.some_ c;rw[e,decide_eq_true c];rfl
 ·rw[(h.none_ c).1,decide_eq_false c];rfl
end
structure Rgs (K:Frag) (H0 H:Hp) (us:List V) (X:List (List Stp)):Prop where
 l:us.length=X.length
 r:∀(i:Nat) (x:V) (st:List Stp),us[i]?=some x->X[i]?=some st->∃(a:Addr) (xs:List V),x=.ref a/\H0 a=none/\H a=some (.lst xs)/\Sts K H xs st
theorem Rgs.nil {K:Frag}:Rgs K H0 H [] []:=⟨rfl,fun i x st h=>by simp at h⟩
theorem Rgs.same {K:Frag}(e:aZ H H')(f:Rgs K H0 H us X):Rgs K H0 H' us X:=⟨f.l,fun i x st h1 h2=>let ⟨a,xs,e1,n,h,s⟩:=f.r i x st h1 h2;⟨a,xs,e1,n,e _ _ h,s.same e⟩⟩
theorem Rgs.snoc {K:Frag}{st:List Stp}(f:Rgs K H0 H us X)(n:H0 a=none)(h:H a=some (.lst xs))(s:Sts K H xs st):Rgs K H0 H (us++[.ref a]) (X++[st]):=by
 refine⟨by rw[List.length_append,List.length_append,f.l];rfl,fun i x qs h1 h2=>?_⟩;have l:=f.l
 by_cases c:i < us.length
 ·rw[getElem?_append_left c] at h1;rw[getElem?_append_left (by lia)] at h2;exact f.r i x qs h1 h2
 ·have hi:i=us.length:=by
   have:=(List.getElem?_eq_some_iff.mp h1).1;rw[List.length_append] at this;simp only[length_cons,length_nil] at this;lia
  subst hi;rw[getElem?_append_right (Nat.le_refl _),Nat.sub_self] at h1;rw[getElem?_append_right (by lia),show us.length - X.length=0 by lia] at h2
  cases h1
  cases h2
  exact⟨a,xs,rfl,n,h,s⟩
theorem Rgs.updO {K:Frag}{l:Addr}(f:Rgs K H0 H us X)(hl:H l=some (.lst ys))(n:∀x∈us,x≠.ref l):Rgs K H0 (upd H l o) us X:=⟨f.l,fun i x st h1 h2=>let ⟨a,xs,e1,n1,h,s⟩:=f.r i x st h1 h2;⟨a,xs,e1,n1,by rw[aY (fun z=>n x (mem_of_getElem? h1) (by rw[e1,z]))];exact h,s.upd hl⟩⟩
def Ye (ds:List RD)(es:List Br):Prop:=∀e∈es,∃d,ds[e.1]?=some d/\d.2.1=(e.2.1:Int)/\d.2.2.1=(e.2.2:Int)
inductive Ad (K:Frag) (CK:Kd->Addr) (vs:List V) (H:Hp) (Q:VK) (E:XK):Prop where
 |mk (a b:Addr) (xs:List V) (ds:List RD) (es:List Br) (p:Nat):vs=[.ref a,.ref b,.int (p:Int)]->SqL K H a xs->hV CK K H xs ds->(SqL K H b (es.map fun e=>V.int (e.1:Int)))->Ye ds es->es.length<=100->(∀l ys H',aZ H H'->H l=none->H' l=some (.lst ys)->Sds K H' ys (stF es p)->Q (.ref l) H')->Ad K CK vs H Q E
inductive Nd (K:Frag) (CK:Kd->Addr) (vs:List V) (H:Hp) (Q:VK) (E:XK):Prop where
 |mk (a b:Addr) (xs:List V) (ds:List RD) (es:List Br) (m f t:Nat):vs=[.ref a,.ref b,.int (f:Int),.int (t:Int)]->SqL K H a xs->hV CK K H xs ds->(SqL K H b (es.map fun e=>V.int (e.1:Int)))->Ye ds es->es.length<=100->Ptm m es->m<=20->f < m->(kS es f t=none->∀H',aZ H H'->Q .non H')->(∀st,kS es f t=some st->∀l ys H',aZ H H'->H l=none->H' l=some (.lst ys)->Sts K H' ys st->Q (.ref l) H')->Nd K CK vs H Q E
inductive Wds (K:Frag) (H:Hp):V->(Kd->Bool)->Prop where
 |non:Wds K H .non (fun k=>decide (k≠.pu))
 |seq {a:Addr} {ws:List V} (h:SqL K H a ws) (f:ws.all jJ=true):Wds K H (.ref a) (fun k=>inV (.str k.wd) ws)
inductive rT (CN:Addr) (K:Frag) (vs:List V) (H:Hp) (Q:VK) (E:XK):Prop where
 |mk (n l:Addr) (v:V) (m:Nat) (ds:List RD) (W:Kd->Bool):vs=[.ref n,v]->dF CN K H n l (m:Int) ds->(∀d∈ds,cX (m:Int) d.2.1 d.2.2.1)->m<=20->ds.length<=40->Wds K H v W->(∀r us H',aZ H H'->H r=none->H' r=some (.lst us)->Rgs K H H' us ((dE W (skl ds) ds.length).2.map (·.2))->(∀x∈us,x≠.ref r)->Q (.ref r) H')->rT CN K vs H Q E
end L2
namespace Mq
def KJ (m:Nat)(A1:Mat)(R:List (List Int)):Prop:=∀Φ,Lin Φ->(∀i,i < m->Φ (A1 i)=0)->∀k,k < m->Φ (at2 R k)=0
theorem KJ.swap (h:KJ m A1 R)(hl:R.length=m)(hp:p < m)(hr:r < m):KJ m A1 (fQ R p r):=fun Φ lin hz k hk=>by
 have e:at2 (fQ R p r) k=at2 R (sw p r k):=by
  funext x
  rw[qQ (by lia) (by lia)]
 rw[e];exact h Φ lin hz _ (zM hp hr hk)
theorem KJ.clear (h:KJ m A1 R)(s:SI m w A0 R r col d sg)(hr:r < m)(hc:col < w)(he:ent R r col≠0):KJ m A1 (cN R r col d):=fun Φ lin hz k hk=>by
 have cl:=fun (x:Nat)=>rW s hr hc he hk x;have z:=h Φ lin hz
 by_cases e:k=r
 ·have e2:at2 (cN R r col d) k=at2 R k:=by funext x;rw[cl x,if_pos e]
  rw[e2];exact z k hk
 ·have e2:at2 (cN R r col d) k=fun x=>(fun x=>(at2 R r col / (d:Rat))*at2 R k x) x+(-(at2 R k col / (d:Rat)))*at2 R r x:=by
   funext x
   show _=(at2 R r col / (d:Rat))*at2 R k x+_;rw[cl x,if_neg e];grind
  rw[e2,lin,lin.mul,z k hk,z r hr];grind
theorem KJ.whole (h:KJ m A1 R)(s:SI m w A0 R m m d sg){v:Nat->Rat}(hv:∀i,i < m->(rs m fun k=>A1 i k*v k)=A1 i m)(hk:k < m):at2 R k m / (d:Rat)=v k:=by
 obtain⟨A,c,B,e⟩:=s.bar;have dn:=B.dne;have:=h (fun f=>(rs m fun k=>f k*v k) - f m) (fun x y l=>by
  have:(rs m fun k=>(x k+l*y k)*v k)=(rs m fun k=>x k*v k+l*(y k*v k)):=aP fun k _=>by grind
  show (rs m fun k=>(x k+l*y k)*v k) - (x m+l*y m)=((rs m fun k=>x k*v k) - x m)+l*((rs m fun k=>y k*v k) - y m)
  rw[this,dC,dW];grind) (fun i hi=>by
  show (rs m fun k=>A1 i k*v k) - A1 i m=0;rw[hv i hi];grind) k hk
 have e1:(rs m fun j=>at2 R k j*v j)=rs m fun j=>if j=k then (d:Rat)*v k else 0:=aP fun j hj=>by
  have i2:=B.i2 k j hk hj;rw[B.full rfl j hj] at i2;rw[i2]
  by_cases z:j=k
  ·rw[if_pos z,if_pos z,z]
  ·rw[if_neg z,if_neg z];grind
 have e2:(rs m fun j=>at2 R k j*v j) - at2 R k m=0:=this;rw[e1,lL m k _ hk] at e2;grind
end Mq
namespace Shp
open PySem L2
theorem Oa:Stp m w A0 (fun R=>Mq.KI m A1 R/\Mq.KJ m A1 R):=
 ⟨fun R r col d sg p s h1 h2 h=>⟨h.1.swap s.len h2 (by lia),h.2.swap s.len h2 (by lia)⟩,fun R r col d sg s h1 h2 h3 h=>⟨h.1.clear s h1 h2 h3,h.2.clear s h1 h2 h3⟩⟩
theorem qd3 (hX:fZ X)(hq:Mq.Pos qs)(hl:qs.length=X.length)(hw:∀row∈X,row.length=X.length)(h:Mq.KJ X.length (Mq.at2 (iL X qs)) R)(s:SI X.length w (Mq.at2 (iL X qs)) R X.length X.length d sg){v:Nat->Rat}(hv:∀i,i < X.length->(Mq.rs X.length fun j=>qK X i j*v j)=Mq.val (qs.getD i Mq.z0))(hk:k < X.length):Mq.at2 R k X.length / (d:Rat)=v k:=by
 refine h.whole s (fun i hi=>?_) hk;rw[vK hX hq hl hw hi (by lia),if_neg (by lia),<- hv i hi,<- dW];refine aP fun k hk=>?_;rw[vK hX hq hl hw hi (by lia),if_pos hk];grind
structure Zy (X:List (List Q2)) (qs ps:List Q2):Prop extends Slv X qs ps where
 uni:∀v:Nat->Rat,(∀i,i < X.length->(Mq.rs X.length fun j=>qK X i j*v j)=Mq.val (qs.getD i Mq.z0))->∀j,j < X.length->Mq.val (ps.getD j Mq.z0)=v j
end Shp
namespace Mq
theorem Wb.rs5 (hK:K<=32)(h:∀k,k < K->Wb n (f k)):Wb (n+5) (Mq.rs K f):=by
 obtain⟨z,e,b⟩:=Xb K h;refine⟨z,e,?_⟩;have p:2 ^ (n+5)=32*2 ^ n:=by rw[Nat.pow_add];lia
 have q:K*2 ^ n<=32*2 ^ n:=Nat.mul_le_mul_right _ hK;have r:0 < 2 ^ n:=Nat.two_pow_pos n;show z.natAbs < 2 ^ (n+5)
 by_cases k0:K=0
 ·subst k0;lia
 ·lia
theorem zO:∀(r:Nat) (M:Mat),r<=32->(∀i j,i < r->Wb n (M i j))->Wb ((n+5)*r+1) (det r M)
 |0,_,_,_=>Wb.one
 |r+1,M,hr,h=>by
  rw[fV];have:=Wb.rs5 (n:=n+((n+5)*r+1)) (K:=r+1) (f:=fun j=>sgn (r+j)*M r j*det r fun i k=>M i (skip j k)) hr fun j _=>((h r j (by lia)).sgn _).mul (zO r _ (by lia) fun i k hi=>h i _ (by lia));exact this.mono (by rw[Nat.mul_succ];lia)
section
variable {m:Nat} {A E:Mat} {r col:Nat} {d:Rat} {c:Nat->Nat} {n:Nat}
theorem Bar.wd5 (h:Bar m A E r col d c)(hA:∀i x,i < m->Wb n (A i x))(hm:m<=31):Wb ((n+5)*r+1) d:=by
 have rm:=h.rm;rw[<- h.i5];exact zO r _ (by lia) fun i j hi=>hA i _ (by lia)
theorem Bar.wtop5 (h:Bar m A E r col d c)(hA:∀i x,i < m->Wb n (A i x))(hm:m<=31)(hk:k < r)(x:Nat):Wb ((n+5)*r+7) (E k x):=by
 have rm:=h.rm;have hd:=h.dne
 by_cases hx:∃j,j < r/\x=c j
 ·obtain⟨j,hj,rfl⟩:=hx;rw[h.i2 k j hk hj];split
  ·exact(h.wd5 hA hm).mono (by lia)
  ·exact Wb.zero _
 ·let c2:Nat->Nat:=fun j=>if j=r then x else c j
  let u:Nat->Rat:=fun j=>if j=c k then 1 else 0
  have hΦ:=Ie r A c2;have z:=h.i6 _ hΦ (fun s hs=>Ht r A c2 hs) k hk;have eu:u=fun y=>(fun y=>u y+(-(1 / d))*E k y) y+(1 / d)*E k y:=by
   funext y
   show u y=u y+(-(1 / d))*E k y+(1 / d)*E k y;grind
  have fb:=Aj r A c2 (fun y=>u y+(-(1 / d))*E k y) fun j hj=>by
   have ec:c2 j=c j:=by show (if j=r then x else c j)=_;rw[if_neg (by lia)]
   rw[ec];show u (c j)+(-(1 / d))*E k (c j)=0;rw[h.i2 k j hk hj];show (if c j=c k then (1:Rat) else 0)+_=0
   by_cases e:j=k
   ·rw[if_pos e,if_pos (by rw[e])];grind
   ·rw[if_neg e,if_neg (fun q=>e (h.cinj j k hj hk q))];grind
  have dd:(det r fun i j=>A i (c2 j))=d:=by
   rw[<- h.i5];exact cS fun i j _ hj=>by show A i (if j=r then x else c j)=_;rw[if_neg (by lia)]
  have ux:u x=0:=by show (if x=c k then (1:Rat) else 0)=0;rw[if_neg (fun q=>hx ⟨k,hk,q⟩)]
  have cx:c2 r=x:=by show (if r=r then x else _)=x;rw[if_pos rfl]
  rw[dd,cx] at fb;have val:F r A c2 u=- E k x:=by
   rw[eu,hΦ,z,fb];show (u x+(-(1 / d))*E k x)*d+_=_;rw[ux];grind
  have wh:Wb ((n+5)*r+7) (F r A c2 u):=by
   rw[Kg];have:=Wb.rs5 (n:=1+((n+5)*r+1)) (K:=r+1) (f:=fun j=>Mq.sgn (r+j)*u (c2 j)*det r fun i k=>A i (c2 (Mq.skip j k))) (by lia) fun j _=>by
    refine Wb.mul (Wb.sgn ?_ _) (zO r _ (by lia) fun i k hi=>hA i _ (by lia));show Wb 1 (if c2 j=c k then (1:Rat) else 0);split
    ·exact Wb.one
    ·exact Wb.zero _
   exact this.mono (by lia)
  rw[val] at wh;have:=wh.neg
  rwa [show - - E k x=E k x by grind] at this
theorem Bar.wall5 (h:Bar m A E r col d c)(hA:∀i x,i < m->Wb n (A i x))(hm:m<=31)(hi:i < m)(x:Nat):Wb ((n+5)*(m+1)+8) (E i x):=by
 have rm:=h.rm;have mono:=Nat.mul_le_mul_left (n+5) rm;have e1:(n+5)*(m+1)=(n+5)*m+(n+5):=Nat.mul_succ ..
 by_cases h1:i < r
 ·exact(h.wtop5 hA hm h1 x).mono (by lia)
 ·have q:=h.i4 i x hi;rw[if_neg h1] at q;have e:E i x=d*A i x - rs r fun k=>A i (c k)*E k x:=by grind
  rw[e];have b1:Wb (n+((n+5)*r+7)+5) (d*A i x):=((h.wd5 hA hm).mul (hA i x hi)).mono (by lia);have b2:Wb (n+((n+5)*r+7)+5) (rs r fun k=>A i (c k)*E k x):=Wb.rs5 (by lia) fun k hk=>(hA i _ hi).mul (h.wtop5 hA hm hk x);exact(b1.sub b2).mono (by lia)
end
theorem SB.bd5 (h:SB n m R r col d)(s:SI m w A0 R r col d sg)(hm:m<=31):BdR ((n+5)*(m+1)+8) R/\B ((n+5)*(m+1)+8) d:=by
 obtain⟨A,c,B,q⟩:=h;refine⟨fun i x=>?_,?_⟩
 ·by_cases hi:i < m
  ·obtain⟨z,e,b⟩:=B.wall5 q hm hi x;have:ent R i x=z:=Rat.intCast_inj.mp e;rw[this];exact b
  ·unfold ent;rw[getD_eq_getElem?_getD (l:=R),getElem?_eq_none (by rw[s.len];lia)];exact Nat.two_pow_pos _
 ·obtain⟨z,e,b⟩:=B.wd5 q hm;have:d=z:=Rat.intCast_inj.mp e;have mono:=Nat.mul_le_mul_left (n+5) B.rm;rw[this];exact b.mono (by rw[Nat.mul_succ];lia)
theorem Sq (ha:1<=a)(hb:1<=b)(h1:a ∣ L)(h2:b ∣ L):oA a b ∣ L:=by
 have g1:gc a b ∣ a:=Int.gcd_dvd_left ..;have g0:gc a b≠0:=by have:=vV (a:=a) (b:=b) (by lia);lia
 obtain⟨x,hx⟩:=g1;have e:oA a b=x*b:=by
  unfold oA;rw[gA g0 hx]
 have k:(Int.lcm a b:Int) ∣ L:=Int.coe_lcm_dvd h1 h2;have m:(Int.gcd a b:Int)*(Int.lcm a b:Int)=a*b:=by
  have:=Int.gcd_mul_lcm a b;have h:((Int.gcd a b*Int.lcm a b:Nat):Int)=((a*b).natAbs:Nat):=by rw[this,Int.natAbs_mul]
  rw[Int.natCast_mul] at h;rw[h,Int.natAbs_of_nonneg (Int.mul_nonneg (by lia) (by lia))]
 have e2:(Int.lcm a b:Int)=x*b:=by
  have hg:(Int.gcd a b:Int)=gc a b:=rfl;rw[hg] at m;have:gc a b*(Int.lcm a b:Int)=gc a b*(x*b):=by
   rw[m,<- Int.mul_assoc,<- hx]
  exact Int.eq_of_mul_eq_mul_left g0 this
 rw[e,<- e2];exact k
theorem wO:∀{ps:List Q2},Pos ps->(∀p∈ps,p.2 ∣ L)->∀i,i<=ps.length->eQ (ps.take i) ∣ L/\1<=eQ (ps.take i)
 |ps,hp,h,0,_=>⟨Int.one_dvd _,by rw[take_zero];decide⟩
 |ps,hp,h,i+1,hi=>by
  obtain⟨a,b⟩:=wO hp h i (by lia);have hm:ps[i]?=some ps[i]:=getElem?_eq_getElem (by lia);have mem:=mem_of_getElem? hm;rw[mH hm];refine⟨Sq b (hp _ mem) a (h _ mem),?_⟩;have:=tL (ps:=ps.take (i+1)) (fun p hp'=>hp p (mem_of_mem_take hp'))
  rwa [mH hm] at this
end Mq
namespace Shp
open PySem L2
abbrev bw (n m:Nat):Nat:=(n+5)*(m+1)+8
inductive rR (K:Frag) (vs:List V) (H:Hp) (Q:VK) (E:XK):Prop where
 |mk (l D:Addr) (zs:List V) (R:List (List Int)) (m w n:Nat) (Pr:List (List Int)->Prop):vs=[.ref l,.int (m:Int)]->SqL K H l zs->Imx D H zs R->R.length=m->(∀i,i < m->(R.getD i []).length=w)->m<=w->w<=100->BdR n R->1<=n->bw n m<=9000->m<=31->Pr R->Stp m w (Mq.at2 R) Pr->(∀d l' zs' R' rank pivot sign H',aZ H H'->H d=none->H l'=none->H' d=some (Rt l' rank pivot sign)->H' l'=some (.lst zs')->Imx l' H' zs' R'->SI m w (Mq.at2 R) R' rank m pivot sign->BdR (bw n m) R'->Mq.B (bw n m) pivot->Pr R'->Q (.ref d) H')->rR K vs H Q E
end Shp
namespace L2
open PySem PySem.Spec PyProof.Rows
section
variable (u:Nat->Rat)
def fw (d:RD)(h:Nat):Rat:=match d.1 with
 | .pc=>(u d.2.1.toNat - u d.2.2.1.toNat)*(1 / Mq.val d.2.2.2)
 | .pu=>0
 | .ho=>u h
def nt:Nat->List RD->Nat->Rat
 |_,[],_=>0
 |h,d :: ds,p=>fw u d h*dl d.2.1.toNat d.2.2.1.toNat p+nt (h+bV d.1) ds p
def hw:Nat->List RD->Nat->Rat
 |_,[],_=>0
 |h,d :: ds,y=>(if d.1=.ho/\h=y then u d.2.1.toNat - u d.2.2.1.toNat else 0)+hw (h+bV d.1) ds y
def eg:Nat->List RD->Rat
 |_,[]=>0
 |h,d :: ds=>fw u d h*(u d.2.1.toNat - u d.2.2.1.toNat)+eg (h+bV d.1) ds
end
section
variable {u:Nat->Rat} {m N:Nat}
theorem rH (F:Nat->Rat)(hs:s < n)(hg:g < n):Mq.rs n (fun p=>F p*dl s g p)=F s - F g:=by
 have e:∀p,F p*dl s g p=(if s=p then F p else 0) + - (if g=p then F p else 0):=fun p=>by
  unfold dl
  by_cases a:s=p<;>by_cases b:g=p<;>simp only[a,b,if_true,if_false]<;>grind
 rw[aP fun p _=>e p,dC,jB,yI,yI,if_pos hs,if_pos hg];grind
theorem qa6 (u0:u 0=0)(hs:s<=n)(hg:g<=n):Mq.rs n (fun i=>u (i+1)*dl s g (i+1))=u s - u g:=by
 have:=rH u (n:=n+1) (s:=s) (g:=g) (by lia) (by lia);rw[jF,u0] at this;grind
theorem qg4 (u0:u 0=0)(pt:cX (m:Int) d.2.1 d.2.2.1)(hm:m<=N+1)(h1:1<=h)(hh:d.1=.ho->h<=N):Mq.rs N (fun i=>u (i+1)*cM d h (i+1) y)=fw u d h*dl d.2.1.toNat d.2.2.1.toNat y+(if d.1=.ho/\h=y then u d.2.1.toNat - u d.2.2.1.toNat else 0):=by
 obtain⟨a,b,c,e⟩:=pt;have base:=qa6 (u:=u) (n:=N) (s:=d.2.1.toNat) (g:=d.2.2.1.toNat) u0 (by lia) (by lia);unfold cM fw
 cases hk:d.1 with
 |pc=>
  dsimp only;rw[if_neg (fun z=>by cases z.1)];have:∀i,u (i+1)*(dl d.2.1.toNat d.2.2.1.toNat (i+1)*dl d.2.1.toNat d.2.2.1.toNat y*(1 / Mq.val d.2.2.2))=(dl d.2.1.toNat d.2.2.1.toNat y*(1 / Mq.val d.2.2.2))*(u (i+1)*dl d.2.1.toNat d.2.2.1.toNat (i+1)):=fun i=>by grind
  rw[aP fun i _=>this i,dW,base];grind
 |pu=>
  dsimp only;rw[if_neg (fun z=>by cases z.1)];have:∀i,u (i+1)*(0:Rat)=0:=fun i=>by grind
  rw[aP fun i _=>this i,dP];grind
 |ho=>
  dsimp only;have hN:=hh hk;have one:Mq.rs N (fun i=>u (i+1)*(if h=i+1 then 1 else 0))=u h:=by
   have:∀i,u (i+1)*(if h=i+1 then (1:Rat) else 0)=if h - 1=i then u (i+1) else 0:=fun i=>by
    by_cases z:h=i+1
    ·rw[if_pos z,if_pos (by lia)];grind
    ·rw[if_neg z,if_neg (by lia)];grind
   rw[aP fun i _=>this i,yI,if_pos (by lia),show h - 1+1=h by lia]
  have:∀i,u (i+1)*(dl d.2.1.toNat d.2.2.1.toNat (i+1)*(if h=y then 1 else 0)+(if h=i+1 then 1 else 0)*dl d.2.1.toNat d.2.2.1.toNat y)=(if h=y then 1 else 0)*(u (i+1)*dl d.2.1.toNat d.2.2.1.toNat (i+1))+dl d.2.1.toNat d.2.2.1.toNat y*(u (i+1)*(if h=i+1 then 1 else 0)):=fun i=>by grind
  rw[aP fun i _=>this i,dC,dW,dW,base,one]
  by_cases z:h=y
  ·rw[if_pos z,if_pos ⟨rfl,z⟩];grind
  ·rw[if_neg z,if_neg (fun q=>z q.2)];grind
theorem Af (u0:u 0=0)(hm:m<=N+1)(y:Nat):∀(ds:List RD) (h:Nat),(∀d∈ds,cX (m:Int) d.2.1 d.2.2.1)->1<=h->h+bA ds<=N+1->Mq.rs N (fun i=>u (i+1)*eqM h ds (i+1) y)=nt u h ds y+hw u h ds y
 | [],h,_,_,_=>by
  have:∀i,u (i+1)*eqM h [] (i+1) y=0:=fun i=>by show u (i+1)*(0:Rat)=0;grind
  rw[aP fun i _=>this i,dP];show (0:Rat)=0+0;grind
 |d :: ds,h,pt,h1,hN=>by
  rw[dM] at hN;have ih:=Af u0 hm y ds (h+bV d.1) (fun e he=>pt e (mem_cons_of_mem _ he)) (by lia) (by lia);have c:=qg4 (u:=u) (N:=N) (h:=h) (y:=y) u0 (pt d (by simp)) hm h1 (fun z=>by rw[z] at hN;have:bV .ho=1:=rfl;lia);have:∀i,u (i+1)*eqM h (d :: ds) (i+1) y=u (i+1)*cM d h (i+1) y+u (i+1)*eqM (h+bV d.1) ds (i+1) y:=fun i=>by
   show u (i+1)*(cM d h (i+1) y+eqM (h+bV d.1) ds (i+1) y)=_;grind
  rw[aP fun i _=>this i,dC,ih,c];show _=(fw u d h*dl d.2.1.toNat d.2.2.1.toNat y+nt u (h+bV d.1) ds y)+((if d.1=.ho/\h=y then u d.2.1.toNat - u d.2.2.1.toNat else 0)+hw u (h+bV d.1) ds y)
  grind
theorem Bf:∀(ds:List RD) (h:Nat),y < h->hw u h ds y=0
 | [],_,_=>rfl
 |d :: ds,h,hy=>by
  show (if d.1=.ho/\h=y then u d.2.1.toNat - u d.2.2.1.toNat else 0)+hw u (h+bV d.1) ds y=0;rw[if_neg (fun z=>by lia),Bf ds (h+bV d.1) (by lia)];grind
theorem Eh:∀(ds:List RD) (h:Nat),(∀d∈ds,cX (m:Int) d.2.1 d.2.2.1)->m<=y->nt u h ds y=0
 | [],_,_,_=>rfl
 |d :: ds,h,pt,hy=>by
  obtain⟨a,b,c,e⟩:=pt d (by simp);show fw u d h*dl d.2.1.toNat d.2.2.1.toNat y+nt u (h+bV d.1) ds y=0;rw[Eh ds (h+bV d.1) (fun e he=>pt e (mem_cons_of_mem _ he)) hy];unfold dl;rw[if_neg (by lia),if_neg (by lia)];grind
theorem Ai:∀(ds:List RD) (h:Nat),(∀y,h<=y->y < h+bA ds->hw u h ds y=0)->∀d∈ds,d.1=.ho->u d.2.1.toNat=u d.2.2.1.toNat
 | [],_,_,_,hd,_=>by cases hd
 |e :: ds,h,all,d,hd,hk=>by
  by_cases he:e.1=.ho
  ·have c1:bV e.1=1:=by rw[he];rfl
   have first:=all h (Nat.le_refl _) (by rw[dM];lia)
   have f1:(if e.1=.ho/\h=h then u e.2.1.toNat - u e.2.2.1.toNat else 0)+hw u (h+bV e.1) ds h=0:=first
   rw[if_pos ⟨he,rfl⟩,Bf ds (h+bV e.1) (by lia)] at f1;rcases mem_cons.mp hd with rfl | hd
   ·grind
   ·refine Ai ds (h+bV e.1) (fun y hy hl=>?_) d hd hk;have:=all y (by lia) (by rw[dM];lia);have f2:(if e.1=.ho/\h=y then u e.2.1.toNat - u e.2.2.1.toNat else 0)+hw u (h+bV e.1) ds y=0:=this;rw[if_neg (fun z=>by lia)] at f2;grind
  ·have c0:bV e.1=0:=if_neg he;rcases mem_cons.mp hd with rfl | hd
   ·exact absurd hk he
   ·refine Ai ds (h+bV e.1) (fun y hy hl=>?_) d hd hk;have:=all y (by lia) (by rw[dM];lia);have f2:(if e.1=.ho/\h=y then u e.2.1.toNat - u e.2.2.1.toNat else 0)+hw u (h+bV e.1) ds y=0:=this;rw[if_neg (fun z=>he z.1)] at f2;grind
theorem Ic (F:Nat->Rat):∀(ds:List RD) (h:Nat),(∀d∈ds,cX (m:Int) d.2.1 d.2.2.1)->(∀d∈ds,d.1≠.pu->F d.2.1.toNat=F d.2.2.1.toNat)->Mq.rs m (fun p=>F p*nt u h ds p)=0
 | [],h,_,_=>by
  have:∀p,F p*nt u h [] p=0:=fun p=>by show F p*(0:Rat)=0;grind
  rw[aP fun p _=>this p,dP]
 |d :: ds,h,pt,hF=>by
  have ih:=Ic F ds (h+bV d.1) (fun e he=>pt e (mem_cons_of_mem _ he)) (fun e he=>hF e (mem_cons_of_mem _ he));obtain⟨a,b,c,e⟩:=pt d (by simp);have base:=rH F (n:=m) (s:=d.2.1.toNat) (g:=d.2.2.1.toNat) (by lia) (by lia);have:∀p,F p*nt u h (d :: ds) p=fw u d h*(F p*dl d.2.1.toNat d.2.2.1.toNat p)+F p*nt u (h+bV d.1) ds p:=fun p=>by
   show F p*(fw u d h*dl d.2.1.toNat d.2.2.1.toNat p+nt u (h+bV d.1) ds p)=_;grind
  rw[aP fun p _=>this p,dC,dW,base,ih]
  by_cases hk:d.1=.pu
  ·have:fw u d h=0:=by unfold fw;rw[hk]
   rw[this];grind
  ·rw[hF d (by simp) hk];grind
theorem Ml:∀(ds:List RD) (h:Nat),(∀d∈ds,cX (m:Int) d.2.1 d.2.2.1)->Mq.rs m (fun p=>u p*nt u h ds p)=eg u h ds
 | [],h,_=>by
  have:∀p,u p*nt u h [] p=0:=fun p=>by show u p*(0:Rat)=0;grind
  rw[aP fun p _=>this p,dP];rfl
 |d :: ds,h,pt=>by
  have ih:=Ml ds (h+bV d.1) (fun e he=>pt e (mem_cons_of_mem _ he));obtain⟨a,b,c,e⟩:=pt d (by simp);have base:=rH u (n:=m) (s:=d.2.1.toNat) (g:=d.2.2.1.toNat) (by lia) (by lia);have:∀p,u p*nt u h (d :: ds) p=fw u d h*(u p*dl d.2.1.toNat d.2.2.1.toNat p)+u p*nt u (h+bV d.1) ds p:=fun p=>by
   show u p*(fw u d h*dl d.2.1.toNat d.2.2.1.toNat p+nt u (h+bV d.1) ds p)=_;grind
  rw[aP fun p _=>this p,dC,dW,base,ih];rfl
theorem qi4 (x:Rat):0<=x*x:=by
 rcases Rat.le_total (a:=0) (b:=x) with h | h
 ·exact Rat.mul_nonneg h h
 ·have:0<=(-x)*(-x):=Rat.mul_nonneg (by grind) (by grind);grind
theorem Cu {a:Rat}(h:0 < a):0 < 1 / a:=by
 rw[Rat.div_def,Rat.one_mul];exact Rat.inv_pos.mpr h
theorem Dh:∀(ds:List RD) (h:Nat),(∀d∈ds,d.1=.pc->0 < Mq.val d.2.2.2)->(∀d∈ds,d.1=.ho->u d.2.1.toNat=u d.2.2.1.toNat)->0<=eg u h ds/\(eg u h ds=0->∀d∈ds,d.1=.pc->u d.2.1.toNat=u d.2.2.1.toNat)
 | [],_,_,_=>⟨Rat.le_refl,fun _ d hd=>by cases hd⟩
 |e :: ds,h,pos,ho=>by
  obtain⟨i1,i2⟩:=Dh ds (h+bV e.1) (fun d hd=>pos d (mem_cons_of_mem _ hd)) (fun d hd=>ho d (mem_cons_of_mem _ hd));have eq:eg u h (e :: ds)=fw u e h*(u e.2.1.toNat - u e.2.2.1.toNat)+eg u (h+bV e.1) ds:=rfl;rw[eq];generalize eg u (h+bV e.1) ds=r at i1 i2;have t:0<=fw u e h*(u e.2.1.toNat - u e.2.2.1.toNat)/\(e.1=.pc->fw u e h*(u e.2.1.toNat - u e.2.2.1.toNat)=0->u e.2.1.toNat=u e.2.2.1.toNat):=by
   unfold fw
   cases hk:e.1 with
   |pu=>exact⟨by grind,fun z=>by cases z⟩
   |ho=>exact⟨by rw[ho e (by simp) hk];grind,fun z=>by cases z⟩
   |pc=>
    dsimp only;have p:=Cu (pos e (by simp) hk);generalize 1 / Mq.val e.2.2.2=q at p;generalize u e.2.1.toNat=a;generalize u e.2.2.1.toNat=b;have e2:(a - b)*q*(a - b)=q*((a - b)*(a - b)):=by grind
    rw[e2];refine⟨Rat.mul_nonneg (Rat.le_of_lt p) (qi4 _),fun _ z=>?_⟩;have q0:q≠0:=fun z=>by rw[z] at p;exact absurd p (by decide)
    have:(a - b)*(a - b)=0:=by grind
    have:a - b=0:=by grind
    grind
  obtain⟨t1,t2⟩:=t;generalize fw u e h*(u e.2.1.toNat - u e.2.2.1.toNat)=x at t1 t2;refine⟨by grind,fun z d hd hk=>?_⟩;have x0:x=0:=by grind
  have r0:r=0:=by grind
  rcases mem_cons.mp hd with rfl | hd
  ·exact t2 hk x0
  ·exact i2 r0 d hd hk
theorem zL (d:RD)(p:Nat):∀(ds:List RD) (h:Nat),nt u h (ds++[d]) p=nt u h ds p+fw u d (h+bA ds)*dl d.2.1.toNat d.2.2.1.toNat p
 | [],h=>by show fw u d h*_+0=0+fw u d (h+0)*_;rw[Nat.add_zero];grind
 |e :: ds,h=>by
  show fw u e h*_+nt u (h+bV e.1) (ds++[d]) p=fw u e h*_+nt u (h+bV e.1) ds p+_;rw[zL d p ds,dM,Nat.add_assoc];grind
theorem Ea (F:Nat->Rat):∀(ds:List RD) (h:Nat),(∀d∈ds,cX (m:Int) d.2.1 d.2.2.1)->(∀d∈ds,d.1=.pc->u d.2.1.toNat=u d.2.2.1.toNat)->(∀d∈ds,d.1=.ho->F d.2.1.toNat=F d.2.2.1.toNat)->Mq.rs m (fun p=>F p*nt u h ds p)=0
 | [],h,_,_,_=>by
  have:∀p,F p*nt u h [] p=0:=fun p=>by show F p*(0:Rat)=0;grind
  rw[aP fun p _=>this p,dP]
 |d :: ds,h,pt,hu,hF=>by
  have ih:=Ea F ds (h+bV d.1) (fun e he=>pt e (mem_cons_of_mem _ he)) (fun e he=>hu e (mem_cons_of_mem _ he)) (fun e he=>hF e (mem_cons_of_mem _ he));obtain⟨a,b,c,e⟩:=pt d (by simp);have base:=rH F (n:=m) (s:=d.2.1.toNat) (g:=d.2.2.1.toNat) (by lia) (by lia);have:∀p,F p*nt u h (d :: ds) p=fw u d h*(F p*dl d.2.1.toNat d.2.2.1.toNat p)+F p*nt u (h+bV d.1) ds p:=fun p=>by
   show F p*(fw u d h*dl d.2.1.toNat d.2.2.1.toNat p+nt u (h+bV d.1) ds p)=_;grind
  rw[aP fun p _=>this p,dC,dW,base,ih]
  cases hk:d.1 with
  |pu=>
   have:fw u d h=0:=by unfold fw;rw[hk]
   rw[this];grind
  |pc=>
   have:fw u d h=0:=by unfold fw;rw[hk];dsimp only;rw[hu d (by simp) hk];grind
   rw[this];grind
  |ho=>rw[hF d (by simp) hk];grind
def Frs (ds:List RD):Prop:=∀(A B:List RD) (d:RD),ds=A++d :: B->d.1=.ho->¬Cn (iU .ho A) d.2.1.toNat d.2.2.1.toNat
theorem Hs:∀(n:Nat) (ds:List RD) (h:Nat),ds.length=n->(∀d∈ds,cX (m:Int) d.2.1 d.2.2.1)->Frs ds->(∀d∈ds,d.1=.pc->u d.2.1.toNat=u d.2.2.1.toNat)->(∀p,p < m->nt u h ds p=0)->∀y,h<=y->y < h+bA ds->u y=0
 |0,ds,h,hl,_,_,_,_,y,h1,h2=>by
  have:ds=[]:=length_eq_zero_iff.mp hl;subst this;have:bA ([]:List RD)=0:=rfl;lia
 |n+1,ds,h,hl,pt,fr,hu,ze,y,h1,h2=>by
  obtain⟨es,d,rfl⟩:∃es d,ds=es++[d]:=⟨ds.dropLast,ds.getLast (by intro z;rw[z] at hl;cases hl),(dropLast_concat_getLast _).symm⟩
  have le:es.length=n:=by rw[List.length_append] at hl;simpa using hl
  have pe:∀x∈es,cX (m:Int) x.2.1 x.2.2.1:=fun x hx=>pt x (mem_append_left _ hx);have ue:∀x∈es,x.1=.pc->u x.2.1.toNat=u x.2.2.1.toNat:=fun x hx=>hu x (mem_append_left _ hx);have fe:Frs es:=fun A B x e hx=>fr A (B++[d]) x (by rw[e];simp) hx;obtain⟨i0,i1,j0,j1⟩:=pt d (by simp);have f0:fw u d (h+bA es)=0:=by
   cases hk:d.1 with
   |pu=>unfold fw;rw[hk]
   |pc=>unfold fw;rw[hk];dsimp only;rw[hu d (by simp) hk];grind
   |ho=>
    open Classical in
    have nc:=fr es [] d rfl hk
    let F:Nat->Rat:=fun p=>if Cn (iU .ho es) d.2.1.toNat p then 1 else 0
    have s1:=Ea (u:=u) (m:=m) F es h pe ue (fun x hx hk'=>by
     show (if Cn (iU .ho es) d.2.1.toNat x.2.1.toNat then (1:Rat) else 0)=if Cn (iU .ho es) d.2.1.toNat x.2.2.1.toNat then 1 else 0
     have r:Cn (iU .ho es) x.2.1.toNat x.2.2.1.toNat:=.row (mem_filter.mpr ⟨hx,decide_eq_true hk'⟩) (by rw[hk'];exact fun z=>by cases z)
     by_cases c:Cn (iU .ho es) d.2.1.toNat x.2.1.toNat
     ·rw[if_pos c,if_pos (c.trans r)]
     ·rw[if_neg c,if_neg (fun z=>c (z.trans r.symm))])
    have s2:Mq.rs m (fun p=>F p*nt u h (es++[d]) p)=0:=by
     have:∀p,p < m->F p*nt u h (es++[d]) p=0:=fun p hp=>by rw[ze p hp];grind
     rw[aP this,dP]
    have e3:∀p,F p*nt u h (es++[d]) p=F p*nt u h es p+fw u d (h+bA es)*(F p*dl d.2.1.toNat d.2.2.1.toNat p):=fun p=>by rw[zL];grind
    rw[aP fun p _=>e3 p,dC,s1,dW,rH F (by lia) (by lia)] at s2;have Fs:F d.2.1.toNat=1:=if_pos (.refl _);have Fg:F d.2.2.1.toNat=0:=if_neg nc;rw[Fs,Fg] at s2;grind
  have ze':∀p,p < m->nt u h es p=0:=fun p hp=>by
   have:=ze p hp;rw[zL,f0] at this;grind
  rw[fY] at h2
  by_cases c:y < h+bA es
  ·exact Hs n es h le pe fe ue ze' y h1 c
  ·have hk:d.1=.ho:=Classical.byContradiction fun z=>by
    have:bV d.1=0:=if_neg z;lia
   have c1:bV d.1=1:=by rw[hk];rfl
   have:y=h+bA es:=by lia
   rw[this];unfold fw at f0;rw[hk] at f0;exact f0
theorem yL (hm1:1<=m)(pt:∀d∈ds,cX (m:Int) d.2.1 d.2.2.1)(pos:∀d∈ds,d.1=.pc->0 < Mq.val d.2.2.2)(cn:∀p,p < m->Cn ds 0 p)(fr:Frs ds)(u0:u 0=0)(ze:∀y,1<=y->y<=m - 1+bA ds->Mq.rs (m - 1+bA ds) (fun i=>u (i+1)*eqM m ds (i+1) y)=0):∀y,y<=m - 1+bA ds->u y=0:=by
 have ze2:∀y,1<=y->y<=m - 1+bA ds->nt u m ds y+hw u m ds y=0:=fun y a b=>by
  have:=ze y a b;rw[Af (m:=m) u0 (by lia) y ds m pt hm1 (by lia)] at this;exact this
 have hf:=Ai (u:=u) ds m (fun y a b=>by
  have:=ze2 y (by lia) (by lia);rw[Eh ds m pt a] at this;grind)
 have np:∀p,1<=p->p < m->nt u m ds p=0:=fun p a b=>by
  have:=ze2 p a (by lia);rw[Bf ds m b] at this;grind
 have e0:eg u m ds=0:=by
  rw[<- Ml (u:=u) (m:=m) ds m pt];have:∀p,p < m->u p*nt u m ds p=0:=fun p hp=>by
   by_cases c:p=0
   ·rw[c,u0];grind
   ·rw[np p (by lia) hp];grind
  rw[aP this,dP]
 have pf:=(Dh (u:=u) ds m pos hf).2 e0;have cz:∀p,p < m->u p=0:=fun p hp=>by
  have:=Cn.ind (R:=fun a b=>u a=u b) (fun _=>rfl) (fun _ _ e=>e.symm) (fun _ _ _ a b=>a.trans b) (fun d hd hk=>by
   cases h:d.1 with
   |pc=>exact pf d hd h
   |pu=>exact absurd h hk
   |ho=>exact hf d hd h) (cn p hp)
  rw[<- this,u0]
 have all:∀p,p < m->nt u m ds p=0:=fun p hp=>by
  by_cases c:p=0
  ·have s:=Ea (u:=u) (m:=m) (fun _=>1) ds m pt pf (fun _ _ _=>rfl);obtain⟨k,rfl⟩:∃k,m=k+1:=⟨m - 1,by lia⟩
   rw[jF] at s;have:∀i,i < k->(1:Rat)*nt u (k+1) ds (i+1)=0:=fun i hi=>by rw[np (i+1) (by lia) (by lia)];grind
   rw[aP this,dP] at s;rw[c];grind
  ·exact np p (by lia) hp
 have hz:=Hs (u:=u) (m:=m) _ ds m rfl pt fr pf all;intro y hy
 by_cases c:y < m
 ·exact cz y c
 ·exact hz y (by lia) (by lia)
end
open Shp
section
variable {m N:Nat} {ds:List RD}
theorem Uo (d:RD)(h x y:Nat):cM d h x y=cM d h y x:=by
 unfold cM
 cases d.1<;>dsimp only<;>grind
theorem vU:∀(ds:List RD) (h x y:Nat),eqM h ds x y=eqM h ds y x
 | [],_,_,_=>rfl
 |d :: ds,h,x,y=>by
  show cM d h x y+eqM (h+bV d.1) ds x y=cM d h y x+eqM (h+bV d.1) ds y x;rw[Uo,vU ds]
structure Nof (m:Nat) (ds:List RD):Prop where
 m1:1<=m
 pt:∀d∈ds,cX (m:Int) d.2.1 d.2.2.1
 pos:∀d∈ds,d.1=.pc->0 < Mq.val d.2.2.2
 cn:∀p,p < m->Cn ds 0 p
 fr:Frs ds
theorem Nof.uni (o:Nof m ds){v w:Nat->Rat}{r:Nat->Rat}(hv:∀i,i < m - 1+bA ds->(Mq.rs (m - 1+bA ds) fun j=>eqM m ds (i+1) (j+1)*v j)=r i)(hw:∀i,i < m - 1+bA ds->(Mq.rs (m - 1+bA ds) fun j=>eqM m ds (i+1) (j+1)*w j)=r i):∀j,j < m - 1+bA ds->v j=w j:=by
 have:=yL (u:=fun x=>if x=0 then 0 else v (x - 1) - w (x - 1)) o.m1 o.pt o.pos o.cn o.fr (if_pos rfl) (fun y y1 yn=>by
  have e:∀i,i < m - 1+bA ds->(if i+1=0 then (0:Rat) else v (i+1 - 1) - w (i+1 - 1))*eqM m ds (i+1) y=eqM m ds (y - 1+1) (i+1)*v i + - (eqM m ds (y - 1+1) (i+1)*w i):=fun i _=>by
   rw[if_neg (by lia),Nat.add_sub_cancel,vU ds m (i+1) y,show y - 1+1=y by lia];grind
  rw[aP e,dC,jB,hv (y - 1) (by lia),hw (y - 1) (by lia)];grind)
 intro j hj;have:=this (j+1) (by lia);rw[if_neg (by lia),Nat.add_sub_cancel] at this;grind
theorem Nw (e:yX m ds N X Y):X.length=m - 1+bA ds:=e.x.h
theorem Mi (e:yX m ds N X Y)(i j:Nat):qK X i j=eqM m ds (i+1) (j+1):=e.vx i j
end
end L2
namespace Shp
open PySem L2
theorem Hr (hl:R0.length=m)(hw:∀i,i < m->(R0.getD i []).length=w)(hmw:m<=w)(h0:Pr R0)(st:Stp m w (Mq.at2 R0) Pr):∀col,col<=m->∃R r d sg,SI m w (Mq.at2 R0) R r col d sg/\Pr R
 |0,_=>⟨R0,0,1,1,.start hl hw,h0⟩
 |col+1,hc=>by
  obtain⟨R,r,d,sg,S,p⟩:=Hr hl hw hmw h0 st col (by lia)
  by_cases hz:∀i,r<=i->i < m->ent R i col=0
  ·exact⟨R,r,d,sg,S.skip hz,p⟩
  ·obtain⟨i,hi⟩:=Classical.not_forall.mp hz;obtain⟨h1,hi⟩:=Classical.not_imp.mp hi;obtain⟨h2,ne⟩:=Classical.not_imp.mp hi
   by_cases e:i=r
   ·subst e;exact⟨_,_,_,_,S.clear h2 (by lia) ne,st.cl R i col d sg S h2 (by lia) ne p⟩
   ·have hlt:r < i:=by lia
    have S2:=S.swap hlt h2;have p2:=st.sw R r col d sg i S hlt h2 p;have ne2:ent (fQ R i r) r col≠0:=by
     have:=An (R:=R) (p:=i) (r:=r) (by rw[S.len];lia) (by rw[S.len];lia) r;unfold ent at ne ⊢;rw[this,show Mq.sw i r r=i by unfold Mq.sw;simp];exact ne
    exact⟨_,_,_,_,S2.clear (by lia) (by lia) ne2,st.cl _ r col d (-sg) S2 (by lia) (by lia) ne2 p2⟩
theorem Wj (xP:fZ X)(hw:∀row∈X,row.length=X.length)(m1:1<=X.length)(hz:wgt X=0):∃v:Nat->Rat,(∃j,j < X.length/\v j≠0)/\∀x,x < X.length->(Mq.rs X.length fun j=>v j*qK X j x)=0:=by
 obtain⟨R,r,d,sg,S,L⟩:=Hr (m:=X.length) (w:=X.length+X.length) (R0:=jS X) (Qm X) (fun i hi=>by rw[vP hi,Co,hw _ (mem_of_getElem? (wJ hi))]) (by lia) (Vw xP hw) qd0 X.length (Nat.le_refl _);have wr:=Qk xP (Tz fun i j hi hj=>yE xP hw hi hj) S;have hr:r < X.length:=by
  rcases wr with z | z
  ·exact z.1
  ·exact absurd hz z.2
 obtain⟨⟨k0,hk0,nk0⟩,hsum⟩:=L.lame S hr;refine⟨fun k=>Mq.at2 R (X.length - 1) (X.length+k),⟨k0,hk0,fun z=>?_⟩,hsum⟩;exact nk0 (Rat.intCast_inj.mp (by unfold Mq.at2 at z;simpa using z))
end Shp
namespace L2
open Shp
theorem Nof.wgt_ne (o:Nof m ds)(e:yX m ds N X Y)(xP:fZ X)(hw:∀row∈X,row.length=X.length)(m1:1<=X.length):wgt X≠0:=fun hz=>by
 obtain⟨v,⟨j,hj,vj⟩,hs⟩:=Wj xP hw m1 hz;have n:=Nw e;have z:=yL (u:=fun x=>if x=0 then 0 else v (x - 1)) o.m1 o.pt o.pos o.cn o.fr (if_pos rfl) (fun y y1 yn=>by
  have s:=hs (y - 1) (by lia);rw[n] at s;rw[<- s];refine aP fun i _=>?_;rw[if_neg (by lia),Nat.add_sub_cancel,Mi e,show y - 1+1=y by lia])
 have:=z (j+1) (by lia);rw[if_neg (by lia),Nat.add_sub_cancel] at this;exact vj this
end L2
namespace Mq
theorem Dg (l:Low p){a L:Int}(hL:1<=L)(h:val p=(a:Rat) / (L:Rat)):p.2 ∣ L/\p.1.natAbs<=a.natAbs:=by
 have h2:((p.2:Int):Rat)≠0:=by have:=l.pos;exact_mod_cast (show p.2≠0 by lia)
 have hl:((L:Int):Rat)≠0:=by exact_mod_cast (show L≠0 by lia)
 have e:p.1*L=a*p.2:=by
  unfold val at h;have:((p.1:Int):Rat)*(L:Rat)=(a:Rat)*((p.2:Int):Rat):=by grind
  exact_mod_cast this
 have d:p.2 ∣ L:=by
  have c:Int.gcd p.2 p.1=1:=by
   have:=l.one;unfold gc at this;rw[Int.gcd_comm];exact_mod_cast this
  have c':Nat.Coprime p.2.natAbs p.1.natAbs:=c;have dv:p.2.natAbs ∣ p.1.natAbs*L.natAbs:=by
   rw[<- Int.natAbs_mul,e,Int.natAbs_mul];exact Nat.dvd_mul_left ..
  exact Int.natAbs_dvd_natAbs.mp (c'.dvd_of_dvd_mul_left dv)
 obtain⟨t,ht⟩:=d;have t1:t≠0:=fun z=>by rw[z,Int.mul_zero] at ht;lia
 have e2:p.1*t=a:=by
  have:p.2*(p.1*t)=p.2*a:=by
   rw[Int.mul_comm p.2 a,<- e,ht,<- Int.mul_assoc,<- Int.mul_assoc,Int.mul_comm p.2 p.1]
  exact Int.eq_of_mul_eq_mul_left (by have:=l.pos;lia) this
 refine⟨⟨t,ht⟩,?_⟩;rw[<- e2,Int.natAbs_mul];exact Nat.le_mul_of_pos_right _ (by lia)
def Fr (L:Int)(M:Nat)(x:Rat):Prop:=∃a:Int,x=(a:Rat) / (L:Rat)/\a.natAbs<=M*L.natAbs
section
variable {L K:Int} {M N:Nat} {x y:Rat}
theorem uR (h:1<=L):((L:Int):Rat)≠0:=by exact_mod_cast (show L≠0 by lia)
theorem Fr.mono (h:Fr L M x)(l:M<=N):Fr L N x:=by
 obtain⟨a,e,b⟩:=h;exact⟨a,e,Nat.le_trans b (Nat.mul_le_mul_right _ l)⟩
theorem Fr.zero:Fr L 0 0:=⟨0,by rw[show ((0:Int):Rat)=0 by rfl,Rat.div_def];grind,by simp⟩
theorem Fr.one (h:1<=L):Fr L 1 1:=⟨L,by have:=uR h;grind,by lia⟩
theorem Fr.add (h:Fr L M x)(g:Fr L N y):Fr L (M+N) (x+y):=by
 obtain⟨a,ea,ba⟩:=h;obtain⟨b,eb,bb⟩:=g;refine⟨a+b,?_,?_⟩
 ·rw[ea,eb,Rat.intCast_add,Rat.div_def,Rat.div_def,Rat.div_def];grind
 ·rw[Nat.add_mul];have:=Int.natAbs_add_le a b;lia
theorem Fr.neg (h:Fr L M x):Fr L M (-x):=by
 obtain⟨a,ea,ba⟩:=h;refine⟨-a,?_,by rw[Int.natAbs_neg];exact ba⟩;rw[ea,Rat.intCast_neg,Rat.div_def,Rat.div_def];grind
theorem Fr.of (hL:1<=L){t b:Int}(hb:1<=b)(d:b ∣ L)(ht:t.natAbs<=M):Fr L M ((t:Rat) / (b:Rat)):=by
 obtain⟨k,rfl⟩:=d;have k1:1<=k:=by
  rcases Int.lt_or_le k 1 with z | z
  ·have:=Int.mul_nonpos_of_nonneg_of_nonpos (show 0<=b by lia) (show k<=0 by lia);lia
  ·exact z
 refine⟨t*k,?_,?_⟩
 ·have:=uR hb;have:=uR k1;rw[Rat.intCast_mul,Rat.intCast_mul];grind
 ·rw[Int.natAbs_mul,Int.natAbs_mul];refine Nat.mul_le_mul ht (Nat.le_mul_of_pos_left _ (by lia))
theorem Fr.get (h:Fr L M x)(hM:M < 2 ^ m)(hL:B n L)(hb:m+n<=b):∃a:Int,B b a/\x=(a:Rat) / (L:Rat):=by
 obtain⟨a,ea,ba⟩:=h;refine⟨a,?_,ea⟩;refine B.mono (n:=m+n) ?_ hb;show a.natAbs < 2 ^ (m+n);rw[Nat.pow_add];have hL:L.natAbs < 2 ^ n:=hL;exact Nat.lt_of_le_of_lt ba (Nat.mul_lt_mul'' hM hL)
end
theorem vO (hL:1<=L)(l:Low p)(d:p.2 ∣ L)(b:Bd u p):Fr L (2 ^ u) (val p):=Fr.of hL l.pos d (Nat.le_of_lt b.a)
def prB:List Int->Int
 | []=>1
 |a :: r=>a*prB r
theorem Iu:∀{l:List Int},(∀a∈l,1<=a)->1<=prB l
 | [],_=>Int.le_refl _
 |a :: r,h=>by
  have h1:=h a (by simp);have h2:=Iu (l:=r) fun b hb=>h b (mem_cons_of_mem _ hb);have:=Int.mul_pos (show 0 < a by lia) (show 0 < prB r by lia);show 1<=a*prB r;lia
theorem Iv:∀{l:List Int} {a:Int},a∈l->a ∣ prB l
 |b :: r,a,h=>by
  rcases mem_cons.mp h with z | z
  ·rw[z];exact Int.dvd_mul_right ..
  ·exact Int.dvd_trans (Iv z) (Int.dvd_mul_left ..)
end Mq
open Mq (Dg prB uR vO)
namespace L2
theorem Oo (s g x:Nat):dl s g x=1\/dl s g x=0\/dl s g x=-1:=by
 unfold dl
 by_cases a:s=x<;>by_cases b:g=x<;>simp only[a,b,if_true,if_false]
 ·exact .inr (.inl (by grind))
 ·exact .inl (by grind)
 ·exact .inr (.inr (by grind))
 ·exact .inr (.inl (by grind))
theorem Ci (h:Mq.Fr L M y)(s g x:Nat):Mq.Fr L M (dl s g x*y):=by
 rcases Oo s g x with e | e | e
 ·rw[e,Rat.one_mul];exact h
 ·rw[e,Rat.zero_mul];exact Mq.Fr.zero.mono (Nat.zero_le _)
 ·rw[e,show (-1:Rat)*y=-y by grind];exact h.neg
open PySem PySem.Spec PyProof.Rows Shp
abbrev Ent:=Option Nat × RD × Q2
section
variable {m u j:Nat} {hs:List Q2} {par:Nat->Nat} {E:List Ent}
theorem Jv {α:Type}{x e:α}{E:List α}{i:Nat}(h:x∈E.take i++e :: E.drop i):x=e\/x∈E:=by
 rcases mem_append.mp h with z | z
 ·exact .inr (mem_of_mem_take z)
 ·rcases mem_cons.mp z with z | z
  ·exact .inl z
  ·exact .inr (mem_of_mem_drop z)
end
theorem Jm:∀n,∀e∈(dE W sk n).1,∃k,W k=true/\sk[e.1]?=some (k,e.2.1,e.2.2)/\e.1 < n
 |0,e,h=>by cases h
 |n+1,e,h=>by
  have ih:=Jm (W:=W) (sk:=sk) n
  cases hd:sk[n]? with
  |none=>
   have:dE W sk (n+1)=dE W sk n:=by
    show (match sk[n]? with | none=>dE W sk n | some d=>gJ W (dE W sk n) n d)=_;rw[hd]
   rw[this] at h;obtain⟨k,a,b,c⟩:=ih e h;exact⟨k,a,b,by lia⟩
  |some d=>
   rw[gO hd] at h;unfold gJ at h;split at h
   ·rename_i w
    split at h
    ·rcases mem_append.mp h with z | z
     ·obtain⟨k,a,b,c⟩:=ih e z;exact⟨k,a,b,by lia⟩
     ·have:e=(n,d.2.1,d.2.2):=by simpa using z
      subst this;exact⟨d.1,w,hd,by show n < n+1;lia⟩
    ·obtain⟨k,a,b,c⟩:=ih e h;exact⟨k,a,b,by lia⟩
   ·obtain⟨k,a,b,c⟩:=ih e h;exact⟨k,a,b,by lia⟩
theorem mM {m:Nat}(hW:∀k,W k=true↔k=.ho)(pt:∀d∈ds,cX (m:Int) d.2.1 d.2.2.1)(h20:m<=20)(fr:Frs ds):∀n,n<=ds.length->(dE W (skl ds) n).2=[]
 |0,_=>rfl
 |n+1,hn=>by
  have ih:=mM hW pt h20 fr n (by lia);have hd:ds[n]?=some ds[n]:=getElem?_eq_getElem (by lia);generalize ds[n]=d at hd;have sl:(skl ds).length=ds.length:=by unfold skl;rw[length_map]
  have hs:(skl ds)[n]?=some (d.1,d.2.1.toNat,d.2.2.1.toNat):=by unfold skl;rw[getElem?_map,hd];rfl
  rw[gO hs];unfold gJ;split
  ·rename_i w
   have hk:d.1=.ho:=(hW _).mp w;obtain⟨a,b,c,f⟩:=pt d (mem_of_getElem? hd);have ri:=jY (W:=W) (sk:=skl ds) (m:=m) (fun x hx=>by
    obtain⟨y,hy,rfl⟩:=mem_map.mp hx;obtain⟨a,b,c,f⟩:=pt y hy;exact⟨by show y.2.1.toNat < m;lia,by show y.2.2.1.toNat < m;lia⟩) n (by lia)
   have wi:=Td (b:=d.2.2.1.toNat) (e:=d.2.1.toNat) ri.pt h20 (by lia) (by lia)
   cases e:kS (dE W (skl ds) n).1 d.2.2.1.toNat d.2.1.toNat with
   |none=>dsimp only;first | (rw[e];exact ih) | exact ih
   |some st=>
    exfalso
    rw[e] at wi;have eq:=wi.mp rfl;have cn:=(Oz (vS ri.pt) (by lia) (by lia)).mp eq;have ed:ds=ds.take n++d :: ds.drop (n+1):=by
     have hn':n < ds.length:=by lia
     have:ds[n]=d:=by rw[getElem?_eq_getElem hn'] at hd;exact Option.some.inj hd
     rw[<- this,getElem_cons_drop,take_append_drop]
    refine fr _ _ d ed hk ?_;refine Cn.ind (R:=fun p q=>Cn (iU .ho (ds.take n)) p q) (fun p=>.refl p) (fun _ _=>.symm) (fun _ _ _=>.trans) (fun x hx _=>?_) cn;obtain⟨y,hy,rfl⟩:=mem_map.mp hx;obtain⟨k,wk,sk,yn⟩:=Jm n y hy;unfold skl at sk;rw[getElem?_map] at sk;obtain⟨z,hz,ez⟩:=Option.map_eq_some_iff.mp sk;have e1:z.1=k:=congrArg (·.1) ez;have e2:z.2.1.toNat=y.2.1:=congrArg (·.2.1) ez;have e3:z.2.2.1.toNat=y.2.2:=congrArg (·.2.2) ez;have hz':z∈iU .ho (ds.take n):=mem_filter.mpr ⟨mem_of_getElem? (show (ds.take n)[y.1]?=some z by rw[getElem?_take_of_lt yn];exact hz),decide_eq_true (by rw[e1];exact(hW _).mp wk)⟩;have:Cn (iU .ho (ds.take n)) z.2.1.toNat z.2.2.1.toNat:=.row hz' (by rw[e1,(hW _).mp wk];exact fun z=>by cases z);rw[e2,e3] at this;show Cn _ ((y.2.1:Nat):Int).toNat ((y.2.2:Nat):Int).toNat;rw[Int.toNat_natCast,Int.toNat_natCast];exact this
  ·exact ih
end L2
namespace Mq
theorem Ud {a L l k:Int}(h:1<=p.2)(e:l=k*p.2)(l1:1<=l)(d:l ∣ L)(hL:1<=L)(v:val p=(a:Rat) / (L:Rat)):(Cq l p).natAbs<=a.natAbs:=by
 obtain⟨s,rfl⟩:=d;have s1:s≠0:=fun z=>by rw[z,Int.mul_zero] at hL;lia
 have hv:=Rm (L:=l) (k:=k) h e;have h2:=uR l1;have h3:((s:Int):Rat)≠0:=by exact_mod_cast s1
 have e2:Cq l p*s=a:=by
  have:((Cq l p:Int):Rat)*(s:Rat)=(a:Rat):=by
   rw[hv,v,Rat.intCast_mul];grind
  exact_mod_cast this
 rw[<- e2,Int.natAbs_mul];exact Nat.le_mul_of_pos_right _ (by lia)
end Mq
namespace Shp
open PySem L2
theorem Jf (hX:fZ X)(hq:Mq.Pos qs)(hl:qs.length=X.length)(hb:∀row∈X,∀p∈row,p.2 ∣ L/\∃a:Int,Mq.B b a/\Mq.val p=(a:Rat) / (L:Rat))(hqb:∀p∈qs,p.2 ∣ L/\∃a:Int,Mq.B b a/\Mq.val p=(a:Rat) / (L:Rat))(hL:1<=L):BdR b (iL X qs):=fun i x=>by
 unfold ent
 by_cases hi:i < X.length
 ·rw[uA hl hi];have pos:=tH hX hq hl hi;have al:∀p∈X.getD i []++[qs.getD i Mq.z0],p.2 ∣ L/\∃a:Int,Mq.B b a/\Mq.val p=(a:Rat) / (L:Rat):=fun p hp=>by
   rcases mem_append.mp hp with z | z
   ·exact hb _ (mem_of_getElem? (wJ hi)) p z
   ·have e:p=qs.getD i Mq.z0:=by simpa using z
    rw[e];exact hqb _ (mem_of_getElem? (Mq.My (show i < qs.length by lia)))
  generalize X.getD i []++[qs.getD i Mq.z0]=row at pos al;obtain⟨dv,l1⟩:=Mq.wO pos (fun p hp=>(al p hp).1) row.length (Nat.le_refl _);rw[take_length] at dv l1;unfold iw;rw[getD_eq_getElem?_getD,getElem?_map]
  cases e:row[x]? with
  |none=>exact Nat.two_pow_pos _
  |some p=>
   have mem:=mem_of_getElem? e;obtain⟨_,a,ab,ea⟩:=al p mem;obtain⟨k,ek⟩:=Da pos p mem;exact ab.le (Mq.Ud (pos p mem) ek l1 dv hL ea)
 ·rw[getD_eq_getElem?_getD (l:=iL X qs),getElem?_eq_none (by rw[Db hl];lia)];exact Nat.two_pow_pos _
structure Ovr (n:Nat) (ps:List Q2):Prop where
 e:∃D:Int,1<=D/\Mq.B n D/\∀p∈ps,∃t:Int,Mq.B n t/\Mq.val p=(t:Rat) / (D:Rat)
theorem Vb (d0:d≠0)(bd:Mq.B n d)(h:∀p∈ps,∃t:Int,Mq.B n t/\p=red t d):Ovr n ps:=by
 refine⟨(d.natAbs:Int),by lia,by show ((d.natAbs:Int)).natAbs < _;rw[Int.natAbs_natCast];exact bd,fun p hp=>?_⟩;obtain⟨t,bt,rfl⟩:=h p hp;rw[kJ d0];rcases Int.lt_or_le d 0 with z | z
 ·refine⟨-t,bt.neg,?_⟩;rw[show ((d.natAbs:Nat):Int)=-d by lia,Rat.intCast_neg,Rat.intCast_neg];have:((d:Int):Rat)≠0:=by exact_mod_cast d0
  grind
 ·exact⟨t,bt,by rw[show ((d.natAbs:Nat):Int)=d by lia]⟩
inductive mO (K:Frag) (vs:List V) (H:Hp) (Q:VK) (E:XK):Prop where
 |mk (g b D:Addr) (H0:Hp) (us bs:List V) (X:List (List Q2)) (qs:List Q2) (k n:Nat):vs=[.ref g,.ref b]->SqL K H g us->Fmd K H0 D H us X->SqL K H b bs->Fqs K H bs qs->qs.length=X.length->fE qs->(∀p∈qs,Bd k p)->fZ X->(∀row∈X,(∀p∈row,Bd k p)/\row.length=X.length)->X.length<=26->10+k+k*(X.length+1)<=8000->BdR n (iL X qs)->1<=n->bw n X.length<=8900->wgt X≠0->(∀l zs ps H',aZ H H'->H l=none->H' l=some (.lst zs)->Fqs K H' zs ps->Zy X qs ps->Ovr (bw n X.length) ps->Q (.ref l) H')->mO K vs H Q E
end Shp
namespace L2
open PySem PySem.Spec PyProof.Rows Shp
abbrev wd (m:Nat)(ds:List RD):Nat:=m - 1+bA ds
structure Sv (m:Nat) (ds:List RD) (r:Nat->Rat) (v:Nat->Rat):Prop where
 z:v 0=0
 e:∀i,i < wd m ds->(Mq.rs (wd m ds) fun j=>eqM m ds (i+1) (j+1)*v (j+1))=r (i+1)
def un (k x:Nat):Rat:=if x=k then 1 else 0
abbrev wF (m:Nat)(ds:List RD)(a b:Nat)(v:Nat->Rat):Prop:=Sv m ds (fun x=>un a x - un b x) v
section
variable {m:Nat} {ds:List RD} {r v:Nat->Rat}
theorem Sv.uni (o:Nof m ds)(h:Sv m ds r v)(g:Sv m ds r u):∀j,j<=wd m ds->v j=u j:=fun j hj=>by
 by_cases c:j=0
 ·rw[c,h.z,g.z]
 ·have:=o.uni (v:=fun j=>v (j+1)) (w:=fun j=>u (j+1)) (r:=fun i=>r (i+1)) h.e g.e (j - 1) (by unfold wd at hj;lia)
  rwa [show j - 1+1=j by lia] at this
theorem Sv.row (o:Nof m ds)(h:Sv m ds r v)(x1:1<=x)(xw:x<=wd m ds):nt v m ds x+hw v m ds x=r x:=by
 have e:=h.e (x - 1) (by lia);have m1:=o.m1;rw[show x - 1+1=x by lia] at e;have c:∀j,j < wd m ds->eqM m ds x (j+1)*v (j+1)=v (j+1)*eqM m ds (j+1) x:=fun j _=>by rw[vU,Rat.mul_comm]
 rw[aP c,Af (m:=m) (u:=v) h.z (by unfold wd;lia) x ds m o.pt m1 (by unfold wd;lia)] at e;exact e
theorem Sv.pt (o:Nof m ds)(h:Sv m ds r v)(x1:1<=x)(xm:x < m):nt v m ds x=r x:=by
 have:=h.row o x1 (by unfold wd;lia);rw[Bf ds m xm] at this;grind
theorem Sv.hold (o:Nof m ds)(h:Sv m ds r v)(xm:m<=x)(xw:x<=wd m ds):hw v m ds x=r x:=by
 have:=h.row o (by have:=o.m1;lia) xw;rw[Eh ds m o.pt xm] at this;grind
theorem qc6 (o:Nof m ds):Mq.rs m (fun p=>nt v m ds p)=0:=by
 have:=Ic (u:=v) (m:=m) (fun _=>1) ds m o.pt (fun _ _ _=>rfl);rw[<- this];exact aP fun p _=>by grind
theorem Dj (hk:k < n)(F:Nat->Rat):Mq.rs n (fun p=>F p*un k p)=F k:=by
 have:∀p,p < n->F p*un k p=if k=p then F p else 0:=fun p _=>by
  unfold un
  by_cases c:p=k
  ·rw[if_pos c,if_pos c.symm];grind
  ·rw[if_neg c,if_neg (fun z=>c z.symm)];grind
 rw[aP this,yI,if_pos hk]
theorem Na (hk:k < n):Mq.rs n (fun p=>un k p)=1:=by
 have:=Dj hk (fun _=>1);rw[<- this];exact aP fun p _=>by grind
theorem wF.all (o:Nof m ds)(h:wF m ds a b v)(ha:a < m)(hb:b < m):∀p,p < m->nt v m ds p=un a p - un b p:=fun p hp=>by
 by_cases c:p=0
 ·have s:=qc6 (v:=v) o;have t:Mq.rs m (fun p=>un a p - un b p)=0:=by
   have e:∀p,p < m->un a p - un b p=un a p + - un b p:=fun p _=>by grind
   rw[aP e,dC,jB,Na ha,Na hb];grind
  obtain⟨k,rfl⟩:∃k,m=k+1:=⟨m - 1,by lia⟩
  rw[jF] at s t;have e:Mq.rs k (fun i=>nt v (k+1) ds (i+1))=Mq.rs k (fun i=>un a (i+1) - un b (i+1)):=aP fun i hi=>h.pt o (by lia) (by lia);rw[e] at s;rw[c];grind
 ·exact h.pt o (by lia) hp
theorem wF.holds (o:Nof m ds)(h:wF m ds a b v)(ha:a < m)(hb:b < m):∀d∈ds,d.1=.ho->v d.2.1.toNat=v d.2.2.1.toNat:=
 Ai (u:=v) ds m fun y hy hl=>by
  rw[h.hold o hy (by have:=o.m1;unfold wd;lia)];unfold un;rw[if_neg (by lia),if_neg (by lia)];grind
theorem wF.eg (o:Nof m ds)(h:wF m ds a b v)(ha:a < m)(hb:b < m):L2.eg v m ds=v a - v b:=by
 rw[<- Ml (u:=v) (m:=m) ds m o.pt];have e:∀p,p < m->v p*nt v m ds p=v p*un a p + - (v p*un b p):=fun p hp=>by rw[h.all o ha hb p hp];grind
 rw[aP e,dC,jB,Dj ha,Dj hb];grind
theorem wF.nn (o:Nof m ds)(h:wF m ds a b v)(ha:a < m)(hb:b < m):0<=v a - v b:=by
 rw[<- h.eg o ha hb];exact(Dh (u:=v) ds m o.pos (h.holds o ha hb)).1
end
theorem Nh (u:Nat->Rat):∀(A B:List RD) (h:Nat),eg u h (A++B)=eg u h A+eg u (h+bA A) B
 | [],B,h=>by show eg u h B=0+eg u (h+0) B;rw[Nat.add_zero];grind
 |d :: A,B,h=>by
  show fw u d h*_+eg u (h+bV d.1) (A++B)=fw u d h*_+eg u (h+bV d.1) A+_;rw[Nh u A B,dM,Nat.add_assoc];grind
theorem Mr (u:Nat->Rat)(p:Nat):∀(A B:List RD) (h:Nat),nt u h (A++B) p=nt u h A p+nt u (h+bA A) B p
 | [],B,h=>by show nt u h B p=0+nt u (h+0) B p;rw[Nat.add_zero];grind
 |d :: A,B,h=>by
  show fw u d h*_+nt u (h+bV d.1) (A++B) p=fw u d h*_+nt u (h+bV d.1) A p+_;rw[Mr u p A B,dM,Nat.add_assoc];grind
section
variable {m:Nat} {A B:List RD} {d:RD} {v:Nat->Rat}
theorem Rv (o:Nof m (A++d :: B))(hk:d.1=.pc)(h:wF m (A++d :: B) d.2.1.toNat d.2.2.1.toNat v) :
  0<=v d.2.1.toNat - v d.2.2.1.toNat/\(v d.2.1.toNat - v d.2.2.1.toNat)*(1 / Mq.val d.2.2.2)<=1/\((v d.2.1.toNat - v d.2.2.1.toNat)*(1 / Mq.val d.2.2.2)=1↔¬Cn (A++B) d.2.1.toNat d.2.2.1.toNat):=by
 obtain⟨i0,i1,j0,j1⟩:=o.pt d (by simp);have ha:d.2.1.toNat < m:=by lia
 have hb:d.2.2.1.toNat < m:=by lia
 have nn:=h.nn o ha hb;have en:=h.eg o ha hb;have hol:=h.holds o ha hb;have zp:=o.pos d (by simp) hk;have qp:=Cu zp;rw[Nh] at en;have e1:eg v (m+bA A) (d :: B)=(v d.2.1.toNat - v d.2.2.1.toNat)*(1 / Mq.val d.2.2.2)*(v d.2.1.toNat - v d.2.2.1.toNat)+eg v (m+bA A+bV d.1) B:=by
  show fw v d _*_+_=_;unfold fw;rw[hk]
 rw[e1] at en;have nA:=Dh (u:=v) A m (fun x hx=>o.pos x (mem_append_left _ hx)) (fun x hx=>hol x (mem_append_left _ hx));have nB:=Dh (u:=v) B (m+bA A+bV d.1) (fun x hx=>o.pos x (mem_append_right _ (mem_cons_of_mem _ hx))) (fun x hx=>hol x (mem_append_right _ (mem_cons_of_mem _ hx)));refine⟨nn,?_,?_,?_⟩
 ·have nA:=nA.1;have nB:=nB.1;generalize eg v m A=x at *
  generalize eg v (m+bA A+bV d.1) B=y at *
  generalize v d.2.1.toNat - v d.2.2.1.toNat=R at *
  generalize 1 / Mq.val d.2.2.2=q at *
  rcases Rat.le_total (a:=R*q) (b:=1) with c | c
  ·exact c
  ·have h1:0<=(R*q - 1)*R:=Rat.mul_nonneg (by grind) nn;have h2:(R*q - 1)*R=-(x+y):=by grind
   have h3:(R*q - 1)*R=0:=by grind
   rcases Rat.mul_eq_zero.mp h3 with z | z
   ·grind
   ·rw[z];grind
 ·intro s1 cn;have x0:eg v m A=0/\eg v (m+bA A+bV d.1) B=0:=by
   have nA:=nA.1;have nB:=nB.1;rw[s1] at en;constructor<;>grind
  have pA:=nA.2 x0.1;have pB:=nB.2 x0.2;have:=Cn.ind (R:=fun a b=>v a=v b) (fun _=>rfl) (fun _ _ e=>e.symm) (fun _ _ _ a b=>a.trans b) (fun x hx hxk=>by
   rcases mem_append.mp hx with z | z
   ·cases c:x.1 with
    |pc=>exact pA x z c
    |pu=>exact absurd c hxk
    |ho=>exact hol x (mem_append_left _ z) c
   ·cases c:x.1 with
    |pc=>exact pB x z c
    |pu=>exact absurd c hxk
    |ho=>exact hol x (mem_append_right _ (mem_cons_of_mem _ z)) c) cn
  rw[this] at s1;grind
 ·intro nc
  open Classical in
  let F:Nat->Rat:=fun p=>if Cn (A++B) d.2.1.toNat p then 1 else 0
  have Fr:∀x∈A++B,x.1≠.pu->F x.2.1.toNat=F x.2.2.1.toNat:=fun x hx hxk=>by
   show (if Cn (A++B) d.2.1.toNat x.2.1.toNat then (1:Rat) else 0)=if Cn (A++B) d.2.1.toNat x.2.2.1.toNat then 1 else 0
   have r:Cn (A++B) x.2.1.toNat x.2.2.1.toNat:=.row hx hxk
   by_cases c:Cn (A++B) d.2.1.toNat x.2.1.toNat
   ·rw[if_pos c,if_pos (c.trans r)]
   ·rw[if_neg c,if_neg (fun z=>c (z.trans r.symm))]
  have Fs:F d.2.1.toNat=1:=if_pos (.refl _);have Fg:F d.2.2.1.toNat=0:=if_neg nc;have s1:Mq.rs m (fun p=>F p*nt v m (A++d :: B) p)=F d.2.1.toNat - F d.2.2.1.toNat:=by
   have e:∀p,p < m->F p*nt v m (A++d :: B) p=F p*un d.2.1.toNat p + - (F p*un d.2.2.1.toNat p):=fun p hp=>by rw[h.all o ha hb p hp];grind
   rw[aP e,dC,jB,Dj ha,Dj hb];grind
  have s2:Mq.rs m (fun p=>F p*nt v m (A++d :: B) p)=fw v d (m+bA A)*(F d.2.1.toNat - F d.2.2.1.toNat):=by
   have e:∀p,p < m->F p*nt v m (A++d :: B) p=F p*nt v m A p+(fw v d (m+bA A)*(F p*dl d.2.1.toNat d.2.2.1.toNat p)+F p*nt v (m+bA A+bV d.1) B p):=fun p hp=>by
    rw[Mr];show F p*(_+(fw v d (m+bA A)*dl d.2.1.toNat d.2.2.1.toNat p+nt v (m+bA A+bV d.1) B p))=_;grind
   rw[aP e,dC,dC,dW,rH F ha hb,Ic F A m (fun x hx=>o.pt x (mem_append_left _ hx)) (fun x hx=>Fr x (mem_append_left _ hx)),Ic F B _ (fun x hx=>o.pt x (mem_append_right _ (mem_cons_of_mem _ hx))) (fun x hx=>Fr x (mem_append_right _ hx))];grind
  rw[s1,Fs,Fg] at s2;have f1:fw v d (m+bA A)=(v d.2.1.toNat - v d.2.2.1.toNat)*(1 / Mq.val d.2.2.2):=by unfold fw;rw[hk]
  rw[f1] at s2;grind
end
theorem bQ.seqI {K:Frag}(ht:H t=some (.ins C dx fs))(e:bQ t H H')(h:SqL K H a xs):SqL K H' a xs:=by
 rcases h with (h | ⟨u,h⟩) | h
 ·exact .inl (.inl (e _ _ h (dL h ht (fun z=>by cases z))))
 ·exact .inl (.inr ⟨u,e _ _ h (dL h ht (fun z=>by cases z))⟩)
 ·exact .inr h
theorem bQ.seqTI {K:Frag}(ht:H t=some (.ins C dx fs))(e:bQ t H H')(h:SqT K H a xs):SqT K H' a xs:=by
 rcases h with (h | ⟨u,h⟩) | h
 ·exact .inl (.inl (e _ _ h (dL h ht (fun z=>by cases z))))
 ·exact .inl (.inr ⟨u,e _ _ h (dL h ht (fun z=>by cases z))⟩)
 ·exact .inr h
theorem bQ.fqsI {K:Frag}(ht:H t=some (.ins C dx fs))(e:bQ t H H'):∀{xs:List V} {ps:List Q2},Fqs K H xs ps->Fqs K H' xs ps
 |_,_,.nil=>.nil
 |_,_,.cons f q=>.cons (bQ.seqTI ht e f) (bQ.fqsI ht e q)
theorem gil:¬(("lines":Str) = "levels"):=by decide +kernel
theorem gio:¬(("lines":Str) = "flows"):=by decide +kernel
theorem glo:¬(("levels":Str) = "flows"):=by decide +kernel
def iA (p l a:Addr):List (Str × V):=cQ "flows" (.ref a) (cQ "levels" (.ref l) (cQ "lines" (.ref p) []))
theorem Ti (p l a:Addr):(iA p l a).lookup ("lines":Str)=some (.ref p):=by
 unfold iA;rw[bF,if_neg gio,bF,if_neg gil,bF,if_pos rfl]
theorem Ve (p l a:Addr):(iA p l a).lookup ("levels":Str)=some (.ref l):=by
 unfold iA;rw[bF,if_neg glo,bF,if_pos rfl]
theorem We (p l a:Addr):(iA p l a).lookup ("flows":Str)=some (.ref a):=by
 unfold iA;rw[bF,if_pos rfl]
theorem oP (p l a:Addr){x:Str}(h1:¬x = "lines")(h2:¬x = "levels")(h3:¬x = "flows"):(iA p l a).lookup x=none:=by
 unfold iA;rw[bF,if_neg h3,bF,if_neg h2,bF,if_neg h1];rfl
structure AB (K:Frag) (mg:Str->Option Value) (CA:Addr):Prop where
 cl:Cls K CA
 nI:gG K CA "lines"
 nE:gG K CA "levels"
 nO:gG K CA "flows"
 mA:mg "Answer"=some (.ref CA)
structure xO (CA:Addr) (K:Frag) (H:Hp) (a:Addr) (lv fl:List Q2):Prop where
 e:∃(dx li le fo:Addr) (xs ys:List V),H a=some (.ins CA dx (iA li le fo))/\SqL K H le xs/\Fqs K H xs lv/\SqL K H fo ys/\Fqs K H ys fl
theorem xO.same {K:Frag}(s:aZ H H')(h:xO CA K H a lv fl):xO CA K H' a lv fl:=by
 obtain⟨dx,li,le,fo,xs,ys,h1,h2,h3,h4,h5⟩:=h.e;exact⟨dx,li,le,fo,xs,ys,s _ _ h1,s.seq h2,h3.same s,s.seq h4,h5.same s⟩
inductive mI (CA:Addr) (K:Frag) (vs:List V) (H:Hp) (Q:VK) (E:XK):Prop where
 |mk (a:Addr) (lv fl:List Q2):vs=[.ref a]->xO CA K H a lv fl->(∀l xs H',aZ H H'->H l=none->H' l=some (.lst xs)->Fqs K H' xs lv->Q (.ref l) H')->mI CA K vs H Q E
inductive qF (CA:Addr) (K:Frag) (vs:List V) (H:Hp) (Q:VK) (E:XK):Prop where
 |mk (a:Addr) (lv fl:List Q2):vs=[.ref a]->xO CA K H a lv fl->(∀l xs H',aZ H H'->H l=none->H' l=some (.lst xs)->Fqs K H' xs fl->Q (.ref l) H')->qF CA K vs H Q E
def Ec (lv hs:List Q2)(t:Nat)(d:RD):Q2:=Ko d.1 (flF lv d) (if d.1=.ho then hs.getD t Mq.z0 else (0,1)) d.2.2.2
def rD (lv hs:List Q2):Nat->List RD->List Q2
 |_,[]=>[]
 |t,d :: r=>Ec lv hs t d :: rD lv hs (t+bV d.1) r
theorem xC (lv hs:List Q2)(d:RD):∀(ds:List RD) (t:Nat),rD lv hs t (ds++[d])=rD lv hs t ds++[Ec lv hs (t+bA ds) d]
 | [],t=>rfl
 |e :: r,t=>by
  show _ :: rD lv hs (t+bV e.1) (r++[d])=_ :: (rD lv hs (t+bV e.1) r++_);rw[xC lv hs d r,dM,Nat.add_assoc]
theorem vJ (lv hs:List Q2):∀(ds:List RD) (t:Nat),(rD lv hs t ds).length=ds.length
 | [],_=>rfl
 |d :: r,t=>by show (rD lv hs _ r).length+1=r.length+1;rw[vJ lv hs r]
def lvS (m:Nat)(sol:List Q2):List Q2:=(0,1) :: sol.take (m - 1)
section
variable {l CA a:Addr} {K:Frag} {H H':Hp} {lv fl:List Q2}
theorem bQ.fqsL (hl:H l=some (.lst as))(e:bQ l H H'):∀{xs:List V} {ps:List Q2},Fqs K H xs ps->Fqs K H' xs ps
 |_,_,.nil=>.nil
 |_,_,.cons f q=>.cons (e.seqT hl f) (bQ.fqsL hl e q)
end
theorem uE (l:Low p)(hL:1<=L)(LB:Mq.B b L)(ab:Mq.B b a)(h:Mq.val p=(a:Rat) / (L:Rat)):Bd b p/\p.2 ∣ L:=by
 obtain⟨d,t⟩:=Dg l hL h;refine⟨⟨ab.le t,LB.le ?_⟩,d⟩;have:=Int.le_of_dvd (by lia) d;have:=l.pos;lia
structure EqB (m b:Nat) (L:Int) (ds:List RD):Prop where
 o:Nof m ds
 w26:wd m ds<=26
 b1:1<=b
 hb:10+b+b*(wd m ds+1)<=8000
 hbw:bw b (wd m ds)<=4000
 L1:1<=L
 LB:Mq.B b L
 eM:∀i j,∃a:Int,Mq.B b a/\eqM m ds (i+1) (j+1)=(a:Rat) / (L:Rat)
def Q01 (p:Q2):Prop:=Low p/\p.2=1/\p.1.natAbs<=1
theorem Q01.bd (h:Q01 p)(b1:1<=b):Bd b p:=by
 obtain⟨_,e,l⟩:=h;have:(2:Nat) ^ 1<=2 ^ b:=Nat.pow_le_pow_right (by decide) b1;exact⟨by show p.1.natAbs < 2 ^ b;lia,by show p.2.natAbs < 2 ^ b;rw[e];show 1 < 2 ^ b;lia⟩
theorem Q01.ov (h:Q01 p)(L1:1<=L)(LB:Mq.B b L):p.2 ∣ L/\∃a:Int,Mq.B b a/\Mq.val p=(a:Rat) / (L:Rat):=by
 obtain⟨_,e,l⟩:=h;refine⟨by rw[e];exact Int.one_dvd _,p.1*L,LB.le ?_,?_⟩
 ·rw[Int.natAbs_mul]
  calc p.1.natAbs*L.natAbs<=1*L.natAbs:=Nat.mul_le_mul_right _ l
   _=L.natAbs:=Nat.one_mul _
 ·have:=uR L1;unfold Mq.val;rw[e,Rat.intCast_mul,show ((1:Int):Rat)=1 by rfl];grind
def uP (sol:List Q2)(x:Nat):Rat:=if x=0 then 0 else Mq.val (sol.getD (x - 1) Mq.z0)
section
variable {m b N:Nat} {L:Int} {ds:List RD} {X:List (List Q2)} {Y qs ps:List Q2}
theorem EqB.cell (h:EqB m b L ds)(e:yX m ds N X Y):∀row∈X,(∀p∈row,Bd b p/\p.2 ∣ L/\∃a:Int,Mq.B b a/\Mq.val p=(a:Rat) / (L:Rat))/\row.length=X.length:=fun row hr=>by
 refine⟨fun p hp=>?_,by rw[e.x.w row hr,e.x.h]⟩;obtain⟨i,hi⟩:=getElem?_of_mem hr;obtain⟨j,hj⟩:=getElem?_of_mem hp;have ep:p=jO X i j:=by
  unfold jO;rw[getD_eq_getElem?_getD (l:=X),hi];show p=row.getD j (0,1);rw[getD_eq_getElem?_getD,hj];rfl
 obtain⟨a,ab,ea⟩:=h.eM i j;have ev:Mq.val p=(a:Rat) / (L:Rat):=by rw[ep,e.vx,ea]
 obtain⟨x,y⟩:=uE (e.x.l row hr p hp).1 h.L1 h.LB ab ev;exact⟨x,y,a,ab,ev⟩
theorem EqB.pos (e:yX m ds N X Y):fZ X:=fun row hr p hp=>(e.x.l row hr p hp).1.pos
theorem EqB.wgt (h:EqB m b L ds)(e:yX m ds N X Y):wgt X≠0:=by
 by_cases c:1<=X.length
 ·exact h.o.wgt_ne e (EqB.pos e) (fun row hr=>(h.cell e row hr).2) c
 ·have:X=[]:=eq_nil_of_length_eq_zero (by lia);subst this;show (1:Rat)≠0;decide
theorem EqB.sol (e:yX m ds N X Y)(s:Zy X qs ps)(vq:∀i,i < wd m ds->Mq.val (qs.getD i Mq.z0)=r (i+1)):Sv m ds r (uP ps):=by
 have lX:X.length=wd m ds:=e.x.h;refine⟨if_pos rfl,fun i hi=>?_⟩;rw[<- vq i hi,<- s.sum i (by lia),lX];refine aP fun j _=>?_;unfold uP;rw[if_neg (by lia),Nat.add_sub_cancel,Mi e]
end
theorem Hq (hl:m - 1<=ps.length)(hp:p < m):Mq.val ((lvS m ps).getD p (0,1))=uP ps p:=by
 unfold lvS uP
 by_cases c:p=0
 ·subst c;rw[if_pos rfl];exact rM
 ·rw[if_neg c];obtain⟨q,rfl⟩:∃q,p=q+1:=⟨p - 1,by lia⟩
  rw[Nat.add_sub_cancel,getD_eq_getElem?_getD,getElem?_cons_succ,getElem?_take_of_lt (by lia),<- getD_eq_getElem?_getD]
theorem sS (m1:1<=m)(hl:m - 1<=ps.length):(lvS m ps).length=m:=by
 unfold lvS;rw[length_cons,length_take];lia
theorem tF (h:fE ps):fE (lvS m ps):=fun p hp=>by
 rcases mem_cons.mp hp with z | z
 ·rw[z];exact⟨by decide,by decide⟩
 ·exact h p (mem_of_mem_take z)
theorem yV (h:Ovr n ps):Ovr n (lvS m ps):=by
 obtain⟨D,D1,bD,al⟩:=h.e;refine⟨D,D1,bD,fun p hp=>?_⟩;rcases mem_cons.mp hp with z | z
 ·refine⟨0,Nat.two_pow_pos _,?_⟩;rw[z,rM,Rat.div_def];show (0:Rat)=((0:Int):Rat)*_;rw[show ((0:Int):Rat)=0 by rfl];grind
 ·exact al p (mem_of_mem_take z)
theorem Ovr.minus (h:Ovr n ps)(low:fE ps)(hp:p∈ps)(hq:q∈ps):Bd (n+1) (Mq.minus p q)/\Bd n p/\Bd n q:=by
 obtain⟨D,D1,bD,al⟩:=h.e;obtain⟨t,bt,et⟩:=al p hp;obtain⟨s,bs,es⟩:=al q hq;have lp:=low p hp;have lq:=low q hq;refine⟨?_,(uE lp D1 bD bt et).1,(uE lq D1 bD bs es).1⟩;refine(uE (dD lp.pos lq.pos) D1 (bD.mono (by lia)) (bt.sub bs) ?_).1;rw[gE lp.pos lq.pos,et,es,Rat.intCast_sub,Rat.div_def,Rat.div_def,Rat.div_def];grind
structure Bw (CN:Addr) (K:Frag) (H:Hp) (n l:Addr) (m b:Nat) (kb:Nat->Nat) (L:Int) (ds:List RD):Prop where
 nt:dF CN K H n l (m:Int) ds
 ok:∀i d,ds[i]?=some d->wL (m:Int) d/\Bd (kb i) d.2.2.2
 m20:m<=20
 h40:ds.length<=40
 cu:kK kb ds.length+30<=8900
 eb:EqB m b L ds
theorem Bw.same {K:Frag}(s:aZ H H')(h:Bw CN K H n l m b kb L ds):Bw CN K H' n l m b kb L ds:=⟨h.nt.same s,h.ok,h.m20,h.h40,h.cu,h.eb⟩
abbrev Hn:=Option (Nat × Nat) × RD
def rot (m t k:Nat):Nat:=(k+t) % m
structure Ou (m t:Nat) (e:Hn):Prop where
 pt:cX (m:Int) e.2.2.1 e.2.2.2.1
 sl:Low e.2.2.2.2
 bd:Bd 7 e.2.2.2.2
 pc:e.2.1=.pc->0 < e.2.2.2.2.1/\Bd 4 e.2.2.2.2
 ho:e.2.1=.ho->e.1≠none
 tg:∀k j,e.1=some (k,j)->e.2.1≠.pu/\1<=k/\k < m/\j < k/\((e.2.2.1=(rot m t k:Int)/\e.2.2.2.1=(rot m t j:Int))\/(e.2.2.1=(rot m t j:Int)/\e.2.2.2.1=(rot m t k:Int)))
abbrev tgs (E:List Hn):List (Nat × Nat):=E.filterMap (·.1)
structure Hng (m t J:Nat) (E:List Hn):Prop where
 m1:1<=m
 tm:t < m
 en:∀e∈E,Ou m t e
 nd:((tgs E).map (·.1)).Nodup
 al:∀k,1<=k->k < J->∃j,(k,j)∈tgs E
 lt:∀p∈tgs E,p.1 < J
 ln:(tgs E).length+1=J
section
variable {m t J:Nat} {E:List Hn}
theorem Oh (m1:1<=m)(k:Nat):rot m t k < m:=Nat.mod_lt _ (by lia)
theorem mG (tm:t < m)(hj:j < m)(hk:k < m)(h:rot m t j=rot m t k):j=k:=by
 unfold rot at h;have a:(j+t) % m=if j+t < m then j+t else j+t - m:=by
  split
  ·exact Nat.mod_eq_of_lt (by assumption)
  ·rw[Nat.mod_eq_sub_mod (by lia),Nat.mod_eq_of_lt (by lia)]
 have b:(k+t) % m=if k+t < m then k+t else k+t - m:=by
  split
  ·exact Nat.mod_eq_of_lt (by assumption)
  ·rw[Nat.mod_eq_sub_mod (by lia),Nat.mod_eq_of_lt (by lia)]
 rw[a,b] at h;split at h<;>split at h<;>lia
theorem zW (tm:t < m)(hp:p < m):∃k,k < m/\rot m t k=p:=by
 by_cases c:t<=p
 ·exact⟨p - t,by lia,by unfold rot;rw[show p - t+t=p by lia,Nat.mod_eq_of_lt hp]⟩
 ·exact⟨p+m - t,by lia,by unfold rot;rw[show p+m - t+t=p+m by lia,Nat.add_mod_right,Nat.mod_eq_of_lt hp]⟩
theorem Hng.ins (h:Hng m t J E)(he:Ou m t e)(e0:e.1=none)(i:Nat):Hng m t J (E.take i++e :: E.drop i):=by
 have et:tgs (E.take i++e :: E.drop i)=tgs E:=by
  unfold tgs;rw[filterMap_append,filterMap_cons_none e0,<- filterMap_append,take_append_drop]
 refine⟨h.m1,h.tm,fun x hx=>?_,by rw[et];exact h.nd,fun k a b=>by rw[et];exact h.al k a b,fun p hp=>h.lt p (by rw[et] at hp;exact hp),by rw[et];exact h.ln⟩;rcases Jv hx with z | z
 ·rw[z];exact he
 ·exact h.en x z
theorem Hng.tree (h:Hng m t J E)(he:Ou m t e)(e0:e.1=some (J,j))(i:Nat):Hng m t (J+1) (E.take i++e :: E.drop i):=by
 have et:(tgs (E.take i++e :: E.drop i)).Perm ((J,j) :: tgs E):=by
  unfold tgs;rw[filterMap_append,filterMap_cons_some e0];refine perm_middle.trans ?_;rw[<- filterMap_append,take_append_drop]
 refine⟨h.m1,h.tm,fun x hx=>?_,?_,fun k a b=>?_,fun p hp=>?_,?_⟩
 ·rcases Jv hx with z | z
  ·rw[z];exact he
  ·exact h.en x z
 ·rw[(et.map (·.1)).nodup_iff,map_cons,nodup_cons];refine⟨fun z=>?_,h.nd⟩;obtain⟨p,hp,ep⟩:=mem_map.mp z;have:=h.lt p hp;lia
 ·by_cases c:k=J
  ·exact⟨j,et.mem_iff.mpr (by rw[c];simp)⟩
  ·obtain⟨j',hj'⟩:=h.al k a (by lia);exact⟨j',et.mem_iff.mpr (mem_cons_of_mem _ hj')⟩
 ·rcases mem_cons.mp (et.mem_iff.mp hp) with z | z
  ·rw[z];show J < J+1;lia
  ·have:=h.lt p z;lia
 ·rw[et.length_eq,length_cons,h.ln]
inductive rP (T:List (Nat × Nat)) (k:Nat):Nat->Prop where
 |self:rP T k k
 |up {p q:Nat} (h:(p,q)∈T) (u:rP T k q):rP T k p
theorem rP.ge (d:∀p q,(p,q)∈T->q < p)(h:rP T k p):k<=p:=by
 induction h with
 |self=>exact Nat.le_refl _
 |up h _ ih=>have:=d _ _ h;lia
theorem Ue {T:List (Nat × Nat)}(nd:(T.map (·.1)).Nodup)(h:(p,q)∈T)(h':(p,q')∈T):q=q':=by
 induction T with
 |nil=>cases h
 |cons x T ih=>
  rw[map_cons,nodup_cons] at nd;rcases mem_cons.mp h with z | z<;>rcases mem_cons.mp h' with z' | z'
  ·rw[<- z] at z';exact(Prod.ext_iff.mp z').2.symm
  ·exact absurd (mem_map.mpr ⟨_,z',by rw[<- z]⟩) nd.1
  ·exact absurd (mem_map.mpr ⟨_,z,by rw[<- z']⟩) nd.1
  ·exact ih nd.2 z z'
theorem rP.iff (nd:(T.map (·.1)).Nodup)(h:(p,q)∈T)(ne:p≠k):rP T k p↔rP T k q:=by
 refine⟨fun u=>?_,fun u=>.up h u⟩
 cases u with
 |self=>exact absurd rfl ne
 |up h' u=>rw[Ue nd h h'];exact u
theorem Nn:∀{E:List Hn},((tgs E).map (·.1)).Nodup->∀{i i':Nat} {e e':Hn} {k j j':Nat},E[i]?=some e->E[i']?=some e'->e.1=some (k,j)->e'.1=some (k,j')->i=i'
 | [],_,i,_,_,_,_,_,_,h,_,_,_=>by simp at h
 |x :: E,nd,i,i',e,e',k,j,j',h,h',t,t'=>by
  have mem:∀{a:Nat} {y:Hn} {b:Nat},E[a]?=some y->y.1=some (k,b)->k∈(tgs E).map (·.1):=fun hy ty=>mem_map.mpr ⟨_,mem_filterMap.mpr ⟨_,mem_of_getElem? hy,ty⟩,rfl⟩;have nd':((tgs E).map (·.1)).Nodup:=by
   unfold tgs at nd;rw[filterMap_cons] at nd;split at nd
   ·exact nd
   ·rw[map_cons] at nd;exact(nodup_cons.mp nd).2
  have no:∀{b:Nat},x.1=some (k,b)->k∉(tgs E).map (·.1):=fun tx=>by
   unfold tgs at nd;rw[filterMap_cons_some tx,map_cons] at nd;exact(nodup_cons.mp nd).1
  match i,i',h,h' with
  |0,0,_,_=>rfl
  |0,a+1,h,h'=>
   have:x=e:=by simpa using h
   subst this;exact absurd (mem (by simpa using h') t') (no t)
  |a+1,0,h,h'=>
   have:x=e':=by simpa using h'
   subst this;exact absurd (mem (by simpa using h) t) (no t')
  |a+1,a' + 1,h,h'=>
   have:=Nn nd' (i:=a) (i':=a') (by simpa using h) (by simpa using h') t t';lia
abbrev rwH (E:List Hn):List RD:=E.map (·.2)
theorem Hng.pt (h:Hng m t J E):∀d∈rwH E,cX (m:Int) d.2.1 d.2.2.1:=fun d hd=>by
 obtain⟨e,he,rfl⟩:=mem_map.mp hd;exact(h.en e he).pt
theorem Hng.cn0 (h:Hng m t m E):∀n k,k<=n->k < m->Cn (rwH E) (rot m t 0) (rot m t k)
 |n,0,_,_=>.refl _
 |0,k+1,hk,_=>by lia
 |n+1,k+1,hk,hm=>by
  obtain⟨j,hj⟩:=h.al (k+1) (by lia) hm;obtain⟨e,he,te⟩:=mem_filterMap.mp hj;obtain⟨hp,_,_,jk,ends⟩:=(h.en e he).tg _ _ te;have ih:=Hng.cn0 h n j (by lia) (by lia);have r:Cn (rwH E) e.2.2.1.toNat e.2.2.2.1.toNat:=.row (mem_map.mpr ⟨e,he,rfl⟩) hp;rcases ends with ⟨a,b⟩ | ⟨a,b⟩
  ·rw[a,b,Int.toNat_natCast,Int.toNat_natCast] at r;exact ih.trans r.symm
  ·rw[a,b,Int.toNat_natCast,Int.toNat_natCast] at r;exact ih.trans r
theorem Hng.cn (h:Hng m t m E)(p:Nat)(hp:p < m):Cn (rwH E) 0 p:=by
 obtain⟨k,hk,rfl⟩:=zW h.tm hp;obtain⟨k0,hk0,e0⟩:=zW h.tm (show 0 < m by have:=h.m1;lia);have a:=h.cn0 k k (Nat.le_refl _) hk;have b:=h.cn0 k0 k0 (Nat.le_refl _) hk0;rw[e0] at b;exact b.symm.trans a
theorem Hng.frs (h:Hng m t J E):Frs (rwH E):=by
 intro A B d e hd cn;have at_:(rwH E)[A.length]?=some d:=by rw[e,getElem?_append_right (Nat.le_refl _),Nat.sub_self];rfl
 have atx:∀i x,i < A.length->A[i]?=some x->∃y:Hn,E[i]?=some y/\y.2=x:=fun i x hi hx=>by
  have:(rwH E)[i]?=some x:=by rw[e,getElem?_append_left hi];exact hx
  rw[getElem?_map] at this;obtain⟨y,hy,ey⟩:=Option.map_eq_some_iff.mp this;exact⟨y,hy,ey⟩
 rw[getElem?_map] at at_;obtain⟨y,hy,rfl⟩:=Option.map_eq_some_iff.mp at_;have oy:=h.en y (mem_of_getElem? hy);obtain⟨⟨k,j⟩,tk⟩:∃p,y.1=some p:=Option.ne_none_iff_exists'.mp (oy.ho hd);obtain⟨_,k1,km,jk,ends⟩:=oy.tg k j tk;have dec:∀p q,(p,q)∈tgs E->q < p:=fun p q hpq=>by
  obtain⟨z,hz,tz⟩:=mem_filterMap.mp hpq;exact((h.en z hz).tg _ _ tz).2.2.2.1
 have r:=Cn.ind (ds:=iU .ho A) (R:=fun p q=>p=q\/(p < m/\q < m/\∀a b,a < m->b < m->rot m t a=p->rot m t b=q->(rP (tgs E) k a↔rP (tgs E) k b))) (fun p=>.inl rfl) (fun p q f=>by
  rcases f with f | ⟨x,y,f⟩
  ·exact .inl f.symm
  ·exact .inr ⟨y,x,fun a b ha hb e1 e2=>(f b a hb ha e2 e1).symm⟩) (fun p q x f g=>by
  rcases f with f | ⟨f1,f2,f⟩
  ·rw[f];exact g
  ·rcases g with g | ⟨g1,g2,g⟩
   ·rw[<- g];exact .inr ⟨f1,f2,f⟩
   ·refine .inr ⟨f1,g2,fun a b ha hb e1 e2=>?_⟩;obtain⟨c,hc,ec⟩:=zW h.tm f2;exact(f a c ha hc e1 ec).trans (g c b hc hb ec e2)) (fun x hx hk=>by
  obtain⟨xA,xk⟩:=mem_filter.mp hx;obtain⟨i,hi⟩:=getElem?_of_mem xA;have il:=(List.getElem?_eq_some_iff.mp hi).1;obtain⟨z,hz,rfl⟩:=atx i x il hi;have oz:=h.en z (mem_of_getElem? hz);obtain⟨⟨k',j'⟩,tk'⟩:∃p,z.1=some p:=Option.ne_none_iff_exists'.mp (oz.ho (of_decide_eq_true xk));obtain⟨_,a1,am,jk',ends'⟩:=oz.tg k' j' tk';have ne:k'≠k:=fun c=>by
   rw[c] at tk';have:=Nn h.nd hz hy tk' tk;lia
  have mem:(k',j')∈tgs E:=mem_filterMap.mpr ⟨z,mem_of_getElem? hz,tk'⟩;have iff:=rP.iff h.nd mem ne;obtain⟨q0,q1,q2,q3⟩:=oz.pt;refine .inr ⟨by lia,by lia,fun a b ha hb e1 e2=>?_⟩;rcases ends' with ⟨x,y⟩ | ⟨x,y⟩
  ·rw[x,Int.toNat_natCast] at e1;rw[y,Int.toNat_natCast] at e2;rw[mG h.tm ha am e1,mG h.tm hb (by lia) e2];exact iff
  ·rw[x,Int.toNat_natCast] at e1;rw[y,Int.toNat_natCast] at e2;rw[mG h.tm ha (by lia) e1,mG h.tm hb am e2];exact iff.symm) cn
 have no:¬rP (tgs E) k j:=fun c=>by
  have:=c.ge dec;lia
 rcases ends with ⟨a,b⟩ | ⟨a,b⟩
 ·rw[a,b,Int.toNat_natCast,Int.toNat_natCast] at r;rcases r with r | ⟨_,_,r⟩
  ·have:=mG h.tm km (by lia) r;lia
  ·exact no ((r k j km (by lia) rfl rfl).mp .self)
 ·rw[a,b,Int.toNat_natCast,Int.toNat_natCast] at r;rcases r with r | ⟨_,_,r⟩
  ·have:=mG h.tm (by lia) km r;lia
  ·exact no ((r j k (by lia) km rfl rfl).mpr .self)
end
section
variable {m u:Nat} {hs:List Q2} {par:Nat->Nat} {E:List Ent}
theorem So:∀{ds:List RD} (k:Nat),(∀d∈ds,∀k,Mq.Fr L M (cM d k x y))->Mq.Fr L (ds.length*M) (eqM k ds x y)
 | [],_,_=>Mq.Fr.zero.mono (Nat.zero_le _)
 |d :: ds,k,q=>by
  rw[length_cons,Nat.succ_mul,Nat.add_comm];exact(q d (by simp) k).add (So _ fun x hx=>q x (mem_cons_of_mem _ hx))
theorem Oc:∀{ds:List RD} (k:Nat),(∀d∈ds,∀k,Mq.Fr L M (cR d k x))->Mq.Fr L (ds.length*M) (eqR k ds x)
 | [],_,_=>Mq.Fr.zero.mono (Nat.zero_le _)
 |d :: ds,k,q=>by
  rw[length_cons,Nat.succ_mul,Nat.add_comm];exact(q d (by simp) k).add (Oc _ fun x hx=>q x (mem_cons_of_mem _ hx))
theorem Hh [Decidable c](g:Mq.Fr L M y):Mq.Fr L M (if c then y else 0):=by
 split
 ·exact g
 ·exact Mq.Fr.zero.mono (Nat.zero_le _)
end
section
variable {m t J:Nat} {E:List Hn}
theorem Hng.hold_le (h:Hng m t J E):bA (rwH E)+1<=J:=by
 have:∀{E:List Hn},(∀e∈E,e.2.1=.ho->e.1≠none)->bA (rwH E)<=(tgs E).length:=fun {E}=>by
  induction E with
  |nil=>intro _;exact Nat.le_refl _
  |cons e E ih=>
   intro h;have ih:=ih fun x hx=>h x (mem_cons_of_mem _ hx);show bA (e.2 :: rwH E)<=_;rw[dM];unfold tgs at ih ⊢;rw[filterMap_cons]
   by_cases c:e.2.1=.ho
   ·obtain⟨k,tk⟩:∃k,e.1=some k:=Option.ne_none_iff_exists'.mp (h e (by simp) c);rw[tk];have:bV e.2.1=1:=if_pos c;simp only[length_cons];lia
   ·have:bV e.2.1=0:=if_neg c;split<;>(try simp only[length_cons])<;>lia
 have a:=this fun e he hk=>(h.en e he).ho hk;have:=h.ln;lia
theorem Hng.nof (h:Hng m t m E):Nof m (rwH E):=by
 refine⟨h.m1,h.pt,fun d hd hk=>?_,h.cn,h.frs⟩;obtain⟨e,he,rfl⟩:=mem_map.mp hd;have p0:=((h.en e he).pc hk).1;have:=(h.en e he).sl.pos;unfold Mq.val;rw[Rat.div_def];exact Rat.mul_pos (by exact_mod_cast p0) (Rat.inv_pos.mpr (by exact_mod_cast (show 0 < e.2.2.2.2.2 by lia)))
end
abbrev sk3 (d:RD):Kd × Int × Int:=(d.1,d.2.1,d.2.2.1)
theorem Cn.sk (h:ds.map sk3=es.map sk3)(c:Cn ds p q):Cn es p q:=by
 refine Cn.ind (R:=fun p q=>Cn es p q) (fun p=>.refl p) (fun _ _=>.symm) (fun _ _ _=>.trans) (fun x hx hk=>?_) c;have:sk3 x∈es.map sk3:=by rw[<- h];exact mem_map.mpr ⟨x,hx,rfl⟩
 obtain⟨y,hy,e⟩:=mem_map.mp this;have e1:y.1=x.1:=congrArg (·.1) e;have e2:y.2.1=x.2.1:=congrArg (·.2.1) e;have e3:y.2.2.1=x.2.2.1:=congrArg (·.2.2) e;have:=Cn.row hy (by rw[e1];exact hk);rw[e2,e3] at this;exact this
theorem Sa (k:Kd)(h:ds.map sk3=es.map sk3):(iU k ds).map sk3=(iU k es).map sk3:=by
 have:∀l:List RD,(iU k l).map sk3=(l.map sk3).filter fun x=>decide (x.1=k):=fun l=>by
  unfold iU;rw[filter_map];rfl
 rw[this,this,h]
theorem Gm (h:ds.map sk3=es.map sk3):bA ds=bA es:=by
 have:=congrArg List.length (Sa .ho h);rw[length_map,length_map] at this;exact this
theorem Frs.sk (h:ds.map sk3=es.map sk3)(f:Frs ds):Frs es:=by
 intro A B d e hd cn;have hl:ds.length=es.length:=by have:=congrArg List.length h;rwa [length_map,length_map] at this
 have hn:A.length < ds.length:=by rw[hl,e,List.length_append,length_cons];lia
 have eA:(ds.take A.length).map sk3=A.map sk3:=by rw[map_take,h,<- map_take,e,take_left]
 have ed:sk3 ds[A.length]=sk3 d:=by
  have a1:(ds.map sk3)[A.length]?=some (sk3 ds[A.length]):=by rw[getElem?_map,getElem?_eq_getElem hn];rfl
  have a2:(es.map sk3)[A.length]?=some (sk3 d):=by rw[getElem?_map,e,getElem?_append_right (Nat.le_refl _),Nat.sub_self];rfl
  rw[h,a2] at a1;exact(Option.some.inj a1).symm
 have e1:(ds[A.length]).1=d.1:=congrArg (·.1) ed;have e2:(ds[A.length]).2.1=d.2.1:=congrArg (·.2.1) ed;have e3:(ds[A.length]).2.2.1=d.2.2.1:=congrArg (·.2.2) ed;refine f (ds.take A.length) (ds.drop (A.length+1)) ds[A.length] (by rw[getElem_cons_drop,take_append_drop]) (by rw[e1];exact hd) ?_;rw[e2,e3];exact Cn.sk (Sa .ho eA.symm) cn
theorem Nof.sk (h:ds.map sk3=es.map sk3)(o:Nof m ds)(pos:∀d∈es,d.1=.pc->0 < Mq.val d.2.2.2):Nof m es:=by
 refine⟨o.m1,fun d hd=>?_,pos,fun p hp=>Cn.sk h (o.cn p hp),Frs.sk h o.fr⟩;have:sk3 d∈ds.map sk3:=by rw[h];exact mem_map.mpr ⟨d,hd,rfl⟩
 obtain⟨y,hy,e⟩:=mem_map.mp this;have e2:y.2.1=d.2.1:=congrArg (·.2.1) e;have e3:y.2.2.1=d.2.2.1:=congrArg (·.2.2) e;have:=o.pt y hy
 rwa [e2,e3] at this
theorem Xo {ds:List RD}(h:ds[i]?=some d)(e:sk3 d'=sk3 d):ds.map sk3=(ds.set i d').map sk3:=by
 refine ext_getElem? fun j=>?_;rw[getElem?_map,getElem?_map,getElem?_set]
 by_cases c:i=j
 ·subst c;rw[if_pos rfl,h,if_pos (List.getElem?_eq_some_iff.mp h).1];show some (sk3 d)=some (sk3 d');rw[e]
 ·rw[if_neg c]
def shR (m:Nat)(ds:List RD)(k:Nat)(d:RD)(x:Nat):Rat:=if d.1=.ho then un (m+bA (ds.take k)) x else un d.2.1.toNat x - un d.2.2.1.toNat x
theorem Zu {ds:List RD}(h:ds[i]?=some d):bA (ds.take (i+1))=bA (ds.take i)+bV d.1:=by
 rw[take_add_one,h];exact fY _ _
theorem Tc (ds:List RD)(i:Nat):bA (ds.take i)<=bA ds:=by
 have:ds=ds.take i++ds.drop i:=(take_append_drop i ds).symm;unfold bA iU
 conv=>rhs;rw[this]
 rw[filter_append,List.length_append];lia
theorem vI (h:ds[k]?=some d)(hd:d.1=.ho):bA (ds.take k) < bA ds:=by
 have a:=Zu h;have b:=Tc ds (k+1);have:bV d.1=1:=by rw[hd];rfl
 lia
theorem sY {ds:List RD}(h:ds[i]?=some d)(hd:d.1=.ho)(ik:i < k):bA (ds.take i) < bA (ds.take k):=by
 have h':(ds.take k)[i]?=some d:=by rw[getElem?_take_of_lt ik];exact h
 have:=vI h' hd
 rwa [take_take,show min i k=i by lia] at this
theorem Pi (u:Nat->Rat):∀(ds:List RD) (h i:Nat) (d:RD),ds[i]?=some d->d.1=.ho->hw u h ds (h+bA (ds.take i))=u d.2.1.toNat - u d.2.2.1.toNat
 | [],_,_,_,e,_=>by cases e
 |c :: ds,h,0,d,e,hd=>by
  have e:c=d:=Option.some.inj e;subst e;show (if c.1=.ho/\h=h+0 then u c.2.1.toNat - u c.2.2.1.toNat else 0)+hw u (h+bV c.1) ds (h+0)=_;have h1:bV c.1=1:=by rw[hd];rfl
  rw[if_pos ⟨hd,rfl⟩,Bf ds _ (by lia)];grind
 |c :: ds,h,i+1,d,e,hd=>by
  have ih:=Pi u ds (h+bV c.1) i d e hd;have e1:h+bA ((c :: ds).take (i+1))=h+bV c.1+bA (ds.take i):=by
   rw[take_succ_cons,dM];lia
  rw[e1];show (if c.1=.ho/\h=h+bV c.1+bA (ds.take i) then u c.2.1.toNat - u c.2.2.1.toNat else 0)+hw u (h+bV c.1) ds (h+bV c.1+bA (ds.take i))=_;rw[ih,if_neg (fun z=>?_)]
  ·grind
  ·have:bV c.1=1:=by rw[z.1];rfl
   lia
structure StB (K:Frag) (H:Hp) (b:Addr) (ys:List V) (ss:List Q2) (n:Nat):Prop where
 s:SqL K H b ys
 f:Fqs K H ys ss
 l:ss.length=n
 b:∀s∈ss,Low s/\Bd 3900 s
theorem StB.same {K:Frag}{b:Addr}(e:aZ H H')(h:StB K H b ys ss n):StB K H' b ys ss n:=⟨e.seq h.s,h.f.same e,h.l,h.b⟩
inductive tI (K:Frag) (CK:Kd->Addr) (vs:List V) (H:Hp) (Q:VK) (E:XK):Prop where
 |mk (x a:Addr) (d:RD) (z:V) (xs:List V) (hp:List Q2) (n:Nat):vs=[.ref x,.ref a]->Rw CK H x d.1 (.int d.2.1) (.int d.2.2.1) z->StB K H a xs hp n->cX (n:Int) d.2.1 d.2.2.1->mD H Q (flF hp d)->tI K CK vs H Q E
theorem Dr (h:Ovr n ps)(low:fE ps)(hn:n<=3900):∀p∈ps,Low p/\Bd 3900 p:=fun p hp=>⟨low p hp,(Ovr.minus h low hp hp).2.1.mono hn⟩
theorem Ya:Bd (n+1) (0,1):=⟨Nat.two_pow_pos _,Nat.one_lt_two_pow (by lia)⟩
abbrev En:=Nat × Q2 × List Stp
section
variable {CN:Addr} {K:Frag} {H:Hp} {n l:Addr} {m:Nat} {L:Int} {ds:List RD}
theorem Iy (a:Nat):∀n,kK (fun _=>a) n=(4*a+20)*n
 |0=>rfl
 |n+1=>by show kK _ n+(4*a+20)=_;rw[Iy a n,Nat.mul_succ]
end
structure SzW (L:Int) (k:Kd) (p:Q2):Prop where
 lo:Low p
 bd:Bd 31 p
 pc:k=.pc->0 < p.1/\p.1 ∣ L/\p.2.natAbs<=128
 ot:k≠.pc->p.2 ∣ L
structure Dw (m:Nat) (L:Int) (ds:List RD):Prop where
 o:Nof m ds
 m5:m<=5
 w8:wd m ds<=8
 L1:1<=L
 LB:Mq.B 150 L
 ok:∀d∈ds,wL (m:Int) d/\SzW L d.1 d.2.2.2
 len:ds.length<=40
section
variable {CN:Addr} {K:Frag} {H:Hp} {n l:Addr} {m:Nat} {L:Int} {ds:List RD}
theorem Dw.eqb (h:Dw m L ds):EqB m 190 L ds:=by
 have w8:=h.w8;have L1:=h.L1;refine⟨h.o,by lia,by lia,by lia,?_,L1,h.LB.mono (by lia),fun i j=>?_⟩
 ·show (190+5)*(wd m ds+1)+8<=4000;lia
 have one:=Mq.Fr.one L1;have c:∀d∈ds,∀k,Mq.Fr L 130 (cM d k (i+1) (j+1)):=fun d hd k=>by
  unfold cM
  cases hk:d.1 with
  |pu=>exact Mq.Fr.zero.mono (Nat.zero_le _)
  |ho=>
   dsimp only;refine(Mq.Fr.add (Ci (Hh one) _ _ _) (N:=1) ?_).mono (by decide);rw[Rat.mul_comm];exact Ci (Hh one) _ _ _
  |pc=>
   obtain⟨p0,dvd,le⟩:=(h.ok d hd).2.pc hk;have p1:=(h.ok d hd).2.lo.pos;dsimp only;rw[Rat.mul_assoc];have:1 / Mq.val d.2.2.2=((d.2.2.2.2:Int):Rat) / ((d.2.2.2.1:Int):Rat):=by
    have:=uR p1;have:=uR (show 1<=d.2.2.2.1 by lia);unfold Mq.val;grind
   rw[this];exact(Ci (Ci (Mq.Fr.of L1 (by lia) dvd le) _ _ _) _ _ _).mono (by decide)
 refine Mq.Fr.get (m:=13) (n:=150) (So m c) ?_ h.LB (by lia)
 calc ds.length*130<=40*130:=Nat.mul_le_mul_right _ h.len
  _ < 2 ^ 13:=by decide
theorem Dw.eR (h:Dw m L ds)(i:Nat):∃a:Int,Mq.B 190 a/\eqR m ds (i+1)=(a:Rat) / (L:Rat):=by
 have L1:=h.L1;have c:∀d∈ds,∀k,Mq.Fr L (2 ^ 31) (cR d k (i+1)):=fun d hd k=>by
  have sz:=(h.ok d hd).2;unfold cR
  cases hk:d.1 with
  |pc=>exact Mq.Fr.zero.mono (Nat.zero_le _)
  |pu=>
   dsimp only;rw[Rat.neg_mul];exact(Ci (vO L1 sz.lo (sz.ot (by rw[hk];decide)) sz.bd) _ _ _).neg
  |ho=>
   dsimp only;exact Hh (vO L1 sz.lo (sz.ot (by rw[hk];decide)) sz.bd)
 refine Mq.Fr.get (m:=37) (n:=150) (Oc m c) ?_ h.LB (by lia)
 calc ds.length*2 ^ 31<=40*2 ^ 31:=Nat.mul_le_mul_right _ h.len
  _ < 2 ^ 37:=by decide
theorem Dw.net (h:Dw m L ds)(nt:dF CN K H n l (m:Int) ds):Bw CN K H n l m 190 (fun _=>31) L ds:=by
 have m5:=h.m5;have len:=h.len;refine⟨nt,fun i d hd=>let ⟨a,b⟩:=h.ok d (mem_of_getElem? hd);⟨a,b.bd⟩,by lia,h.len,?_,h.eqb⟩;rw[Iy];lia
theorem Dw.bwle (h:Dw m L ds):bw 190 (wd m ds)<=1763:=by
 have w8:=h.w8;show (190+5)*(wd m ds+1)+8<=1763;lia
def szS (ds:List RD)(i:Nat)(p:Q2):List RD:=match ds[i]? with
 |some d=>ds.set i (d.1,d.2.1,d.2.2.1,p)
 |none=>ds
theorem qW (hd:ds[i]?=some d):szS ds i p=ds.set i (d.1,d.2.1,d.2.2.1,p):=by unfold szS;rw[hd]
theorem oC (ds:List RD)(i:Nat)(p:Q2):ds.map sk3=(szS ds i p).map sk3:=by
 cases hd:ds[i]? with
 |none=>unfold szS;rw[hd]
 |some d=>rw[qW hd];exact Xo hd rfl
theorem Aa (ds:List RD)(i:Nat)(p:Q2):(szS ds i p).length=ds.length:=by
 have:=congrArg List.length (oC ds i p);rw[length_map,length_map] at this;exact this.symm
theorem yQ (hd:ds[i]?=some d)(j:Nat):(szS ds i p)[j]?=if i=j then some (d.1,d.2.1,d.2.2.1,p) else ds[j]?:=by
 rw[qW hd,getElem?_set];split
 ·rename_i c
  subst c;rw[if_pos (List.getElem?_eq_some_iff.mp hd).1]
 ·rfl
theorem Dw.set (h:Dw m L ds)(hd:ds[i]?=some d)(sz:SzW L d.1 p):Dw m L (szS ds i p):=by
 have ok:∀e∈szS ds i p,wL (m:Int) e/\SzW L e.1 e.2.2.2:=fun e he=>by
  rw[qW hd] at he;rcases mem_or_eq_of_mem_set he with z | z
  ·exact h.ok e z
  ·rw[z];obtain⟨⟨r1,r2,r3,r4,_⟩,_⟩:=h.ok d (mem_of_getElem? hd);exact⟨⟨r1,r2,r3,r4,sz.lo,fun hk=>(sz.pc hk).1,sz.bd.mono (by lia)⟩,sz⟩
 refine⟨Nof.sk (oC ds i p) h.o fun e he hk=>?_,h.m5,?_,h.L1,h.LB,ok,by rw[Aa];exact h.len⟩
 ·have z:=(ok e he).2;have p2:=z.lo.pos;have p1:=(z.pc hk).1;unfold Mq.val;rw[Rat.div_def];exact Rat.mul_pos (by exact_mod_cast p1) (Rat.inv_pos.mpr (by exact_mod_cast (show 0 < e.2.2.2.2 by lia)))
 ·have:=h.w8;unfold wd at this ⊢;rw[<- Gm (oC ds i p)];exact this
structure jR (m:Nat) (ds:List RD) (lv fl:List Q2):Prop where
 e:∃ps:List Q2,lv=lvS m ps/\fl=rD (lvS m ps) (ps.drop (m - 1)) 0 ds/\ps.length=wd m ds/\fE ps/\Ovr (bw 190 (wd m ds)) ps/\Sv m ds (eqR m ds) (uP ps)
theorem jR.uni (o:Nof m ds)(h:jR m ds lv fl)(g:jR m ds lv' fl'):lv=lv'/\fl=fl':=by
 obtain⟨ps,e1,e2,l1,lo,_,sv⟩:=h.e;obtain⟨qs,f1,f2,l2,lo2,_,sv2⟩:=g.e;have e:ps=qs:=by
  refine ext_getElem (by lia) fun i hi hi'=>?_;have:=Sv.uni o sv sv2 (i+1) (by lia);unfold uP at this;rw[if_neg (by lia),if_neg (by lia),Nat.add_sub_cancel,getD_eq_getElem?_getD,getD_eq_getElem?_getD,getElem?_eq_getElem hi,getElem?_eq_getElem hi'] at this;exact sV (lo _ (getElem_mem hi)) (lo2 _ (getElem_mem hi')) this
 subst e;exact⟨e1.trans f1.symm,e2.trans f2.symm⟩
end
structure qm2 (CA:Addr) (K:Frag) (H0 H:Hp) (a:Addr) (lv fl:List Q2):Prop where
 e:∃(dx li le fo:Addr) (xs ys:List V),H a=some (.ins CA dx (iA li le fo))/\H le=some (.lst xs)/\Fqs K H xs lv/\H fo=some (.lst ys)/\Fqs K H ys fl/\∀l o,H0 l=some o->l≠a->le≠l/\fo≠l
theorem gcf:¬(("current":Str) = "followed"):=by decide +kernel
def fD (a n:Addr):List (Str × V):=[(("current":Str),.ref a),(("followed":Str),.ref n)]
theorem tG (a n:Addr):(fD a n).lookup ("current":Str)=some (.ref a):=by
 show List.lookup _ ((("current":Str),V.ref a) :: _)=_;rw[lookup_cons_self]
theorem Jp (a n:Addr):(fD a n).lookup ("followed":Str)=some (.ref n):=by
 show List.lookup ("followed":Str) ((("current":Str),V.ref a) :: [(("followed":Str),V.ref n)])=_;rw[lookup_cons,show (("followed":Str) == "current")=false from beq_eq_false_iff_ne.mpr (fun z=>gcf z.symm)];show List.lookup _ ((("followed":Str),V.ref n) :: _)=_;rw[lookup_cons_self]
theorem jD (a n:Addr){x:Str}(h1:¬x = "current")(h2:¬x = "followed"):(fD a n).lookup x=none:=by
 show List.lookup x ((("current":Str),V.ref a) :: [(("followed":Str),V.ref n)])=_;rw[lookup_cons,show (x == "current")=false from beq_eq_false_iff_ne.mpr h1];show List.lookup x ((("followed":Str),V.ref n) :: [])=_;rw[lookup_cons,show (x == "followed")=false from beq_eq_false_iff_ne.mpr h2];rfl
theorem Zi (a:Addr):cQ "current" (.ref a) []=[(("current":Str),V.ref a)]:=rfl
theorem Yr (a n:Addr):cQ "followed" (.ref n) [(("current":Str),V.ref a)]=fD a n:=by
 show (if (("current":Str)) = "followed" then _ else _)=_;rw[if_neg gcf];rfl
theorem Xj (a b n:Addr):cQ "current" (.ref b) (fD a n)=fD b n:=by
 show (if (("current":Str)) = "current" then _ else _)=_;rw[if_pos rfl];rfl
theorem Xt (a n k:Addr):cQ "followed" (.ref k) (fD a n)=fD a k:=by
 show (if (("current":Str)) = "followed" then _ else (("current":Str),V.ref a) :: (if ("followed":Str) = "followed" then _ else _))=_;rw[if_neg gcf,if_pos rfl];rfl
structure WB (K:Frag) (mg:Str->Option Value) (CW:Addr):Prop where
 cl:Cls K CW
 nC:gG K CW "current"
 nF:gG K CW "followed"
 mW:mg "Watch"=some (.ref CW)
structure jN (X:List Addr) (CN CA CW:Addr) (K:Frag) (H:Hp) (w:Addr) (m:Nat) (ds:List RD):Prop where
 e:∃(dx a n l dxa li le fo dn:Addr) (xs ys ts:List V) (lv fl:List Q2),H w=some (.ins CW dx (fD a n))/\H a=some (.ins CA dxa (iA li le fo))/\H le=some (.lst xs)/\Fqs K H xs lv/\H fo=some (.lst ys)/\Fqs K H ys fl/\jR m ds lv fl/\H n=some (.ins CN dn (gR (m:Int) l))/\H l=some (.lst ts)/\Rts K H ts ds/\a≠w/\n≠w/\∀x∈X,a≠x/\le≠x/\fo≠x/\n≠x/\l≠x
section
variable {X:List Addr} {CN CA CW:Addr} {K:Frag} {H H':Hp} {w y:Addr} {m:Nat} {ds:List RD}
theorem jN.same (s:aZ H H')(h:jN X CN CA CW K H w m ds):jN X CN CA CW K H' w m ds:=by
 obtain⟨dx,a,n,l,dxa,li,le,fo,dn,xs,ys,ts,lv,fl,h1,h2,h3,h4,h5,h6,h7,h8,h9,h10,h11,h12,h13⟩:=h.e;exact⟨dx,a,n,l,dxa,li,le,fo,dn,xs,ys,ts,lv,fl,s _ _ h1,s _ _ h2,s _ _ h3,h4.same s,s _ _ h5,h6.same s,h7,s _ _ h8,s _ _ h9,h10.same s,h11,h12,h13⟩
theorem jN.x (hy:H y=some (.lst us))(s:bQ y H H')(hX:y∈X)(h:jN X CN CA CW K H w m ds):jN X CN CA CW K H' w m ds:=by
 obtain⟨dx,a,n,l,dxa,li,le,fo,dn,xs,ys,ts,lv,fl,h1,h2,h3,h4,h5,h6,h7,h8,h9,h10,h11,h12,h13⟩:=h.e;obtain⟨n1,n2,n3,n4,n5⟩:=h13 y hX;exact⟨dx,a,n,l,dxa,li,le,fo,dn,xs,ys,ts,lv,fl,s _ _ h1 (dL h1 hy (fun z=>by cases z)),s _ _ h2 n1,s _ _ h3 n2,bQ.fqsL hy s h4,s _ _ h5 n3,bQ.fqsL hy s h6,h7,s _ _ h8 n4,s _ _ h9 n5,bQ.rts hy s h10,h11,h12,h13⟩
theorem jN.less (hY:∀y∈Y,y∈X)(h:jN X CN CA CW K H w m ds):jN Y CN CA CW K H w m ds:=by
 obtain⟨dx,a,n,l,dxa,li,le,fo,dn,xs,ys,ts,lv,fl,h1,h2,h3,h4,h5,h6,h7,h8,h9,h10,h11,h12,h13⟩:=h.e;exact⟨dx,a,n,l,dxa,li,le,fo,dn,xs,ys,ts,lv,fl,h1,h2,h3,h4,h5,h6,h7,h8,h9,h10,h11,h12,fun x hx=>h13 x (hY x hx)⟩
end
end L2
namespace Blk
open L2
def Jn (sk:List Sk)(i a c:Nat):Prop:=∃k u v,sk[i]?=some (k,u,v)/\k≠Kd.pu/\((u=a/\v=c)\/(v=a/\u=c))
inductive Wk (sk:List Sk):Nat->List (Nat × Nat)->Nat->Prop where
 |nil {a:Nat}:Wk sk a [] a
 |cons {a c b i:Nat} {l:List (Nat × Nat)} (h:Jn sk i a c) (r:Wk sk c l b):Wk sk a ((i,c) :: l) b
def pts (a:Nat)(l:List (Nat × Nat)):List Nat:=a :: l.map (·.2)
def rws (l:List (Nat × Nat)):List Nat:=l.map (·.1)
def pre:Nat->List (Nat × Nat)->List Nat
 |_,[]=>[]
 |a,(_,c) :: l=>a :: pre c l
section
variable {sk:List Sk} {a b c x:Nat} {l l':List (Nat × Nat)}
theorem Wk.app (h:Wk sk a l c)(g:Wk sk c l' b):Wk sk a (l++l') b:=by
 induction h with
 |nil=>exact g
 |cons j _ ih=>exact .cons j (ih g)
theorem Wk.pts_eq (h:Wk sk a l b):pts a l=pre a l++[b]:=by
 induction h with
 |nil=>rfl
 | @cons a c b i l j _ ih=>
  show a :: pts c l=a :: (pre c l++[b]);rw[ih]
theorem Wk.end_in (h:Wk sk a l b):b∈pts a l:=by rw[h.pts_eq];simp
end
def Cy (sk:List Sk)(i j:Nat):Prop:=∃a b l,Jn sk i b a/\Wk sk a l b/\(pts a l).Nodup/\a≠b/\i∉rws l/\(j=i\/j∈rws l)
theorem Qi (h:Wk sk a l c)(i y:Nat)(l':List (Nat × Nat)):pts a (l++(i,y) :: l')=pts a l++pts y l':=by
 show a :: (l++(i,y) :: l').map (·.2)=_;rw[map_append];rfl
theorem Jz (l l':List (Nat × Nat)):rws (l++l')=rws l++rws l':=by unfold rws;rw[map_append]
def joinsW:Kd->Bool:=fun k=>decide (k≠.pu)
theorem Fy:kS es b e=oJ (cD es b 60).1 e:=rfl
section
theorem Cc (hw:W k=true)(hy:kS s.1 v u=none):gJ W s n (k,u,v)=(s.1++[(n,u,v)],s.2):=by
 unfold gJ;rw[if_pos hw];dsimp only;generalize kS s.1 v u=o at hy;subst hy;rfl
theorem Bp (hw:W k=true)(hy:kS s.1 v u=some st):gJ W s n (k,u,v)=(s.1,s.2++[(n,(n,1) :: st)]):=by
 unfold gJ;rw[if_pos hw];dsimp only;generalize kS s.1 v u=o at hy;subst hy;rfl
theorem xL (hw:¬W k=true):gJ W s n (k,u,v)=s:=by
 unfold gJ;rw[if_neg hw]
end
structure RJ (sk:List Sk) (n:Nat) (s:RS):Prop where
 br:∀e∈s.1,e.1 < n/\∃k,sk[e.1]?=some (k,e.2.1,e.2.2)/\k≠.pu
 rg:∀c∈s.2,c.1 < n/\∃k u v st ps es,sk[c.1]?=some (k,u,v)/\k≠.pu/\c.2=(c.1,1) :: st/\Pt es v st u ps/\∀e∈es,e∈s.1/\e.1 < c.1
 al:∀i k u v,i < n->sk[i]?=some (k,u,v)->k≠.pu->(i,u,v)∈s.1\/∃c∈s.2,c.1=i
theorem Qs (sk:List Sk):∀n,n<=sk.length->RJ sk n (dE joinsW sk n)
 |0,_=>⟨fun e h=>(by cases h),fun c h=>(by cases h),fun i k u v h=>(by lia)⟩
 |n+1,hn=>by
  have ih:=Qs sk n (by lia);have hd:sk[n]?=some sk[n]:=getElem?_eq_getElem (by lia);rw[gO hd];generalize sk[n]=d at hd;obtain⟨k,u,v⟩:=d;generalize dE joinsW sk n=s at ih
  by_cases hw:joinsW k=true
  ·have hk:k≠.pu:=of_decide_eq_true hw
   cases hy:kS s.1 v u with
   |none=>
    rw[Cc hw hy];refine⟨fun e he=>?_,fun c hc=>?_,fun i k' u' v' hi h1 h2=>?_⟩
    ·rcases mem_append.mp he with z | z
     ·obtain⟨h1,h2⟩:=ih.br e z;exact⟨by lia,h2⟩
     ·have:e=(n,u,v):=by simpa using z
      rw[this];exact⟨Nat.lt_succ_self n,k,hd,hk⟩
    ·obtain⟨h1,k',u',v',st,ps,es,g1,g2,g3,g4,g5⟩:=ih.rg c hc;exact⟨by lia,k',u',v',st,ps,es,g1,g2,g3,g4,fun e he=>⟨mem_append_left _ (g5 e he).1,(g5 e he).2⟩⟩
    ·by_cases c:i=n
     ·subst c;rw[hd] at h1
      cases h1
      exact .inl (by simp)
     ·rcases ih.al i k' u' v' (by lia) h1 h2 with z | z
      ·exact .inl (mem_append_left _ z)
      ·exact .inr z
   |some st=>
    rw[Bp hw hy];rw[Fy] at hy;refine⟨fun e he=>let ⟨h1,h2⟩:=ih.br e he;⟨by lia,h2⟩,fun c hc=>?_,fun i k' u' v' hi h1 h2=>?_⟩
    ·rcases mem_append.mp hc with z | z
     ·obtain⟨h1,r⟩:=ih.rg c z;exact⟨by lia,r⟩
     ·have:c=(n,(n,1) :: st):=by simpa using z
      subst this;obtain⟨ps,pp,_⟩:=(iG s.1 v 60).pt u st (gD hy);exact⟨Nat.lt_succ_self n,k,u,v,st,ps,s.1,hd,hk,rfl,pp,fun e he=>⟨he,(ih.br e he).1⟩⟩
    ·by_cases c:i=n
     ·subst c;exact .inr ⟨_,mem_append_right _ mem_cons_self,rfl⟩
     ·rcases ih.al i k' u' v' (by lia) h1 h2 with z | ⟨c',hc',e⟩
      ·exact .inl z
      ·exact .inr ⟨c',mem_append_left _ hc',e⟩
  ·rw[xL hw];refine⟨fun e he=>let ⟨h1,h2⟩:=ih.br e he;⟨by lia,h2⟩,fun c hc=>let ⟨h1,r⟩:=ih.rg c hc;⟨by lia,r⟩,fun i k' u' v' hi h1 h2=>?_⟩
   by_cases c:i=n
   ·subst c;rw[hd] at h1
    cases h1
    exact absurd (decide_eq_true h2) hw
   ·exact ih.al i k' u' v' (by lia) h1 h2
section
variable {sk:List Sk} {A:Nat->Bool} {p q:Nat->Int}
theorem qi0 {C:Nat->Prop}(h:Pt es b st x ps)(H:∀e∈es,(C e.2.1↔C e.2.2)):C b↔C x:=by
 induction h with
 |nil=>exact Iff.rfl
 | @snoc st y z ps s _ g _ ih=>
  refine ih.trans ?_;obtain⟨u,v,he,h⟩:=g;have:=H _ he;rcases h with ⟨_,rfl,rfl⟩ | ⟨_,rfl,rfl⟩
  ·exact this
  ·exact this.symm
end
def mst (ms:List Int)(r:List Nat):List Int:=ms.map fun x=>if x∈r.map (fun i=>ms.getD i 0) then (r.map fun i=>ms.getD i 0).headD 0 else x
def bmk (n:Nat)(rs:List (List Nat)):List Int:=rs.foldl mst ((List.range n).map fun (i:Nat)=>(i:Int))
theorem mst_len (ms:List Int)(r:List Nat):(mst ms r).length=ms.length:=by unfold mst;rw[length_map]
theorem Bu:∀(rs:List (List Nat)) (ms:List Int),(rs.foldl mst ms).length=ms.length
 | [],_=>rfl
 |r :: rs,ms=>by show (rs.foldl mst (mst ms r)).length=_;rw[Bu rs,mst_len]
theorem bmk_len (n:Nat)(rs:List (List Nat)):(bmk n rs).length=n:=by unfold bmk;rw[Bu,length_map,length_range]
theorem yW (h:i < ms.length):(mst ms r).getD i 0=if ms.getD i 0∈r.map (fun i=>ms.getD i 0) then (r.map fun i=>ms.getD i 0).headD 0 else ms.getD i 0:=by
 unfold mst;rw[getD_eq_getElem?_getD,getElem?_map,getElem?_eq_getElem h,getD_eq_getElem?_getD,getElem?_eq_getElem h];rfl
theorem On (hi:i < ms.length)(hj:j < ms.length)(e:ms.getD i 0=ms.getD j 0):(mst ms r).getD i 0=(mst ms r).getD j 0:=by rw[yW hi,yW hj,e]
theorem yB:∀(rs:List (List Nat)) {ms:List Int} {i j:Nat},i < ms.length->j < ms.length->ms.getD i 0=ms.getD j 0->(rs.foldl mst ms).getD i 0=(rs.foldl mst ms).getD j 0
 | [],_,_,_,_,_,e=>e
 |r :: rs,ms,i,j,hi,hj,e=>yB rs (by rw[mst_len];exact hi) (by rw[mst_len];exact hj) (On hi hj e)
theorem fold_ring:∀(rs:List (List Nat)) {ms:List Int} {r:List Nat} {i j:Nat},r∈rs->i∈r->j∈r->i < ms.length->j < ms.length->(rs.foldl mst ms).getD i 0=(rs.foldl mst ms).getD j 0
 |r0 :: rs,ms,r,i,j,hr,hi,hj,li,lj=>by
  show (rs.foldl mst (mst ms r0)).getD i 0=(rs.foldl mst (mst ms r0)).getD j 0;rcases mem_cons.mp hr with z | z
  ·subst z;refine yB rs (by rw[mst_len];exact li) (by rw[mst_len];exact lj) ?_;rw[yW li,yW lj,if_pos (mem_map.mpr ⟨i,hi,rfl⟩),if_pos (mem_map.mpr ⟨j,hj,rfl⟩)]
  ·exact fold_ring rs z hi hj (by rw[mst_len];exact li) (by rw[mst_len];exact lj)
def rgs (sk:List Sk):List (List Nat):=(dE joinsW sk sk.length).2.map fun c=>c.2.map (·.1)
def mkb (sk:List Sk)(i:Nat):Int:=(bmk sk.length (rgs sk)).getD i 0
theorem rg_cy (hn:n<=sk.length)(hc:c∈(dE joinsW sk n).2):(∀i∈c.2.map (·.1),i < n)/\∀i∈c.2.map (·.1),i=c.1\/Cy sk c.1 i:=by
 have rj:=Qs sk n hn;obtain⟨lt,k,u,v,st,ps,es,h1,h2,h3,h4,h5⟩:=rj.rg c hc;have jn:∀{s:Stp} {a c':Nat},mX es s a c'->Jn sk s.1 a c'/\s.1 < c.1:=fun {s a c'} ⟨x,y,he,h⟩=>by
  obtain⟨e1,e2⟩:=h5 _ he;obtain⟨_,k',g1,g2⟩:=rj.br _ e1;refine⟨⟨k',x,y,g1,g2,?_⟩,e2⟩;rcases h with ⟨_,rfl,rfl⟩ | ⟨_,rfl,rfl⟩
  ·exact .inl ⟨rfl,rfl⟩
  ·exact .inr ⟨rfl,rfl⟩
 have way:∀{b x:Nat} {st:List Stp} {ps:List Nat},Pt es b st x ps->∃l,Wk sk b l x/\pts b l=ps/\ps.Nodup/\rws l=st.map (·.1)/\∀r∈rws l,r < c.1:=fun {b x st ps} p=>by
  induction p with
  |nil=>exact⟨[],.nil,rfl,by simp,rfl,fun r hr=>(by cases hr)⟩
  | @snoc st y z ps s _ g nz ih=>
   obtain⟨l,w,e1,nd,e2,lr⟩:=ih;obtain⟨j,sl⟩:=jn g;refine⟨l++[(s.1,z)],w.app (.cons j .nil),by rw[Qi w,e1];rfl,?_,by rw[Jz,e2,map_append];rfl,fun r hr=>?_⟩
   ·refine nodup_append.mpr ⟨nd,by simp,fun a ha b' hb=>?_⟩;have:b'=z:=by simpa using hb
    subst this;exact fun q=>nz (q ▸ ha)
   ·rw[Jz] at hr;rcases mem_append.mp hr with h | h
    ·exact lr r h
    ·have:r=s.1:=by simpa[rws] using h
     rw[this];exact sl
 obtain⟨l,w,e1,nd,e2,lr⟩:=way h4;rw[h3];refine⟨fun i hi=>?_,fun i hi=>?_⟩
 ·rcases mem_cons.mp hi with z | z
  ·rw[z];exact lt
  ·rw[<- e2] at z;have:=lr i z;lia
 ·rcases mem_cons.mp hi with z | z
  ·exact .inl z
  ·rw[<- e2] at z
   by_cases uv:v=u
   ·subst uv
    cases w with
    |nil=>cases z
    | @cons _ c' _ i' l' j r=>
     rw[<- e1] at nd;exact absurd r.end_in (nodup_cons.mp nd).1
   ·exact .inr ⟨v,u,l,⟨k,u,v,h1,h2,.inl ⟨rfl,rfl⟩⟩,w,e1 ▸ nd,uv,fun h=>(by have:=lr _ h;lia),.inr z⟩
end Blk
namespace L2
open PySem PySem.Spec PyProof.Rows Shp
structure NwS (k:Kd) (p:Q2):Prop where
 lo:Low p
 bd:Bd 31 p
 le:p.2.natAbs<=12
 pc:k=.pc->0 < p.1
def cwD (k:Kd)(p:Q2):Int:=if k=.pc then p.1 else p.2
theorem NwS.c1 (h:NwS k p):1<=cwD k p/\Mq.B 31 (cwD k p):=by
 unfold cwD
 by_cases c:k=.pc
 ·rw[if_pos c];have:=h.pc c;exact⟨by lia,h.bd.a⟩
 ·rw[if_neg c];exact⟨h.lo.pos,h.bd.b⟩
theorem NwS.sz (h:NwS k p)(d:cwD k p ∣ L):SzW L k p:=by
 unfold cwD at d;refine⟨h.lo,h.bd,fun c=>⟨h.pc c,by rw[if_pos c] at d;exact d,by have:=h.le;lia⟩,fun c=>by rw[if_neg c] at d;exact d⟩
end L2
namespace Blk
open L2
section
variable {sk:List Sk} {A:Nat->Bool} {p q:Nat->Rat}
theorem Vn (h:Pt es b st x ps)(H:∀s∈st,∀a c,mX es s a c->q c - q a=if A0=true then p c - p a else 0):q x - q b=if A0=true then p x - p b else 0:=by
 induction h with
 |nil=>split<;>grind
 | @snoc st y z ps s _ g _ ih=>
  have i1:=ih fun s hs=>H s (mem_append_left _ hs);have i2:=H s (by simp) y z g;split at i1<;>split<;>simp_all<;>grind
theorem potR (m:Nat)(hm:∀d∈sk,d.2.1 < m/\d.2.2 < m)(m20:m<=20)(p:Nat->Rat):∀n,n<=sk.length->(∀c∈(dE joinsW sk n).2,∀s∈c.2,A s.1=A c.1)->∃q:Nat->Rat,∀i k u v,i < n->sk[i]?=some (k,u,v)->k≠.pu->q v - q u=if A i=true then p v - p u else 0
 |0,_,_=>⟨fun _=>0,fun i k u v h=>by lia⟩
 |n+1,hn,hA=>by
  have rj:=Qs sk n (by lia);have ri:=jY (W:=joinsW) hm n (by lia);have hd:sk[n]?=some sk[n]:=getElem?_eq_getElem (by lia);rw[gO hd] at hA;have pm:=hm _ (mem_of_getElem? hd);have ihq:=potR m hm m20 p n (by lia);generalize sk[n]=d at hd hA pm;obtain⟨k,u,v⟩:=d;generalize dE joinsW sk n=s at rj ri hA ihq
  by_cases hw:joinsW k=true
  ·have hk:k≠.pu:=of_decide_eq_true hw
   cases hy:kS s.1 v u with
   |none=>
    rw[Cc hw hy] at hA;rw[Fy] at hy;obtain⟨q,hq⟩:=ihq hA;have wi:=iG s.1 v 60;have q0:=Bi ri.pt pm.2 m20;have cb:∀e∈s.1,(e.2.1∈cE (cD s.1 v 60).1↔e.2.2∈cE (cD s.1 v 60).1):=fun e he=>⟨fun z=>wi.cl _ z (by rw[q0];simp) (e.1,1) _ ⟨e.2.1,e.2.2,he,.inl ⟨rfl,rfl,rfl⟩⟩,fun z=>wi.cl _ z (by rw[q0];simp) (e.1,-1) _ ⟨e.2.1,e.2.2,he,.inr ⟨rfl,rfl,rfl⟩⟩⟩
    have nu:u∉cE (cD s.1 v 60).1:=fun z=>by
     obtain⟨st,e⟩:=mQ z;rw[e] at hy
     cases hy
    have iv:=wi.kb;generalize cE (cD s.1 v 60).1=C at cb nu iv;refine⟨fun z=>q z+if z∈C then (if A n=true then p v - p u else 0) - (q v - q u) else 0,fun i k' u' v' hi h1 h2=>?_⟩
    by_cases c:i=n
    ·subst c;rw[hd] at h1
     cases h1
     simp only[if_pos iv,if_neg nu];grind
    ·have e:=hq i k' u' v' (by lia) h1 h2;have cc:(u'∈C↔v'∈C):=by
      rcases rj.al i k' u' v' (by lia) h1 h2 with z | ⟨c',hc',ei⟩
      ·exact cb _ z
      ·obtain⟨_,k2,u2,v2,st,ps,es,g1,g2,g3,g4,g5⟩:=rj.rg c' hc';rw[ei,h1] at g1
       cases g1
       exact(qi0 (C:=fun z=>z∈C) g4 fun e he=>cb e (g5 e he).1).symm
     simp only[cc];split<;>split at e<;>simp_all<;>grind
   |some st=>
    rw[Bp hw hy] at hA;rw[Fy] at hy;obtain⟨q,hq⟩:=ihq fun c hc=>hA c (mem_append_left _ hc);refine⟨q,fun i k' u' v' hi h1 h2=>?_⟩
    by_cases c:i=n
    ·subst c;rw[hd] at h1
     cases h1
     obtain⟨ps,pp,_⟩:=(iG s.1 v 60).pt u st (gD hy);have hr:=hA (i,(i,1) :: st) (mem_append_right _ mem_cons_self);have t:=Vn (A0:=A i) (p:=p) (q:=q) pp fun t ht a c g=>by
      obtain⟨x,y,he,h⟩:=g;obtain⟨lt,k2,g1,g2⟩:=rj.br _ he;have e:=hq _ _ _ _ lt g1 g2;have ea:A t.1=A i:=hr t (mem_cons_of_mem _ ht);rw[show A ((t.1,x,y):Br).1=A i from ea] at e;have e:q y - q x=if A i=true then p y - p x else 0:=e
      rcases h with ⟨_,rfl,rfl⟩ | ⟨_,rfl,rfl⟩
      ·exact e
      ·split at e<;>split<;>simp_all<;>grind
     split at t<;>split<;>simp_all<;>grind
    ·exact hq i k' u' v' (by lia) h1 h2
  ·rw[xL hw] at hA;obtain⟨q,hq⟩:=ihq hA;refine⟨q,fun i k' u' v' hi h1 h2=>?_⟩
   by_cases c:i=n
   ·subst c;rw[hd] at h1
    cases h1
    exact absurd (decide_eq_true h2) hw
   ·exact hq i k' u' v' (by lia) h1 h2
end
end Blk
namespace L2
open PySem PySem.Spec PyProof.Rows Shp
abbrev rA (ds:List RD)(j:Nat):RD:=ds.getD j (.pu,0,0,(0,1))
abbrev ixA (m:Nat)(ds:List RD)(j:Nat):Nat:=m+bA (ds.take j)
theorem nQ (h:ds[j]?=some d):rA ds j=d:=by unfold rA;rw[getD_eq_getElem?_getD,h];rfl
theorem gN (h:j < ds.length):ds[j]?=some (rA ds j):=by unfold rA;rw[getD_eq_getElem?_getD,getElem?_eq_getElem h];rfl
theorem Nu (u:Nat->Rat)(p:Nat):∀(ds:List RD) (h:Nat),nt u h ds p=Mq.rs ds.length (fun j=>fw u (rA ds j) (h+bA (ds.take j))*dl (rA ds j).2.1.toNat (rA ds j).2.2.1.toNat p)
 | [],h=>rfl
 |d :: ds,h=>by
  show fw u d h*dl d.2.1.toNat d.2.2.1.toNat p+nt u (h+bV d.1) ds p=_;rw[Nu u p ds,length_cons,jF];have e:∀j,h+bA ((d :: ds).take (j+1))=h+bV d.1+bA (ds.take j):=fun j=>by
   rw[take_succ_cons,dM];lia
  have e0:h+bA ((d :: ds).take 0)=h:=rfl;rw[e0,aP (n:=ds.length) (F:=fun j=>fw u (rA (d :: ds) (j+1)) (h+bA ((d :: ds).take (j+1)))*dl (rA (d :: ds) (j+1)).2.1.toNat (rA (d :: ds) (j+1)).2.2.1.toNat p) (G:=fun j=>fw u (rA ds j) (h+bV d.1+bA (ds.take j))*dl (rA ds j).2.1.toNat (rA ds j).2.2.1.toNat p) fun j _=>by rw[e];rfl];rfl
theorem Jg:∀(ds:List RD) (h:Nat),(∀d∈ds,d.1=.ho->u d.2.1.toNat=u d.2.2.1.toNat)->hw u h ds y=0
 | [],_,_=>rfl
 |d :: ds,h,g=>by
  show (if d.1=.ho/\h=y then u d.2.1.toNat - u d.2.2.1.toNat else 0)+hw u (h+bV d.1) ds y=0;rw[Jg ds _ fun e he=>g e (mem_cons_of_mem _ he)];split
  ·rename_i c
   rw[g d (by simp) c.1];grind
  ·grind
theorem uK (h:∀i,i < n->F i=0):Mq.rs n F=0:=by rw[aP h,dP]
theorem Xn (s g p:Nat):dl s g p=(if s=p then (1:Rat) else 0) - (if g=p then 1 else 0):=by unfold dl;grind
section
variable {m:Nat} {ds es:List RD}
theorem oR (h:ds.map sk3=es.map sk3)(j:Nat):bA (es.take j)=bA (ds.take j):=by
 refine(Gm ?_).symm;rw[map_take,map_take,h]
theorem Bo (h:ds.map sk3=es.map sk3){j:Nat}(hj:j < ds.length):sk3 (rA es j)=sk3 (rA ds j):=by
 have l:ds.length=es.length:=by have:=congrArg List.length h;rwa [length_map,length_map] at this
 have a:(ds.map sk3)[j]?=some (sk3 (rA ds j)):=by rw[getElem?_map,gN hj];rfl
 have b:(es.map sk3)[j]?=some (sk3 (rA es j)):=by rw[getElem?_map,gN (by lia)];rfl
 rw[h,b] at a;exact Option.some.inj a
theorem stay (o:Nof m ds)(o':Nof m es)(sk:ds.map sk3=es.map sk3)(m20:m<=20){A:Nat->Bool}(hAk:A k=false)(sz:∀j,j < ds.length->j≠k->rA es j=rA ds j)(hA:∀c∈(dE Blk.joinsW (skl ds) ds.length).2,∀s∈c.2,A s.1=A c.1)(hv:Sv m ds r v)(hw':Sv m es r' w)(rp:∀x,1<=x->x < m->r' x=r x)(rh:∀j,j < ds.length->(rA ds j).1=.ho->j≠k->r' (ixA m ds j)=r (ixA m ds j)):
  ∀j,j < ds.length->A j=true->(rA ds j).1≠.pu->w (rA ds j).2.1.toNat - w (rA ds j).2.2.1.toNat=v (rA ds j).2.1.toNat - v (rA ds j).2.2.1.toNat/\fw w (rA ds j) (ixA m ds j)=fw v (rA ds j) (ixA m ds j):=by
 classical
 have ll:es.length=ds.length:=by have:=congrArg List.length sk;rw[length_map,length_map] at this;exact this.symm
 have m1:=o.m1;have lt:∀j,j < ds.length->(rA ds j).2.1.toNat < m/\(rA ds j).2.2.1.toNat < m:=fun j hj=>by
  obtain⟨a,b,c,d⟩:cX (m:Int) (rA ds j).2.1 (rA ds j).2.2.1:=o.pt _ (mem_of_getElem? (gN hj));lia
 have ks:∀j,j < ds.length->(rA es j).1=(rA ds j).1/\(rA es j).2.1=(rA ds j).2.1/\(rA es j).2.2.1=(rA ds j).2.2.1:=fun j hj=>by
  have:=Bo sk hj;exact⟨congrArg (·.1) this,congrArg (·.2.1) this,congrArg (·.2.2) this⟩
 obtain⟨D,hD⟩:∃D:Nat->Rat,∀j,D j=fw w (rA es j) (ixA m ds j) - fw v (rA ds j) (ixA m ds j):=⟨_,fun j=>rfl⟩
 have T:∀x,1<=x->x < m->Mq.rs ds.length (fun j=>D j*dl (rA ds j).2.1.toNat (rA ds j).2.2.1.toNat x)=0:=fun x x1 xm=>by
  have a:=hv.pt o x1 xm;have b:=hw'.pt o' x1 xm;rw[Nu] at a b;rw[ll,aP (G:=fun j=>fw w (rA es j) (ixA m ds j)*dl (rA ds j).2.1.toNat (rA ds j).2.2.1.toNat x) fun j hj=>by
   obtain⟨_,e2,e3⟩:=ks j hj;rw[oR sk j,e2,e3]] at b
  rw[aP (G:=fun j=>fw w (rA es j) (ixA m ds j)*dl (rA ds j).2.1.toNat (rA ds j).2.2.1.toNat x + - (fw v (rA ds j) (ixA m ds j)*dl (rA ds j).2.1.toNat (rA ds j).2.2.1.toNat x)) fun j hj=>by rw[hD];grind,dC,jB,b,a,rp x x1 xm];grind
 have T0:∀x,x < m->Mq.rs ds.length (fun j=>D j*dl (rA ds j).2.1.toNat (rA ds j).2.2.1.toNat x)=0:=fun x xm=>by
  by_cases x1:1<=x
  ·exact T x x1 xm
  ·have x0:x=0:=by lia
   subst x0;have s0:Mq.rs m (fun x=>Mq.rs ds.length (fun j=>D j*dl (rA ds j).2.1.toNat (rA ds j).2.2.1.toNat x))=0:=by
    rw[zT];refine uK fun j hj=>?_;have:=rH (fun _=>1) (lt j hj).1 (lt j hj).2;rw[dW];have e:Mq.rs m (dl (rA ds j).2.1.toNat (rA ds j).2.2.1.toNat)=Mq.rs m (fun p=>1*dl (rA ds j).2.1.toNat (rA ds j).2.2.1.toNat p):=aP fun p _=>by grind
    rw[e,this];grind
   obtain⟨n,rfl⟩:∃n,m=n+1:=⟨m - 1,by lia⟩
   rw[jF,uK fun i hi=>T (i+1) (by lia) (by lia)] at s0;grind
 have TF:∀F:Nat->Rat,Mq.rs ds.length (fun j=>D j*(F (rA ds j).2.1.toNat - F (rA ds j).2.2.1.toNat))=0:=fun F=>by
  rw[aP (G:=fun j=>Mq.rs m (fun x=>F x*(D j*dl (rA ds j).2.1.toNat (rA ds j).2.2.1.toNat x))) fun j hj=>by
   rw[<- rH F (lt j hj).1 (lt j hj).2,<- dW];exact aP fun x _=>by grind]
  rw[zT];refine uK fun x hx=>?_;rw[dW,T0 x hx];grind
 have sl:(skl ds).length=ds.length:=by unfold skl;rw[length_map]
 have P:∀F:Nat->Rat,∃q:Nat->Rat,∀j,j < ds.length->(rA ds j).1≠.pu->q (rA ds j).2.1.toNat - q (rA ds j).2.2.1.toNat=if A j=true then F (rA ds j).2.1.toNat - F (rA ds j).2.2.1.toNat else 0:=fun F=>by
  obtain⟨q,hq⟩:=Blk.potR (sk:=skl ds) (A:=A) m (fun d hd=>by
   obtain⟨e,he,rfl⟩:=mem_map.mp hd;obtain⟨a,b,c,f⟩:=o.pt e he;show e.2.1.toNat < m/\e.2.2.1.toNat < m;lia) m20 F ds.length (by lia) hA
  refine⟨q,fun j hj hk=>?_⟩;have:=hq j (rA ds j).1 (rA ds j).2.1.toNat (rA ds j).2.2.1.toNat hj (by unfold skl;rw[getElem?_map,gN hj];rfl) hk;split at this<;>rename_i c
  ·rw[if_pos c];grind
  ·rw[if_neg c];grind
 have pu0:∀j,j < ds.length->(rA ds j).1=.pu->D j=0:=fun j hj hk=>by
  rw[hD];unfold fw;rw[(ks j hj).1,hk];grind
 have TA:∀p,Mq.rs ds.length (fun j=>(if A j=true then D j else 0)*dl (rA ds j).2.1.toNat (rA ds j).2.2.1.toNat p)=0:=fun p=>by
  obtain⟨q,hq⟩:=P fun x=>if x=p then 1 else 0
  refine(aP (G:=fun j=>D j*(q (rA ds j).2.1.toNat - q (rA ds j).2.2.1.toNat)) fun j hj=>?_).trans (TF q)
  by_cases hk:(rA ds j).1=.pu
  ·rw[pu0 j hj hk];simp
  ·rw[hq j hj hk];rw[Xn]
   by_cases c:A j=true
   ·rw[if_pos c,if_pos c]
   ·rw[if_neg c,if_neg c,Rat.zero_mul,Rat.mul_zero]
 obtain⟨q,hq⟩:=P fun x=>w x - v x;obtain⟨X,hX⟩:∃X:Nat->Rat,∀y,X y=if y < m then q y - q 0 else if (∃j,j < ds.length/\(rA ds j).1=.ho/\ixA m ds j=y/\A j=true) then w y - v y else 0:=⟨_,fun _=>rfl⟩
 have Xm:∀y,y < m->X y=q y - q 0:=fun y hy=>by rw[hX,if_pos hy]
 have Xh:∀j,j < ds.length->(rA ds j).1=.ho->X (ixA m ds j)=if A j=true then w (ixA m ds j) - v (ixA m ds j) else 0:=fun j hj hk=>by
  rw[hX,if_neg (by show ¬(m+_ < m);lia)]
  by_cases c:A j=true
  ·rw[if_pos c,if_pos ⟨j,hj,hk,rfl,c⟩]
  ·rw[if_neg c,if_neg];rintro ⟨i,hi,ki,e,ai⟩;have e:bA (ds.take i)=bA (ds.take j):=by unfold ixA at e;lia
   rcases Nat.lt_trichotomy i j with z | z | z
   ·have:=sY (gN hi) ki z;lia
   ·subst z;exact c ai
   ·have:=sY (gN hj) hk z;lia
 have fX:∀j,j < ds.length->fw X (rA ds j) (ixA m ds j)=if A j=true then D j else 0:=fun j hj=>by
  cases hk:(rA ds j).1 with
  |pu=>
   have z:fw X (rA ds j) (ixA m ds j)=0:=by unfold fw;rw[hk]
   rw[pu0 j hj hk,z]
   by_cases c:A j=true
   ·rw[if_pos c]
   ·rw[if_neg c]
  |pc=>
   have e:=hq j hj (by rw[hk];decide);have f:fw X (rA ds j) (ixA m ds j)=(X (rA ds j).2.1.toNat - X (rA ds j).2.2.1.toNat)*(1 / Mq.val (rA ds j).2.2.2):=by unfold fw;rw[hk]
   rw[f,Xm _ (lt j hj).1,Xm _ (lt j hj).2]
   by_cases c:A j=true
   ·rw[if_pos c] at e ⊢;have jk:j≠k:=fun z=>by rw[z,hAk] at c;cases c
    rw[hD,sz j hj jk];unfold fw;rw[hk];dsimp only;have:q (rA ds j).2.1.toNat - q 0 - (q (rA ds j).2.2.1.toNat - q 0)=q (rA ds j).2.1.toNat - q (rA ds j).2.2.1.toNat:=by grind
    rw[this,e];grind
   ·rw[if_neg c] at e ⊢;have:q (rA ds j).2.1.toNat - q 0 - (q (rA ds j).2.2.1.toNat - q 0)=q (rA ds j).2.1.toNat - q (rA ds j).2.2.1.toNat:=by grind
    rw[this,e];grind
  |ho=>
   have f:fw X (rA ds j) (ixA m ds j)=X (ixA m ds j):=by unfold fw;rw[hk]
   rw[f,Xh j hj hk,hD];unfold fw;rw[(ks j hj).1,hk]
 have ntX:∀p,nt X m ds p=0:=fun p=>by
  rw[Nu];exact(aP fun j hj=>by rw[show m+bA (ds.take j)=ixA m ds j from rfl,fX j hj]).trans (TA p)
 have hoX:∀j,j < ds.length->(rA ds j).1=.ho->X (rA ds j).2.1.toNat=X (rA ds j).2.2.1.toNat:=fun j hj hk=>by
  have e:=hq j hj (by rw[hk];decide);rw[Xm _ (lt j hj).1,Xm _ (lt j hj).2]
  by_cases c:A j=true
  ·rw[if_pos c] at e;have jk:j≠k:=fun z=>by rw[z,hAk] at c;cases c
   have il:=vI (gN hj) hk;have wl:wd m ds=m - 1+bA ds:=rfl;have wl':wd m es=m - 1+bA es:=rfl;have hh:bA es=bA ds:=(Gm sk).symm;have a:=hv.hold o (x:=ixA m ds j) (by unfold ixA;lia) (by unfold ixA;lia);have b:=hw'.hold o' (x:=ixA m ds j) (by unfold ixA;lia) (by unfold ixA;lia);rw[show ixA m ds j=m+bA (ds.take j) from rfl,Pi v ds m j _ (gN hj) hk] at a;obtain⟨k1,k2,k3⟩:=ks j hj;rw[show ixA m ds j=m+bA (es.take j) by rw[oR sk],Pi w es m j _ (gN (by lia)) (k1.trans hk),k2,k3,oR sk,show m+bA (ds.take j)=ixA m ds j from rfl,rh j hj hk jk] at b;have a:v (rA ds j).2.1.toNat - v (rA ds j).2.2.1.toNat=r (ixA m ds j):=a;grind
  ·rw[if_neg c] at e;grind
 have hoX':∀d∈ds,d.1=.ho->X d.2.1.toNat=X d.2.2.1.toNat:=fun d hd hk=>by
  obtain⟨j,hj⟩:=getElem?_of_mem hd;have:=hoX j (List.getElem?_eq_some_iff.mp hj).1 (by rw[nQ hj];exact hk)
  rwa [nQ hj] at this
 have X0:X 0=0:=by rw[Xm 0 (by lia)];grind
 have Z:=yL (u:=X) m1 o.pt o.pos o.cn o.fr X0 fun y y1 yw=>by
  rw[Af (m:=m) X0 (by lia) y ds m o.pt m1 (by lia),ntX,Jg ds m hoX'];grind
 intro j hj c hk;have e:=hq j hj hk;rw[if_pos c] at e;have zs:=Z (rA ds j).2.1.toNat (by have:=(lt j hj).1;lia);have zg:=Z (rA ds j).2.2.1.toNat (by have:=(lt j hj).2;lia);rw[Xm _ (lt j hj).1] at zs;rw[Xm _ (lt j hj).2] at zg;have fall:w (rA ds j).2.1.toNat - w (rA ds j).2.2.1.toNat=v (rA ds j).2.1.toNat - v (rA ds j).2.2.1.toNat:=by grind
 refine⟨fall,?_⟩
 cases hk':(rA ds j).1 with
 |pu=>exact absurd hk' hk
 |pc=>unfold fw;rw[hk'];dsimp only;rw[fall]
 |ho=>
  have il:=vI (gN hj) hk';have z:=Z (ixA m ds j) (by unfold ixA;lia);rw[Xh j hj hk',if_pos c] at z;unfold fw;rw[hk'];dsimp only;grind
end
def bW (d:RD):Nat:=if d.2.2.2.1.natAbs < 128/\d.2.2.2.2.natAbs < 128 then 7 else 31
theorem qk1 (d:RD):bW d<=31:=by unfold bW;split<;>lia
theorem qk7 (h:Bd 31 d.2.2.2):Mq.B (bW d) (cwD d.1 d.2.2.2):=by
 unfold bW cwD;split
 ·rename_i c
  split
  ·exact c.1
  ·exact c.2
 ·split
  ·exact h.a
  ·exact h.b
structure Chd (m n:Nat) (ds:List RD):Prop where
 o:Nof m ds
 m5:m<=5
 w8:wd m ds<=8
 ok:∀d∈ds,wL (m:Int) d/\Bd 31 d.2.2.2/\(d.1=.pc->d.2.2.2.2.natAbs<=128)
 len:ds.length<=40
 bits:(ds.map bW).sum<=n
section
variable {m n:Nat} {ds:List RD}
theorem Chd.c1 (h:Chd m n ds)(hd:d∈ds):1<=cwD d.1 d.2.2.2:=by
 obtain⟨ro,_⟩:=h.ok d hd;unfold cwD;split
 ·rename_i c
  have:=ro.2.2.2.2.2.1 c;lia
 ·exact ro.2.2.2.2.1.pos
theorem Chd.szw (h:Chd m n ds)(hd:d∈ds)(dv:cwD d.1 d.2.2.2 ∣ L):SzW L d.1 d.2.2.2:=by
 obtain⟨ro,bd,le⟩:=h.ok d hd;unfold cwD at dv;exact⟨ro.2.2.2.2.1,bd,fun c=>⟨ro.2.2.2.2.2.1 c,by rw[if_pos c] at dv;exact dv,le c⟩,fun c=>by rw[if_neg c] at dv;exact dv⟩
theorem Chd.dw (h:Chd m n ds)(n118:n<=118)(s:NwS k p):∃L,Dw m L ds/\SzW L k p:=by
 obtain⟨c1,cB⟩:=s.c1;have l1:∀a∈ds.map fun d=>cwD d.1 d.2.2.2,1<=a:=fun a ha=>by
  obtain⟨d,hd,rfl⟩:=mem_map.mp ha;exact h.c1 hd
 have lp:=Mq.Iu l1;have lB:Mq.B (n+1) (prB (ds.map fun d=>cwD d.1 d.2.2.2)):=by
  have hb:=h.bits;have:∀{es:List RD},(∀d∈es,Bd 31 d.2.2.2)->Mq.B ((es.map bW).sum+1) (prB (es.map fun d=>cwD d.1 d.2.2.2)):=fun {es}=>by
   induction es with
   |nil=>intro _;show (1:Int).natAbs < 2 ^ (0+1);decide
   |cons d es ih=>
    intro g;have e:((d :: es).map bW).sum+1=bW d+((es.map bW).sum+1):=by rw[map_cons,sum_cons];lia
    rw[e];exact(qk7 (g d (by simp))).mul (ih fun x hx=>g x (mem_cons_of_mem _ hx))
  exact(this fun d hd=>(h.ok d hd).2.1).mono (by lia)
 have mp:=Int.mul_pos (show 0 < prB (ds.map fun d=>cwD d.1 d.2.2.2) by lia) (show 0 < cwD k p by lia);refine⟨prB (ds.map fun d=>cwD d.1 d.2.2.2)*cwD k p,⟨h.o,h.m5,h.w8,by lia,(lB.mul cB).mono (by lia),fun d hd=>⟨(h.ok d hd).1,h.szw hd ?_⟩,h.len⟩,s.sz ⟨_,Int.mul_comm _ _⟩⟩;exact Int.dvd_trans (Mq.Iv (mem_map.mpr ⟨d,hd,rfl⟩)) ⟨_,rfl⟩
theorem Zs:NwS .pu (1,1):=⟨⟨by decide,by decide⟩,⟨by show (1:Nat) < 2 ^ 31;decide,by show (1:Nat) < 2 ^ 31;decide⟩,by decide,fun h=>by cases h⟩
theorem Vf {l:List Nat}:∀{k x y:Nat},l[k]?=some x->(l.set k y).sum+x=l.sum+y:=by
 induction l with
 |nil=>intro k x y h;simp at h
 |cons a r ih=>
  intro k x y h
  cases k with
  |zero=>
   have:a=x:=Option.some.inj h;subst this;show y+r.sum+a=a+r.sum+y;lia
  |succ k=>
   have:=ih (y:=y) (show r[k]?=some x from h);show a+(r.set k y).sum+x=a+r.sum+y;lia
theorem Chd.set (h:Chd m n ds)(n118:n<=118)(hd:ds[k]?=some d)(s:NwS d.1 p):Chd m (n+24) (szS ds k p):=by
 obtain⟨L,D,sz⟩:=h.dw n118 s;have D':=D.set hd sz;refine⟨D'.o,h.m5,D'.w8,fun e he=>?_,D'.len,?_⟩
 ·obtain⟨a,b⟩:=D'.ok e he;exact⟨a,b.bd,fun c=>(b.pc c).2.2⟩
 ·rw[qW hd,map_set];have hk:(ds.map bW)[k]?=some (bW d):=by rw[getElem?_map,hd];rfl
  have:=Vf (y:=bW (d.1,d.2.1,d.2.2.1,p)) hk;have b1:7<=bW d:=by unfold bW;split<;>lia
  have b2:=qk1 (d.1,d.2.1,d.2.2.1,p);have:=h.bits;lia
theorem Us (h:Hng m t m E)(m5:m<=5)(le:E.length<=m - 1+6):Chd m 70 (rwH E)/\(rwH E).length<=10:=by
 have m1:=h.m1;have hl:=h.hold_le;have lE:(rwH E).length=E.length:=length_map ..;have l10:(rwH E).length<=10:=by lia
 refine⟨⟨h.nof,m5,by unfold wd;lia,fun d hd=>?_,by lia,?_⟩,l10⟩
 ·obtain⟨e,he,rfl⟩:=mem_map.mp hd;have oe:=h.en e he;obtain⟨p1,p2,p3,p4⟩:=oe.pt;refine⟨⟨p1,p2,p3,p4,oe.sl,fun hk=>(oe.pc hk).1,oe.bd.mono (by lia)⟩,oe.bd.mono (by lia),fun _=>?_⟩;have:=oe.bd.b;show e.2.2.2.2.2.natAbs<=128;have:e.2.2.2.2.2.natAbs < 2 ^ 7:=this;lia
 ·have:∀x∈(rwH E).map bW,x<=7:=fun x hx=>by
   obtain⟨d,hd,rfl⟩:=mem_map.mp hx;obtain⟨e,he,rfl⟩:=mem_map.mp hd;have b:=(h.en e he).bd;have a1:e.2.2.2.2.1.natAbs < 2 ^ 7:=b.a;have a2:e.2.2.2.2.2.natAbs < 2 ^ 7:=b.b;unfold bW;rw[if_pos ⟨a1,a2⟩];exact Nat.le_refl _
  have s:∀{l:List Nat},(∀x∈l,x<=7)->l.sum<=7*l.length:=fun {l}=>by
   induction l with
   |nil=>intro _;exact Nat.le_refl _
   |cons a r ih=>
    intro g;have:=ih fun x hx=>g x (mem_cons_of_mem _ hx);have:=g a (by simp);rw[sum_cons,length_cons];lia
  have:=s this;rw[length_map] at this;lia
theorem Hk:∀{ds:List RD} {t i:Nat} {d:RD},ds[i]?=some d->(rD lv hs t ds)[i]?=some (Ec lv hs (t+bA (ds.take i)) d)
 |e :: r,t,0,d,h=>by
  have h:e=d:=Option.some.inj h;subst h;rfl
 |e :: r,t,i+1,d,h=>by
  show (rD lv hs (t+bV e.1) r)[i]?=_;rw[Hk (ds:=r) h,take_succ_cons,dM,Nat.add_assoc]
theorem jR.str (h:jR m ds lv fl)(o:Nof m ds)(ok:∀d∈ds,wL (m:Int) d)(hd:ds[j]?=some d):∃v:Nat->Rat,Sv m ds (eqR m ds) v/\(∀p,p < m->Mq.val (lv.getD p (0,1))=v p)/\Low (fl.getD j (0,1))/\(d.1≠.pu->Mq.val (fl.getD j (0,1))=fw v d (m+bA (ds.take j)))/\(d.1=.pu->fl.getD j (0,1)=d.2.2.2):=by
 obtain⟨ps,e1,e2,lps,lo,OV,SV⟩:=h.e;have m1:=o.m1;have wl:wd m ds=m - 1+bA ds:=rfl;have ro:=ok d (mem_of_getElem? hd);have hl:∀p,p < m->Mq.val (lv.getD p (0,1))=uP ps p:=fun p hp=>by
  rw[e1];unfold uP lvS
  cases p with
  |zero=>show Mq.val (0,1)=_;rw[if_pos rfl];exact rM
  |succ p=>
   rw[if_neg (by lia),Nat.add_sub_cancel];have e:((0,1) :: ps.take (m - 1)).getD (p+1) (0,1)=ps.getD p Mq.z0:=by
    rw[getD_cons_succ,getD_eq_getElem?_getD,getD_eq_getElem?_getD,getElem?_take_of_lt (by lia)]
   rw[e]
 have fj:fl.getD j (0,1)=Ec (lvS m ps) (ps.drop (m - 1)) (bA (ds.take j)) d:=by
  rw[e2,getD_eq_getElem?_getD,Hk hd,Nat.zero_add];rfl
 refine⟨uP ps,SV,hl,?_⟩;rw[fj];obtain⟨kd,u,v,s⟩:=d;obtain⟨u0,u1,v0,v1,sl,sp,_⟩:wL (m:Int) (kd,u,v,s):=ro;have u0:0<=u:=u0;have u1:u < (m:Int):=u1;have v0:0<=v:=v0;have v1:v < (m:Int):=v1;rw[<- e1];have low:∀p,p < m->Low (lv.getD p (0,1)):=fun p hp=>by
  rw[e1];unfold lvS
  cases p with
  |zero=>show Low ((0,1):Q2);exact⟨by decide,by decide⟩
  |succ p=>
   have e:((0,1) :: ps.take (m - 1)).getD (p+1) (0,1)=ps.getD p Mq.z0:=by
    rw[getD_cons_succ,getD_eq_getElem?_getD,getD_eq_getElem?_getD,getElem?_take_of_lt (by lia)]
   rw[e,getD_eq_getElem?_getD,getElem?_eq_getElem (by lia)];exact lo _ (getElem_mem _)
 have lu:=low u.toNat (by lia);have lv':=low v.toNat (by lia)
 cases kd with
 |pu=>exact⟨sl,fun c=>absurd rfl c,fun _=>rfl⟩
 |pc=>
  have s0:0 < s.1:=sp rfl;have lf:Low (flF lv (.pc,u,v,s)):=dD lu.pos lv'.pos;have vf:Mq.val (flF lv (.pc,u,v,s))=Mq.val (lv.getD u.toNat (0,1)) - Mq.val (lv.getD v.toNat (0,1)):=gE lu.pos lv'.pos;refine⟨iH (q:=s) lf.pos (by lia),fun _=>?_,fun c=>by cases c⟩;show Mq.val (fI (flF lv (.pc,u,v,s)) s)=(uP ps u.toNat - uP ps v.toNat)*(1 / Mq.val s)
  rw[jV (q:=s) lf.pos sl.pos (by lia),vf,hl _ (by lia),hl _ (by lia)];grind
 |ho=>
  have hx:=vI hd rfl;have e:Ec lv (ps.drop (m - 1)) (bA (ds.take j)) (.ho,u,v,s)=ps.getD (m - 1+bA (ds.take j)) Mq.z0:=by
   show (ps.drop (m - 1)).getD (bA (ds.take j)) Mq.z0=_;rw[getD_eq_getElem?_getD,getD_eq_getElem?_getD,getElem?_drop]
  rw[e];refine⟨?_,fun _=>?_,fun c=>by cases c⟩
  ·rw[getD_eq_getElem?_getD,getElem?_eq_getElem (by lia)];exact lo _ (getElem_mem _)
  ·show _=uP ps (m+bA (ds.take j));unfold uP;rw[if_neg (by lia),show m+bA (ds.take j) - 1=m - 1+bA (ds.take j) by lia]
end
theorem Gu (x:Nat):∀(ds:List RD) (h:Nat),eqR h ds x=Mq.rs ds.length (fun j=>cR (rA ds j) (h+bA (ds.take j)) x)
 | [],h=>rfl
 |d :: ds,h=>by
  show cR d h x+eqR (h+bV d.1) ds x=_;rw[Gu x ds,length_cons,jF];have e:∀j,h+bA ((d :: ds).take (j+1))=h+bV d.1+bA (ds.take j):=fun j=>by
   rw[take_succ_cons,dM];lia
  have e0:h+bA ((d :: ds).take 0)=h:=rfl;rw[e0,aP (n:=ds.length) (F:=fun j=>cR (rA (d :: ds) (j+1)) (h+bA ((d :: ds).take (j+1))) x) (G:=fun j=>cR (rA ds j) (h+bV d.1+bA (ds.take j)) x) fun j _=>by rw[e];rfl];rfl
section
variable {m n:Nat} {ds:List RD}
theorem Mj (hd:ds[k]?=some d)(hj:j < ds.length)(jk:j≠k):rA (szS ds k p) j=rA ds j:=by
 have:=yQ (p:=p) hd j;rw[if_neg (Ne.symm jk),gN hj] at this;exact nQ this
theorem Zw (hd:ds[k]?=some d):rA (szS ds k p) k=(d.1,d.2.1,d.2.2.1,p):=by
 have:=yQ (p:=p) hd k;rw[if_pos rfl] at this;exact nQ this
theorem Hj (hd:ds[k]?=some d)(hp:d.1≠.pu)(hx:d.1=.ho->x≠m+bA (ds.take k)):eqR m (szS ds k p) x=eqR m ds x:=by
 rw[Gu,Gu,Aa];refine aP fun j hj=>?_;rw[oR (oC ds k p) j]
 by_cases jk:j=k
 ·subst jk;rw[Zw hd,nQ hd];unfold cR
  cases hk:d.1 with
  |pc=>rfl
  |pu=>exact absurd hk hp
  |ho=>
   dsimp only;have:=hx hk;rw[if_neg (Ne.symm this),if_neg (Ne.symm this)]
 ·rw[Mj hd hj jk]
theorem qe6 (hm:∀d∈skl ds,d.2.1 < m/\d.2.2 < m)(m20:m<=20)(kl:k < ds.length):∀c∈(dE Blk.joinsW (skl ds) ds.length).2,∀s∈c.2,decide (Blk.mkb (skl ds) s.1=Blk.mkb (skl ds) k)=decide (Blk.mkb (skl ds) c.1=Blk.mkb (skl ds) k):=fun c hc s hs=>by
 have sl:(skl ds).length=ds.length:=by unfold skl;rw[length_map]
 rw[<- sl] at hc;have rin:c.2.map (·.1)∈Blk.rgs (skl ds):=mem_map.mpr ⟨c,hc,rfl⟩;obtain⟨lt,_⟩:=Blk.rg_cy (Nat.le_refl _) hc;have c1:c.1∈c.2.map (·.1):=by
  obtain⟨_,k',u,v,st,pts,_,h3,_⟩:=(jY (W:=Blk.joinsW) hm (skl ds).length (Nat.le_refl _)).r c hc;rw[h3];simp
 have s1:s.1∈c.2.map (·.1):=mem_map.mpr ⟨s,hs,rfl⟩;have e:Blk.mkb (skl ds) s.1=Blk.mkb (skl ds) c.1:=by
  unfold Blk.mkb Blk.bmk;exact Blk.fold_ring (Blk.rgs (skl ds)) rin s1 c1 (by rw[length_map,length_range];exact lt _ s1) (by rw[length_map,length_range];exact lt _ c1)
 rw[e]
theorem No (D:Dw m L ds)(sz:SzW L d.1 p)(hd:ds[k]?=some d)(hp:d.1≠.pu)(a:jR m ds lv fl)(b:jR m (szS ds k p) lw gl):
  ∀j e,ds[j]?=some e->Blk.mkb (skl ds) j≠Blk.mkb (skl ds) k->e.1≠.pu->fl.getD j (0,1)=gl.getD j (0,1)/\flF lv e=flF lw e:=by
 intro j e he hb hk;have D':=D.set hd sz;have o:=D.o;have o':=D'.o;have m5:=D.m5;have hj:=(List.getElem?_eq_some_iff.mp he).1;have kl:=(List.getElem?_eq_some_iff.mp hd).1;have jk:j≠k:=fun z=>hb (by rw[z]);have hm:∀d∈skl ds,d.2.1 < m/\d.2.2 < m:=fun d hd=>by
  obtain⟨e,he,rfl⟩:=mem_map.mp hd;obtain⟨a,b,c,f⟩:=o.pt e he;show e.2.1.toNat < m/\e.2.2.1.toNat < m;lia
 have he':(szS ds k p)[j]?=some e:=by rw[yQ hd,if_neg (Ne.symm jk)];exact he
 obtain⟨v,sv,hv,lo1,f1,_⟩:=a.str o (fun d hd=>(D.ok d hd).1) he;obtain⟨w,sw,hw,lo2,f2,_⟩:=b.str o' (fun d hd=>(D'.ok d hd).1) he';have hA:=qe6 hm (by lia) kl;have st:=stay (k:=k) (A:=fun i=>!decide (Blk.mkb (skl ds) i=Blk.mkb (skl ds) k)) o o' (oC ds k p) (by lia) (by simp) (fun i hi ik=>Mj hd hi ik) (fun c hc s hs=>by
   show (!_)=(!_)
   rw[hA c hc s hs]) sv sw (fun x x1 xm=>Hj hd hp fun _ z=>by lia) (fun i hi ik hik=>Hj hd hp fun dk z=>by
   have z:bA (ds.take i)=bA (ds.take k):=by unfold ixA at z;lia
   rcases Nat.lt_trichotomy i k with c | c | c
   ·have:=sY (gN hi) ik c;lia
   ·exact hik c
   ·have:=sY hd dk c;lia) j hj (by simp[hb]) (by rw[nQ he];exact hk)
 rw[nQ he] at st;obtain⟨s1,s2⟩:=st;refine⟨sV lo1 lo2 ?_,?_⟩
 ·rw[f1 hk,f2 hk,oR (oC ds k p) j];exact s2.symm
 ·obtain⟨u0,u1,v0,v1,_⟩:=(D.ok e (mem_of_getElem? he)).1;have lowL:∀{ds':List RD} {lv fl:List Q2},Nof m ds'->jR m ds' lv fl->∀q,q < m->Low (lv.getD q (0,1)):=fun {ds' lv fl} o h q hq=>by
   obtain⟨ps,e1,_,lps,lo,_⟩:=h.e;have m1:=o.m1;have wl:wd m ds'=m - 1+bA ds':=rfl;rw[e1];unfold lvS
   cases q with
   |zero=>show Low ((0,1):Q2);exact⟨by decide,by decide⟩
   |succ q=>
    have e:((0,1) :: ps.take (m - 1)).getD (q+1) (0,1)=ps.getD q Mq.z0:=by
     rw[getD_cons_succ,getD_eq_getElem?_getD,getD_eq_getElem?_getD,getElem?_take_of_lt (by lia)]
    rw[e,getD_eq_getElem?_getD,getElem?_eq_getElem (by lia)];exact lo _ (getElem_mem _)
  have a1:=lowL o a e.2.1.toNat (by lia);have a2:=lowL o a e.2.2.1.toNat (by lia);have b1:=lowL o' b e.2.1.toNat (by lia);have b2:=lowL o' b e.2.2.1.toNat (by lia);refine sV (dD a1.pos a2.pos) (dD b1.pos b2.pos) ?_;show Mq.val (Mq.minus _ _)=Mq.val (Mq.minus _ _);rw[gE a1.pos a2.pos,gE b1.pos b2.pos,hv _ (by lia),hv _ (by lia),hw _ (by lia),hw _ (by lia)];exact s1.symm
end
open PySem.W
theorem Sn {K:Params->Frag}{run:Value->List Value->Sem Value}(e:∀P,bs=(K P).map (·.1))(h:WalkO q loose XP (fun w h=>(K w.params).In h) r d kwd run):WalkX q loose XP (W.X.obsZ bs) (W.X.valZ K n t) r d kwd run:=
 fun w s₀ s₁ mg mb G y a o pm cd doc dV kV h1 h2 h3 h4 h5 h6 args vals as' L=>h w s₀ s₁ mg mb G (InK.keeps w _ _ (W.X.z_facts e y).2.1 L.keeps) a o pm cd doc dV kV h1 h2 h3 h4 h5 h6 args vals as'
section
variable {K:Frag} {x qual:Str} {st:Stmt} {dV:Value} {f:Addr} {fd:FuncData}
theorem aV.b1 (a:Str)(F:aV K x qual st dV f fd)(h:∀(kV doc pm:Value) (an:Option Addr) (cdv ct u:Value),bindArgs (W.fnOf x qual (fA st) (cV st) (aH st) dV kV doc pm an cdv ct) ⟨[u],[]⟩=pure [(a,u)]):aM K fd [a] []:=
 F.binds fun k d p n c t us hl=>match us,hl with | [_],_=>h k d p n c t _
theorem aV.b2 (a b:Str)(F:aV K x qual st dV f fd)(h:∀(kV doc pm:Value) (an:Option Addr) (cdv ct u v:Value),bindArgs (W.fnOf x qual (fA st) (cV st) (aH st) dV kV doc pm an cdv ct) ⟨[u,v],[]⟩=pure [(a,u),(b,v)]):aM K fd [a,b] []:=
 F.binds fun k d p n c t us hl=>match us,hl with | [_,_],_=>h k d p n c t _ _
theorem aV.b3 (a b c:Str)(F:aV K x qual st dV f fd)(h:∀(kV doc pm:Value) (an:Option Addr) (cdv ct u v w:Value),bindArgs (W.fnOf x qual (fA st) (cV st) (aH st) dV kV doc pm an cdv ct) ⟨[u,v,w],[]⟩=pure [(a,u),(b,v),(c,w)]):aM K fd [a,b,c] []:=
 F.binds fun k d p n c t us hl=>match us,hl with | [_,_,_],_=>h k d p n c t _ _ _
theorem aV.b4 (a b c e:Str)(F:aV K x qual st dV f fd)(h:∀(kV doc pm:Value) (an:Option Addr) (cdv ct u v w z:Value),bindArgs (W.fnOf x qual (fA st) (cV st) (aH st) dV kV doc pm an cdv ct) ⟨[u,v,w,z],[]⟩=pure [(a,u),(b,v),(c,w),(e,z)]):aM K fd [a,b,c,e] []:=
 F.binds fun k d p n c t us hl=>match us,hl with | [_,_,_,_],_=>h k d p n c t _ _ _ _
end
end L2
namespace K74
open PySem L2
variable {CR:Addr}{CK fW fJ fT fS:Kd->Addr}{fdW fdJ fdT fdS:Kd->FuncData}
structure D9 (P:Program)(w:World)(K:Frag)(mg:Str->Option Value)(base:Heap)(j:Nat)(g:Addr)(gd:FuncData)(ps:List Str)(sp:Sp)(nm:Str):Prop where
 G:aL P w K mg base CX0 j g gd ps sp
 b:aM K gd ps []
 k:kI9 K g
 m:mI9 mg nm g
theorem d9 (D:D9 X.prog X.w X.K X.mg X.base k f fd ps sp x)(hr:hZ k X.A)(hg:Gl X x)(ha:PA X (e :: es) t)(hdb:(x == ("__debug__":Str))=false:=by decide)(he:starEach (e :: es) X.env=(false,eval e X.env) :: starEach es X.env:=by rfl)(hpl:(backTo pos (starEach es X.env)).any (·.1)=false:=by rfl):PE X (.Call (.Name x p) (e :: es) [] pos) (qi9 sp [] E0 t):=aG D.G hr hg D.m D.k D.b .nil aK ha hdb he hpl
def top (i:Nat):Stmt:=PySem.Challenge.pw_ohmyard_k74_whole_the_rest_stays.main.body.getD i (.Pass ⟨0,0,0,0⟩)
abbrev Hb:Stmt:=top 15
theorem Sz:aR ["thing"] ["thing"] (aH Hb):=sK9
abbrev sGc:Stmt:=top 17
theorem Tb:aR ["one","other","rest"] ["one","other"] (aH sGc):=sK9
abbrev Fd:Stmt:=top 23
theorem Th:aR ["one","other"] ["one","other"] (aH Fd):=sK9
abbrev kQ:Stmt:=top 18
theorem Dq:aR ["top","bottom","shared"] ["top","bottom"] (aH kQ):=sK9
abbrev Gx:Stmt:=top 20
theorem Ut:aR ["one","other"] ["one","other"] (aH Gx):=sK9
abbrev Ny:Stmt:=top 19
theorem Xx:aR ["one","other"] ["one","other"] (aH Ny):=sK9
abbrev Er:Stmt:=cO (top 35) 0
theorem Uj:aR ["self","start","goal","size"] ["self","start","goal","size"] (aH Er):=sK9
abbrev wC:Stmt:=cO (top 36) 0
theorem Lc:aR ["self"] ["self"] (aH wC):=sK9
abbrev tX:Stmt:=cO (top 37) 0
theorem Lm:aR ["self"] ["self"] (aH tX):=sK9
abbrev vX:Stmt:=cO (top 38) 0
theorem Lw:aR ["self"] ["self"] (aH vX):=sK9
abbrev He:Stmt:=cO (top 35) 1
theorem Tl:aR ["self"] ["self"] (aH He):=sK9
abbrev Ds:Stmt:=top 39
theorem Ib:aR ["told","word"] ["told"] (aH Ds):=sK9
abbrev Yb:Stmt:=top 16
theorem qh3:aR ["thing"] ["thing"] (aH Yb):=sK9
abbrev sPS:Stmt:=top 41
theorem ql8:aR ["thing"] ["thing"] (aH sPS):=sK9
abbrev sNB:Stmt:=top 46
theorem qm0:aR ["thing","bound"] ["thing","bound"] (aH sNB):=sK9
abbrev sRS:Stmt:=top 49
theorem qm8:aR ["word","size"] ["word","size"] (aH sRS):=sK9
theorem wH:(["point","many"]:List Str).Nodup:=by decide +kernel
inductive Xr (K:Frag) (vs:List V) (H:Hp) (Q:VK) (E:XK):Prop where
 |mk (l:Addr) (i j m:Int):vs=[.ref l,.int m]->SqL K H l [.int i,.int j]->0<=i->i < m->0<=j->j < m->(∀H',aZ H H'->Q .non H')->Xr K vs H Q E
inductive Ot (vs:List V) (H:Hp) (Q:VK) (E:XK):Prop where
 |mk (k c:Int):vs=[.int k,.int c]->0<=k->k < c->Q .non H->Ot vs H Q E
abbrev sRP:Stmt:=top 47
theorem ql1:aR ["some","many"] ["some","many"] (aH sRP):=sK9
abbrev sRN:Stmt:=top 48
theorem ql4:aR ["k","count"] ["k","count"] (aH sRN):=sK9
abbrev Hc:Stmt:=cO (top 45) 0
theorem Tw:aR ["self","many"] ["self","many"] (aH Hc):=sK9
abbrev Sj:Stmt:=cO (top 45) 1
theorem qc8:aR ["self"] ["self"] (aH Sj):=sK9
abbrev Hg:Stmt:=cO (top 45) 2
theorem Vr:aR ["self"] ["self"] (aH Hg):=sK9
abbrev Fm:Stmt:=cO (top 45) 6
theorem Vk:aR ["self"] ["self"] (aH Fm):=sK9
abbrev Xi:Stmt:=cO (top 45) 3
theorem Wq:aR ["self","row","told"] ["self","row"] (aH Xi):=sK9
abbrev Ax:Stmt:=cO (top 45) 4
theorem Dm:aR ["self","k","size","old"] ["self","k","size"] (aH Ax):=sK9
theorem Tx:(["told"]:List Str).Nodup:=by decide +kernel
abbrev Os:Stmt:=cO (top 45) 5
theorem qc2:aR ["self"] ["self"] (aH Os):=sK9
theorem Dc (F:aL P w K mg base CX0 2 g gd ["thing"] (Fw K)):aL P w K mg base CX0 2 g gd ["thing"] (Jo K):=
 F.weak fun vs H Q E h=>by
  obtain⟨a,p,rfl,f,l,q⟩:=h;exact⟨_,some p,rfl,.fr f l,q⟩
abbrev Fn:Stmt:=top 21
theorem Ur:aR ["one","other"] ["one","other"] (aH Fn):=sK9
abbrev Qo:Stmt:=top 22
theorem Yh:aR ["one","other"] ["one","other"] (aH Qo):=sK9
abbrev Eb:Stmt:=top 67
theorem Vy:aR ["line","column","amount"] ["line","column","amount"] (aH Eb):=sK9
abbrev Ex:Stmt:=top 66
theorem Wd:aR ["matrix","row","column","amount"] ["matrix","row","column","amount"] (aH Ex):=sK9
abbrev yM:Stmt:=top 63
theorem Cm:aR ["matrix","row","share"] ["matrix","row"] (aH yM):=sK9
abbrev zU:Stmt:=top 64
theorem Rg:aR ["right","row"] ["right","row"] (aH zU):=sK9
abbrev zN:Stmt:=top 65
theorem Oy:aR ["matrix","right","row","column"] ["matrix","right","row","column"] (aH zN):=sK9
section
theorem kX (f:Fq K H t p):∀n,Fqs K H (replicate n (.ref t)) (replicate n p)
 |0=>.nil
 |n+1=>.cons f (kX f n)
theorem lT (x:V):∀n,(replicate n [x]).flatten=replicate n x
 |0=>rfl
 |n+1=>by rw[replicate_succ,flatten_cons,lT x n];rfl
theorem xU (xs:List V)(k:Nat):iR xs (some (k:Int)) none=xs.drop k:=by
 unfold iR;have h1:HT.sIx xs.length xs.length none=xs.length:=rfl;have h2:HT.sIx xs.length 0 (some (k:Int))=min k xs.length:=by simp[HT.sIx];lia
 rw[h1,h2]
 by_cases h:k<=xs.length
 ·rw[Nat.min_eq_left h,take_of_length_le (by simp)]
 ·rw[Nat.min_eq_right (by lia),drop_of_length_le (Nat.le_refl _),drop_of_length_le (by lia)];simp
theorem Ka (xs:List V):iR xs (some 1) none=xs.drop 1:=xU xs 1
theorem Ki (h:X.K=K):SlR X (Tq K):=by subst h;exact gK
theorem uZ (R:List Q2)(j:Nat):(R.drop 1).getD j (0,1)=R.getD (j+1) (0,1):=by
 rw[getD_eq_getElem?_getD,getElem?_drop,Nat.add_comm 1 j,getD_eq_getElem?_getD]
theorem Mb (M:List (List Q2))(i j:Nat):jO ((M.drop 1).map (List.drop 1)) i j=jO M (i+1) (j+1):=by
 have e:((M.drop 1).map (List.drop 1)).getD i []=(M.getD (i+1) []).drop 1:=by
  rw[getD_eq_getElem?_getD,getElem?_map,getElem?_drop,Nat.add_comm 1 i,getD_eq_getElem?_getD]
  cases M[i+1]?<;>rfl
 unfold jO;rw[e,uZ]
theorem Rj {w n:Nat}(b:MxB M w w n):MxB ((M.drop 1).map (List.drop 1)) (w - 1) (w - 1) n:=by
 refine⟨by rw[length_map,length_drop,b.h],fun ps hp=>?_,fun ps hp p hp'=>?_⟩
 ·obtain⟨qs,hq,rfl⟩:=mem_map.mp hp;rw[length_drop,b.w _ (mem_of_mem_drop hq)]
 ·obtain⟨qs,hq,rfl⟩:=mem_map.mp hp;exact b.l _ (mem_of_mem_drop hq) _ (mem_of_mem_drop hp')
theorem Pk {w n:Nat}(b:LnB R w n):LnB (R.drop 1) (w - 1) n:=⟨by rw[length_drop,b.w],fun p hp=>b.l p (mem_of_mem_drop hp)⟩
theorem Uw (w:Nat):MxB (replicate w (replicate w (0,1))) w w 1:=by
 refine⟨length_replicate,fun ps hp=>?_,fun ps hp p hp'=>?_⟩
 ·rw[eq_of_mem_replicate hp,length_replicate]
 ·rw[eq_of_mem_replicate hp] at hp';rw[eq_of_mem_replicate hp'];exact⟨⟨by decide,by decide⟩,⟨show (0:Nat) < 2 ^ 1 by decide,show (1:Nat) < 2 ^ 1 by decide⟩⟩
theorem qR (w j:Nat):(replicate w ((0,1):Q2)).getD j (0,1)=(0,1):=by
 rw[getD_eq_getElem?_getD]
 cases e:(replicate w ((0,1):Q2))[j]? with
 |none=>rfl
 |some p=>exact eq_of_mem_replicate (mem_of_getElem? e)
theorem Qf (w i j:Nat):jO (replicate w (replicate w (0,1))) i j=(0,1):=by
 have e:(replicate w (replicate w ((0,1):Q2))).getD i []=[]\/(replicate w (replicate w ((0,1):Q2))).getD i []=replicate w (0,1):=by
  rw[getD_eq_getElem?_getD]
  cases e:(replicate w (replicate w ((0,1):Q2)))[i]? with
  |none=>exact .inl rfl
  |some ps=>exact .inr (eq_of_mem_replicate (mem_of_getElem? e))
 unfold jO;rcases e with e | e
 ·rw[e];rfl
 ·rw[e];exact qR w j
theorem yK (w:Nat):LnB (replicate w (0,1)) w 1:=⟨length_replicate,fun p hp=>by
 rw[eq_of_mem_replicate hp];exact⟨⟨by decide,by decide⟩,⟨show (0:Nat) < 2 ^ 1 by decide,show (1:Nat) < 2 ^ 1 by decide⟩⟩⟩
theorem Ek (i:Nat):bA (ds.take i)<=bA ds:=by
 have h:bA ds=bA (ds.take i)+bA (ds.drop i):=by
  unfold bA iU;rw[<- List.length_append,<- filter_append,take_append_drop]
 lia
theorem Mm:(["row"]:List Str).Nodup:=by decide +kernel
theorem wI:(["line","width"]:List Str).Nodup:=by decide +kernel
theorem Vi:(["line"]:List Str).Nodup:=by decide +kernel
theorem Fqs.drop1:∀{xs:List V} {ps:List Q2},Fqs K H xs ps->Fqs K H (xs.drop 1) (ps.drop 1)
 |_,_,.nil=>.nil
 |_,_,.cons _ q=>q
abbrev qa0:Stmt:=top 62
theorem pW:aR ["net","rows","many","width","matrix","right","held","row"] ["net"] (aH qa0):=sK9
theorem iS {ec:List (Str × Addr)}:∀(x:Str) (c:Addr),([]:List (Str × Addr)).lookup x=some c->ec.lookup x=some c:=fun _ _ h=>by cases h
theorem cY {ec cl:List (Str × Addr)}(h:ec.lookup a=some d)(r:∀x c,cl.lookup x=some c->ec.lookup x=some c):∀x c,((a,d) :: cl).lookup x=some c->ec.lookup x=some c:=fun x c e=>by
 rw[lookup_cons] at e
 cases q:x == a with
 |true=>rw[q] at e;rw[eq_of_beq q,h];exact e
 |false=>rw[q] at e;exact r x c e
theorem pE (h:X.K=K):IxR X (Ov K):=by subst h;exact aT
theorem jQ (h:X.K=K):IxR X (Ys K):=by subst h;exact bG
abbrev Em:Stmt:=top 32
theorem sQ:aR ["rows","numbers","point","steps","number","row"] ["rows","numbers","point"] (aH Em):=sK9
theorem Zf (hm:Ptm m es)(hb:b < m)(h20:m<=20){w:WS}(nd:(cE w).Nodup)(pt:∀x st,(x,st)∈w->∃pts,Pt es b st x pts/\∀y∈pts,y∈cE w)(p:Pt es b st x pts)(k:∀y∈pts,y∈cE w):st.length<=20:=by
 have l:pts.length=st.length+1:=by
  induction p with
  |nil=>rfl
  |snoc h g n ih=>rw[List.length_append,List.length_append,ih fun y hy=>k y (mem_append_left _ hy)];rfl
 have nd':pts.Nodup:=by
  clear k l
  induction p with
  |nil=>simp
  |snoc h g n ih=>
   rw[nodup_append];refine⟨ih,by simp,fun x hx y hy z=>n ?_⟩;rw[mem_singleton] at hy;rw[<- hy,<- z];exact hx
 have:=Hw nd' fun y hy=>yS hm hb pt y (k y hy);lia
theorem Yx {T:List (Stp × Nat)}(hm:Ptm m es)(hb:b < m)(h20:m<=20)(h:WJ es b p [] s)(g:∀t∈T,mX es t.1 p t.2):((T.take j).foldl (inF p) s).2.length<=muF s:=by
 have:=zJ hm hb h20 (T.take j) [] h fun t ht=>g t (mem_of_mem_take ht);unfold muF at this ⊢;lia
def muW (σ:St)(H:Hp):Nat:=match σ with
 | [_,_,_,_,some (.ref D),some (.ref W),_,_]=>match H D,H W with
  |some (.dK kvs),some (.lst q)=>2*(20 - kvs.length)+q.length
  |_,_=>0
 |_=>0
theorem Rk {a b c d e f:Option V}(h:H D=some (.dK kvs))(g:H W=some (.lst q)):muW [a,b,c,d,some (.ref D),some (.ref W),e,f] H=2*(20 - kvs.length)+q.length:=by
 show (match H D,H W with | some (.dK kvs),some (.lst q)=>2*(20 - kvs.length)+q.length | _,_=>0)=_;rw[h,g]
theorem Pb (h:q≠[]):(q.map fun (p:Nat)=>V.int (p:Int))[((q.map fun (p:Nat)=>V.int (p:Int))).length - 1]?=some (.int ((q.getLastD 0:Nat):Int))/\(q.map fun (p:Nat)=>V.int (p:Int)).dropLast=(q.dropLast.map fun (p:Nat)=>V.int (p:Int)):=by
 obtain⟨_,e⟩:=Ir h;generalize q.getLastD 0=x at e;generalize q.dropLast=r at e;subst e;rw[map_append];simp
abbrev Yf:Stmt:=top 31
theorem Dk:aR ["rows","numbers","begin","end","ways","waiting","point","step"] ["rows","numbers","begin","end"] (aH Yf):=sK9
theorem Bo {ds:List RD}{i:Nat}{d:RD}(h:ds[i]?=some d):(skl ds)[i]?=some (d.1,d.2.1.toNat,d.2.2.1.toNat):=by unfold skl;rw[getElem?_map,h];rfl
theorem Ez (ds:List RD):(skl ds).length=ds.length:=by unfold skl;rw[length_map]
theorem Wu {m:Nat}(pt:∀d∈ds,cX (m:Int) d.2.1 d.2.2.1):∀d∈skl ds,d.2.1 < m/\d.2.2 < m:=fun d hd=>by
 obtain⟨e,he,rfl⟩:=mem_map.mp hd;obtain⟨i0,i1,j0,j1⟩:=pt e he;exact⟨by show e.2.1.toNat < m;lia,by show e.2.2.1.toNat < m;lia⟩
theorem Uf {m n:Nat}(pt:∀d∈ds,cX (m:Int) d.2.1 d.2.2.1)(h:RI W (skl ds) m n s):Ye ds s.1:=fun e he=>by
 obtain⟨k,hk⟩:=h.at_ e he;have hl:e.1 < ds.length:=by have:=(List.getElem?_eq_some_iff.mp hk).1;rwa [Ez] at this
 have hd:ds[e.1]?=some ds[e.1]:=getElem?_eq_getElem hl;rw[Bo hd] at hk;obtain⟨i0,i1,j0,j1⟩:=pt _ (mem_of_getElem? hd);refine⟨_,hd,?_,?_⟩
 ·have:ds[e.1].2.1.toNat=e.2.1:=by injection hk with z;injection z with _ z;injection z
  lia
 ·have:ds[e.1].2.2.1.toNat=e.2.2:=by injection hk with z;injection z with _ z;injection z
  lia
theorem Qu:∀n,(dE W sk n).1.length<=n
 |0=>Nat.le_refl _
 |n+1=>by
  have ih:=Qu (W:=W) (sk:=sk) n
  cases h:sk[n]? with
  |none=>show (match sk[n]? with | none=>dE W sk n | some d=>gJ W (dE W sk n) n d).1.length<=n+1;rw[h];show (dE W sk n).1.length<=n+1;lia
  |some d=>
   rw[gO h];generalize dE W sk n=s at ih;unfold gJ;split
   ·split
    ·show (s.1++[(n,d.2.1,d.2.2)]).length<=n+1;rw[List.length_append];simp only[length_cons,length_nil];lia
    ·show s.1.length<=n+1;lia
   ·lia
def WdA (K:Frag)(H:Hp)(v:V)(W:Kd->Bool):Prop:=∃(p:Addr) (ws:List V),v=.ref p/\(SqL K H p ws\/SqT K H p ws)/\ws.all jJ=true/\∀k:Kd,inV (.str k.wd) ws=W k
theorem WdA.same (e:aZ H H')(h:WdA K H v W):WdA K H' v W:=by
 obtain⟨p,ws,h1,h2,h3⟩:=h;refine⟨p,ws,h1,?_,h3⟩;rcases h2 with z | z
 ·exact .inl (e.seq z)
 ·exact .inr (e.seqT z)
theorem qe8 (k:Kd):inV (.str k.wd) [.str "piece",.str "hold"]=decide (k≠.pu):=by cases k<;>decide
abbrev iJ:Stmt:=top 30
theorem jI:aR ["net","words","wanted","rows","branches","found","number","row","back"] ["net","words"] (aH iJ):=sK9
abbrev qI:Stmt:=cO (top 36) 1
theorem Ee:aR ["self"] ["self"] (aH qI):=sK9
abbrev rC:Stmt:=cO (top 37) 1
theorem Fv:aR ["self"] ["self"] (aH rC):=sK9
abbrev qT:Stmt:=cO (top 38) 1
theorem Ef:aR ["self"] ["self"] (aH qT):=sK9
inductive tV (K:Frag) (CK:Kd->Addr) (vs:List V) (H:Hp) (Q:VK) (E:XK):Prop where
 |mk (a x:Addr) (ms:List Int) (k:Kd) (s g:Nat) (z:V):vs=[.ref a,.ref x]->SqL K H a (ms.map V.int)->Rw CK H x k (.int (s:Int)) (.int (g:Int)) z->s < ms.length->g < ms.length->ms.length<=100->(∀l H',aZ H H'->H l=none->H' l=some (.lst ((jn ms s g).map V.int))->Q (.ref l) H')->tV K CK vs H Q E
inductive Ak (CN:Addr) (K:Frag) (vs:List V) (H:Hp) (Q:VK) (E:XK):Prop where
 |mk (n l:Addr) (m:Nat) (ds:List RD):vs=[.ref n]->dF CN K H n l (m:Int) ds->(∀d∈ds,cX (m:Int) d.2.1 d.2.2.1)->m<=20->ds.length<=100->(∀l' H',aZ H H'->H l'=none->H' l'=some (.lst ((mks m ds).map V.int))->Q (.ref l') H')->Ak CN K vs H Q E
def Kw (m:Nat)(ds:List RD):List Int:=((List.range m).filter fun p=>decide (mk m ds p≠mk m ds 0)).map fun (p:Nat)=>(p:Int)
inductive zR (CN:Addr) (K:Frag) (vs:List V) (H:Hp) (Q:VK) (E:XK):Prop where
 |mk (n l:Addr) (m:Nat) (ds:List RD):vs=[.ref n]->dF CN K H n l (m:Int) ds->(∀d∈ds,cX (m:Int) d.2.1 d.2.2.1)->1<=m->m<=20->ds.length<=100->(∀l' H',aZ H H'->H l'=none->H' l'=some (.lst ((Kw m ds).map V.int))->Q (.ref l') H')->zR CN K vs H Q E
theorem pC:(["mark","lost","kept"]:List Str).Nodup:=by decide +kernel
abbrev zI:Stmt:=top 29
theorem vB:aR ["marks","row","kept","lost"] ["marks","row"] (aH zI):=sK9
abbrev Gi:Stmt:=top 28
theorem rX:aR ["net","marks","row"] ["net"] (aH Gi):=sK9
theorem iO:(["point","mark","marks"]:List Str).Nodup:=by decide +kernel
abbrev Eg:Stmt:=top 27
theorem Jb:aR ["net","marks"] ["net"] (aH Eg):=sK9
open Shp
theorem wG:(["one","bottom"]:List Str).Nodup:=by decide +kernel
abbrev sIW:Stmt:=top 53
theorem Up:aR ["some","bottom","one"] ["some"] (aH sIW):=sK9
abbrev qb5:Stmt:=top 57
theorem Wt:aR ["rows","rank","column","place"] ["rows","rank","column"] (aH qb5):=sK9
theorem eZ:(["here","above","own","other","divisor"]:List Str).Nodup:=by decide +kernel
abbrev Yl:Stmt:=top 59
theorem Si:aR ["row","upper","column","divisor","own","other"] ["row","upper","column","divisor"] (aH Yl):=sK9
theorem dI:(["place","row","upper","rank","divisor","column"]:List Str).Nodup:=by decide +kernel
abbrev uQ:Stmt:=top 58
theorem wS:aR ["rows","rank","column","divisor","upper"] ["rows","rank","column","divisor"] (aH uQ):=sK9
abbrev Rq:Stmt:=top 56
theorem iM:aR ["rows","width","rank","pivot","sign","column","place","lifted"] ["rows","width"] (aH Rq):=sK9
theorem rK:(["row","side"]:List Str).Nodup:=by decide +kernel
theorem kN:(["row","many","end"]:List Str).Nodup:=by decide +kernel
abbrev zD:Stmt:=top 51
theorem pV:aR ["matrix","right","many","rows","end"] ["matrix","right"] (aH zD):=sK9
abbrev wHo:Kd->Bool:=fun k=>inV (.str k.wd) [.str "hold"]
inductive Jh (CN:Addr) (K:Frag) (vs:List V) (H:Hp) (Q:VK) (E:XK):Prop where
 |mk (n l:Addr) (m:Nat) (ds:List RD):vs=[.ref n]->dF CN K H n l (m:Int) ds->(∀d∈ds,cX (m:Int) d.2.1 d.2.2.1)->1<=m->m<=20->ds.length<=40->(dE wHo (skl ds) ds.length).2=[]->Kw m ds=[]->(∀H',aZ H H'->Q .non H')->Jh CN K vs H Q E
abbrev Yv:Stmt:=top 68
theorem Me:aR ["net","held","points"] ["net"] (aH Yv):=sK9
theorem tE:∀{us:List V} {X:List (List Q2)},Fms K H0 H us X->(∀x∈us,x≠.ref D)->Fmd K H0 D H us X
 | [],[],_,_=>.nil
 | [],_ :: _,h,_=>by have:=h.l;simp at this
 |_ :: _,[],h,_=>by have:=h.l;simp at this
 |x :: us,ps :: X,h,n=>by
  obtain⟨a,xs,rfl,n0,h1,h2⟩:=h.r 0 x ps rfl rfl;exact .cons n0 (fun z=>n _ (mem_cons_self ..) (by rw[z])) h1 h2 (tE ⟨by have:=h.l;simpa using this,fun i y qs e1 e2=>h.r (i+1) y qs (by simpa using e1) (by simpa using e2)⟩ fun y hy=>n y (mem_cons_of_mem _ hy))
theorem Ge (xs:List V)(k:Nat):iR xs none (some (k:Int))=xs.take k:=by
 unfold iR;have h1:HT.sIx xs.length 0 none=0:=rfl;have h2:HT.sIx xs.length xs.length (some (k:Int))=min k xs.length:=by simp[HT.sIx];lia
 rw[h1,h2,drop_zero,Nat.sub_zero,take_eq_take_iff];lia
theorem bQ.rtsI (ht:H t=some (.ins C dx fs))(e:bQ t H H'):∀{xs:List V} {ds:List RD},Rts K H xs ds->Rts K H' xs ds
 |_,_,.nil=>.nil
 |_,_,.cons h f q=>.cons (bQ.seqTI ht e h) (bQ.seqTI ht e f) (bQ.rtsI ht e q)
theorem dF.xI (hq:H q=some (.ins C dx fs))(e:bQ q H H')(ne:n≠q)(h:dF CN K H n l m ds):dF CN K H' n l m ds:=
 let ⟨⟨dx,a⟩,ts,b,c⟩:=h;⟨⟨dx,e _ _ a ne⟩,ts,e _ _ b (dL b hq (fun z=>by cases z)),bQ.rtsI hq e c⟩
theorem Zh (hq:H q=some (.ins C dx []))(h:dF CN K H n l m ds):n≠q:=fun z=>by
 obtain⟨dn,a⟩:=h.ob;rw[z,hq] at a;injection a with a
 injection a with _ _ a
 unfold gR at a;have:=bF ("kept":Str) "kept" (.ref l) (cQ "point_count" (.int m) []);rw[<- a,if_pos rfl] at this
 cases this
theorem Fqs.drop:∀(k:Nat) {xs:List V} {ps:List Q2},Fqs K H xs ps->Fqs K H (xs.drop k) (ps.drop k)
 |0,_,_,h=>h
 |_+1,_,_,.nil=>.nil
 |k+1,_,_,.cons _ q=>Fqs.drop k q
theorem Fqs.take:∀(k:Nat) {xs:List V} {ps:List Q2},Fqs K H xs ps->Fqs K H (xs.take k) (ps.take k)
 |0,_,_,h=>.nil
 |_+1,_,_,.nil=>.nil
 |k+1,_,_,.cons f q=>.cons f (Fqs.take k q)
theorem yY (k:Kd):wHo k=true↔k=.ho:=by
 cases k
 ·exact⟨fun h=>absurd h (by decide +kernel),fun h=>by cases h⟩
 ·exact⟨fun h=>absurd h (by decide +kernel),fun h=>by cases h⟩
 ·exact⟨fun _=>rfl,fun _=>by decide +kernel⟩
theorem Au (o:Nof m ds):Kw m ds=[]:=by
 unfold Kw;rw[filter_eq_nil_iff.mpr fun p hp=>?_]
 ·rfl
 ·have pm:=mem_range.mp hp;rw[(Oz o.pt pm (by have:=o.m1;lia)).mpr (o.cn p pm).symm];simp
theorem oU (hx:H x=none)(hd:H dx=none):aZ H (upd (upd H dx (.own x)) x (.ins C dx [])):=fun b o h=>by
 have n1:b≠x:=fun z=>by rw[z,hx] at h;cases h
 have n2:b≠dx:=fun z=>by rw[z,hd] at h;cases h
 rw[aY n1,aY n2];exact h
inductive zF (CN:Addr) (K:Frag) (vs:List V) (H:Hp) (Q:VK) (E:XK):Prop where
 |mk (n l g r D:Addr) (H0:Hp) (m b N:Nat) (L:Int) (ds:List RD) (us ys:List V) (X:List (List Q2)) (Y qs:List Q2):vs=[.ref n,.ref g,.ref r]->dF CN K H n l (m:Int) ds->SqL K H g us->Fmd K H0 D H us X->yX m ds N X Y->EqB m b L ds->SqL K H r ys->Fqs K H ys qs->qs.length=X.length->(∀p∈qs,Q01 p)->(∀t zs ps H',H t=none->aZ H H'->H' t=some (.lst zs)->Fqs K H' zs (lvS m ps)->Zy X qs ps->Ovr (bw b (wd m ds)) ps->Q (.ref t) H')->zF CN K vs H Q E
inductive Hd (CN:Addr) (K:Frag) (vs:List V) (H:Hp) (Q:VK) (E:XK):Prop where
 |mk (n l:Addr) (m b:Nat) (kb:Nat->Nat) (L:Int) (ds:List RD) (s g:Nat):vs=[.ref n,.int (s:Int),.int (g:Int)]->Bw CN K H n l m b kb L ds->s < m->g < m->(∀t zs hp v H',H t=none->aZ H H'->H' t=some (.lst zs)->Fqs K H' zs hp->hp.length=m->fE hp->Ovr (bw b (wd m ds)) hp->wF m ds g s v->(∀p,p < m->Mq.val (hp.getD p (0,1))=v p)->Q (.ref t) H')->Hd CN K vs H Q E
abbrev Yd:Stmt:=top 73
theorem qf6:aR ["net","matrix","right"] ["net","matrix","right"] (aH Yd):=sK9
theorem qj1 (s g x:Nat):- dl s g x*Mq.val (1,1)=un g x - un s x:=by
 rw[Mq.rL];unfold dl un
 by_cases a:s=x<;>by_cases b:g=x
 ·rw[if_pos a,if_pos b,if_pos b.symm,if_pos a.symm];grind
 ·rw[if_pos a,if_neg b,if_neg (fun z=>b z.symm),if_pos a.symm];grind
 ·rw[if_neg a,if_pos b,if_pos b.symm,if_neg (fun z=>a z.symm)];grind
 ·rw[if_neg a,if_neg b,if_neg (fun z=>b z.symm),if_neg (fun z=>a z.symm)];grind
theorem Zp (g s x:Nat):∃a:Int,a.natAbs<=1/\un g x - un s x=(a:Rat) / ((1:Int):Rat):=by
 have one:((1:Int):Rat)=1:=rfl;unfold un
 by_cases a:x=g<;>by_cases b:x=s
 ·exact⟨0,by decide,by rw[if_pos a,if_pos b,one,show ((0:Int):Rat)=0 by rfl];grind⟩
 ·exact⟨1,by decide,by rw[if_pos a,if_neg b,one];grind⟩
 ·exact⟨-1,by decide,by rw[if_neg a,if_pos b,one,show ((-1:Int):Rat)=-1 by rfl];grind⟩
 ·exact⟨0,by decide,by rw[if_neg a,if_neg b,one,show ((0:Int):Rat)=0 by rfl];grind⟩
abbrev Yz:Stmt:=top 72
theorem Qw:aR ["net","start","goal","matrix","right"] ["net","start","goal"] (aH Yz):=sK9
inductive Ss (CN:Addr) (K:Frag) (vs:List V) (H:Hp) (Q:VK) (E:XK):Prop where
 |mk (n l:Addr) (m b:Nat) (kb:Nat->Nat) (L:Int) (ds:List RD) (k:Nat) (d:RD):vs=[.ref n,.int (k:Int)]->Bw CN K H n l m b kb L ds->ds[k]?=some d->d.1=.ho->(∀t zs hp v H',H t=none->aZ H H'->H' t=some (.lst zs)->Fqs K H' zs hp->hp.length=m->fE hp->Ovr (bw b (wd m ds)) hp->Sv m ds (un (m+bA (ds.take k))) v->(∀p,p < m->Mq.val (hp.getD p (0,1))=v p)->Q (.ref t) H')->Ss CN K vs H Q E
inductive tN (CN:Addr) (K:Frag) (vs:List V) (H:Hp) (Q:VK) (E:XK):Prop where
 |mk (n l:Addr) (m b:Nat) (kb:Nat->Nat) (L:Int) (ds:List RD) (k:Nat) (d:RD):vs=[.ref n,.int (k:Int)]->Bw CN K H n l m b kb L ds->ds[k]?=some d->(∀t zs hp v H',H t=none->aZ H H'->H' t=some (.lst zs)->Fqs K H' zs hp->hp.length=m->fE hp->Ovr (bw b (wd m ds)) hp->Sv m ds (shR m ds k d) v->(∀p,p < m->Mq.val (hp.getD p (0,1))=v p)->Q (.ref t) H')->tN CN K vs H Q E
abbrev Zc:Stmt:=top 77
theorem Hu:aR ["net","k","matrix","right","ahead"] ["net","k"] (aH Zc):=sK9
abbrev Eu:Stmt:=top 76
theorem Kb:aR ["net","k","row"] ["net","k"] (aH Eu):=sK9
inductive qV (K:Frag) (CK:Kd->Addr) (k:Kd) (vs:List V) (H:Hp) (Q:VK) (E:XK):Prop where
 |mk (x z a h:Addr) (s g:V) (p u v:Q2) (n m:Nat):vs=[.ref x,.ref a,.ref h]->Rw CK H x k s g (.ref z)->Fq K H z p->Fq K H a u->Fq K H h v->1<=p.2->1<=u.2->Bd n p->Bd m u->n+m+1<=9000->(k=.pc->0 < p.1)->(∀r H',aZ H H'->Fq K H' r (Ko k u v p)->Q (.ref r) H')->qV K CK k vs H Q E
abbrev oG:Stmt:=cO (top 36) 3
theorem Bs:aR ["self","fall","held"] ["self","fall","held"] (aH oG):=sK9
abbrev nX:Stmt:=cO (top 37) 3
theorem Cf:aR ["self","fall","held"] ["self","fall","held"] (aH nX):=sK9
theorem yJ (F : aV K "stream" "Push.stream" nX dV f fd)(T : RT K mg CR CK): aL P w K mg base CX 4 f fd ["self", "fall", "held"] (qV K CK .pu) := by
  refine F.ok Cf (fun vs H Q E h => ?_) (fun cdv A outer s H vs Q E hr h => ?_)
  · obtain ⟨x, z, a, h, s, g, p, u, v, n, m, rfl, _⟩ := h
    rfl
  obtain ⟨x, z, a, h, s, g, p, u, v, n, m, rfl, ⟨dx, hx⟩, fz, fa, fh, hp, hu, bp, bu, hn, h0, q⟩ := h;refine ⟨_, (aF (aW (bU (pv 0) rfl))), ?_⟩;exact ⟨_, rfl, x, CK .pu, dx, _, _, rfl, hx, T.cl _, T.nZ _, eY _ _ _, q z H (aZ.refl H) fz⟩
abbrev oH:Stmt:=cO (top 38) 3
theorem Bv:aR ["self","fall","held"] ["self","fall","held"] (aH oH):=sK9
theorem Ag (F : aV K "stream" "Hold.stream" oH dV f fd)(T : RT K mg CR CK): aL P w K mg base CX 4 f fd ["self", "fall", "held"] (qV K CK .ho) := by
  refine F.ok Bv (fun vs H Q E h => ?_) (fun cdv A outer s H vs Q E hr h => ?_)
  · obtain ⟨x, z, a, h, s, g, p, u, v, n, m, rfl, _⟩ := h
    rfl
  obtain ⟨x, z, a, h, s, g, p, u, v, n, m, rfl, ⟨dx, hx⟩, fz, fa, fh, hp, hu, bp, bu, hn, h0, q⟩ := h;refine ⟨_, (aF (aW (pv 2))), ?_⟩;exact ⟨_, rfl, q h H (aZ.refl H) fh⟩
abbrev Mf:Stmt:=top 40
theorem Ze:aR ["row","heights"] ["row","heights"] (aH Mf):=sK9
inductive zG (K:Frag) (CK:Kd->Addr) (vs:List V) (H:Hp) (Q:VK) (E:XK):Prop where
 |mk (a b h:Addr) (xs ls ys:List V) (ds:List RD) (lv hs:List Q2) (m:Nat):vs=[.ref a,.ref b,.ref h]->H a=some (.lst xs)->hV CK K H xs ds->StB K H b ls lv m->SqL K H h ys->Fqs K H ys hs->(∀p∈hs,Low p)->(∀d∈ds,wL (m:Int) d)->bA ds<=hs.length->ds.length<=40->(∀l zs H',aZ H H'->H l=none->H' l=some (.lst zs)->Fqs K H' zs (rD lv hs 0 ds)->Q (.ref l) H')->zG K CK vs H Q E
abbrev Du:Stmt:=top 70
theorem mV:aR ["rows","levels","held","flows","taken","row","fall"] ["rows","levels","held"] (aH Du):=sK9
abbrev Oq:Stmt:=cO (top 69) 1
theorem Yp:aR ["self"] ["self"] (aH Oq):=sK9
abbrev Pd:Stmt:=cO (top 69) 2
theorem Xv:aR ["self"] ["self"] (aH Pd):=sK9
def Ce (CA:Addr)(H:Hp)(a:Addr):Prop:=∃dx li le fo,H a=some (.ins CA dx (iA li le fo))/\H li=some (.lst [])
inductive pP (CN CA:Addr) (K:Frag) (vs:List V) (H:Hp) (Q:VK) (E:XK):Prop where
 |mk (x dx n l:Addr) (m b:Nat) (kb:Nat->Nat) (L:Int) (ds:List RD):vs=[.ref x,.ref n]->H x=some (.ins CA dx [])->Bw CN K H n l m b kb L ds->bw b (wd m ds)<=3900->(∀i,∃a:Int,Mq.B b a/\eqR m ds (i+1)=(a:Rat) / (L:Rat))->(dE wHo (skl ds) ds.length).2=[]->Kw m ds=[]->(∀ps H',bQ x H H'->qm2 CA K H H' x (lvS m ps) (rD (lvS m ps) (ps.drop (m - 1)) 0 ds)->ps.length=wd m ds->fE ps->Ovr (bw b (wd m ds)) ps->Sv m ds (eqR m ds) (uP ps)->(wd m ds=0->Ce CA H' x)->Q .non H')->pP CN CA K vs H Q E
abbrev Eo:Stmt:=cO (top 69) 0
theorem rS:aR ["self","net","both","known","inner"] ["self","net"] (aH Eo):=sK9
abbrev Sl:Stmt:=cO (top 45) 7
theorem Pp:aR ["self","made"] ["self"] (aH Sl):=sK9
theorem rQ:Bd 1 (1,1):=⟨by show (1:Nat) < 2 ^ 1;decide,by show (1:Nat) < 2 ^ 1;decide⟩
theorem rL:Mq.val (1,1)=1:=by unfold Mq.val;show ((1:Int):Rat) / ((1:Int):Rat)=1;rw[show ((1:Int):Rat)=1 by rfl];grind
theorem Ry (l:1<=p.2)(h:0 < Mq.val p):0 < p.1:=by
 refine Decidable.byContradiction fun c=>?_;have c1:((p.1:Int):Rat)<=0:=by exact_mod_cast (show p.1<=0 by lia)
 have c2:(0:Rat) < ((p.2:Int):Rat):=by exact_mod_cast (show 0 < p.2 by lia)
 unfold Mq.val at h;rw[Rat.div_def] at h;have:=Rat.mul_le_mul_of_nonneg_right c1 (Rat.le_of_lt (Rat.inv_pos.mpr c2));rw[Rat.zero_mul] at this;exact absurd h (Rat.not_lt.mpr this)
theorem Id (l:1<=p.2)(h:0 < p.1):0 < Mq.val p:=by
 unfold Mq.val;rw[Rat.div_def];exact Rat.mul_pos (by exact_mod_cast h) (Rat.inv_pos.mpr (by exact_mod_cast (show 0 < p.2 by lia)))
theorem Ij (o:Nof m ds)(hd:ds[k]?=some d)(hk:d.1=.pc)(h:Sv m ds (shR m ds k d) v)(hp:0 < p):0 < 1+(1 / p - 1 / Mq.val d.2.2.2)*(v d.2.1.toNat - v d.2.2.1.toNat):=by
 have e:ds=ds.take k++d :: ds.drop (k+1):=by
  have:=take_append_drop k ds;rw[drop_eq_getElem_cons (List.getElem?_eq_some_iff.mp hd).1,(List.getElem?_eq_some_iff.mp hd).2] at this;exact this.symm
 have sh:shR m ds k d=fun x=>un d.2.1.toNat x - un d.2.2.1.toNat x:=funext fun x=>if_neg (by rw[hk];decide);rw[sh] at h;have sp:=o.pos d (mem_of_getElem? hd) hk;rw[e] at o h;obtain⟨a,b,_⟩:=Rv o hk h;generalize v d.2.1.toNat - v d.2.2.1.toNat=R at a b;generalize Mq.val d.2.2.2=s at b sp;have hp1:0 < 1 / p:=by rw[Rat.div_def,Rat.one_mul];exact Rat.inv_pos.mpr hp
 by_cases c:R=0
 ·subst c;grind
 ·have R0:0 < R:=by
   rcases Rat.le_iff_lt_or_eq.mp a with z | z
   ·exact z
   ·exact absurd z.symm c
  have:=Rat.mul_pos hp1 R0;grind
structure Ga (m:Nat) (ds:List RD) (k:Nat) (d:RD) (hp:List Q2):Prop where
 len:hp.length=m
 lo:fE hp
 sv:∃v,Sv m ds (shR m ds k d) v/\∀p,p < m->Mq.val (hp.getD p (0,1))=v p
theorem Ga.uni (o:Nof m ds)(h:Ga m ds k d hp)(g:Ga m ds k d hq):hp=hq:=by
 obtain⟨v,sv,ev⟩:=h.sv;obtain⟨w,sw,ew⟩:=g.sv;have lh:=h.len;have lg:=g.len;refine ext_getElem (by lia) fun i hi hi'=>?_;have e:=Sv.uni o sv sw i (by unfold wd;lia);rw[<- ev i (by lia),<- ew i (by lia),getD_eq_getElem?_getD,getD_eq_getElem?_getD,getElem?_eq_getElem hi,getElem?_eq_getElem hi'] at e;exact sV (h.lo _ (getElem_mem hi)) (g.lo _ (getElem_mem hi')) e
def Sf (lv hp:List Q2)(d:RD)(p:Q2):Q2:=fI (Mq.minus (0,1) (gC (Mq.minus (fI (1,1) p) (fI (1,1) d.2.2.2)) (flF lv d))) (iZ (1,1) (gC (Mq.minus (fI (1,1) p) (fI (1,1) d.2.2.2)) (flF hp d)))
structure Xk (m:Nat) (ds:List RD) (k:Nat) (d:RD) (lv:List Q2) (p q:Q2):Prop where
 ho:d.1=.ho->q=Mq.minus p d.2.2.2
 pc:d.1=.pc->∃hp,Ga m ds k d hp/\q=Sf lv hp d p
inductive Og (CN CA:Addr) (K:Frag) (vs:List V) (H:Hp) (Q:VK) (E:XK):Prop where
 |mk (n l a z:Addr) (m k:Nat) (L:Int) (ds:List RD) (d:RD) (p:Q2) (lv fl:List Q2):vs=[.ref n,.ref a,.int (k:Int),.ref z]->dF CN K H n l (m:Int) ds->Dw m L ds->xO CA K H a lv fl->jR m ds lv fl->ds[k]?=some d->Fq K H z p->SzW L d.1 p->(∀r q H',aZ H H'->Fq K H' r q->Xk m ds k d lv p q->Q (.ref r) H')->Og CN CA K vs H Q E
abbrev Xe:Stmt:=top 79
theorem Az:aR ["net","answer","k","size","row","more","fall","along_shape"] ["net","answer","k","size"] (aH Xe):=sK9
theorem uO (hx:H x=none)(hd:H dx=none)(s:bQ x (upd (upd H dx (.own x)) x (.ins C dx [])) H'):aZ H H':=fun b o h=>by
 have nb:b≠x:=aU h hx;exact s b o (oU (C:=C) hx hd b o h) nb
inductive Dv (CN CA CW:Addr) (K:Frag) (vs:List V) (H:Hp) (Q:VK) (E:XK):Prop where
 |mk (x dx n l:Addr) (m:Nat) (L:Int) (ds:List RD):vs=[.ref x,.ref n]->H x=some (.ins CW dx [])->dF CN K H n l (m:Int) ds->Dw m L ds->(∀H',bQ x H H'->(∀X:List Addr,(∀y∈X,∃o,H y=some o)->jN X CN CA CW K H' x m ds)->(wd m ds=0->∃dx a n,H' x=some (.ins CW dx (fD a n))/\Ce CA H' a)->Q .non H')->Dv CN CA CW K vs H Q E
inductive Ha (CN CA CW:Addr) (K:Frag) (vs:List V) (H:Hp) (Q:VK) (E:XK):Prop where
 |mk (w z:Addr) (m k:Nat) (L:Int) (ds:List RD) (d:RD) (p:Q2):vs=[.ref w,.int (k:Int),.ref z]->jN [] CN CA CW K H w m ds->Dw m L ds->ds[k]?=some d->Fq K H z p->SzW L d.1 p->(∀r q H',bQ w H H'->Fq K H' r q->(∃lv fl,jR m ds lv fl/\Xk m ds k d lv p q)->(∀X:List Addr,(∀y∈X,∃o,H y=some o)->jN X CN CA CW K H' w m (szS ds k p))->Q (.ref r) H')->Ha CN CA CW K vs H Q E
inductive Fp (CN CA CW:Addr) (K:Frag) (vs:List V) (H:Hp) (Q:VK) (E:XK):Prop where
 |mk (w:Addr) (m:Nat) (ds:List RD):vs=[.ref w]->jN [] CN CA CW K H w m ds->(∀lv fl,jR m ds lv fl->∀l xs H',aZ H H'->H l=none->H' l=some (.lst xs)->Fqs K H' xs lv->Q (.ref l) H')->Fp CN CA CW K vs H Q E
inductive Do (CN CA CW:Addr) (K:Frag) (vs:List V) (H:Hp) (Q:VK) (E:XK):Prop where
 |mk (w:Addr) (m:Nat) (ds:List RD):vs=[.ref w]->jN [] CN CA CW K H w m ds->(∀lv fl,jR m ds lv fl->∀l xs H',aZ H H'->H l=none->H' l=some (.lst xs)->Fqs K H' xs fl->Q (.ref l) H')->Do CN CA CW K vs H Q E
abbrev Nz:Stmt:=cO (top 78) 2
theorem qd8:aR ["self"] ["self"] (aH Nz):=sK9
abbrev Nj:Stmt:=cO (top 78) 3
theorem qd2:aR ["self"] ["self"] (aH Nj):=sK9
theorem Am (ht:H t=some (.ins C dx fs))(e:bQ t H H')(q:Rts K H xs ds):Rts K H' xs ds:=by
 induction q with
 |nil=>exact .nil
 |cons h f _ ih=>exact .cons (bQ.seqTI ht e h) (bQ.seqTI ht e f) ih
theorem Nr {H0 H2 H5:Hp}(hx2:H2 x=some (.ins C2 dx2 fs2))(sx:bQ x H2 H5)(hx5:H5 x=some (.ins CW dx (fD a n)))(nax:a≠x)(ha:H2 a=some (.ins CA dxa (iA li le fo)))(hle:H2 le=some (.lst xs))(Fle:Fqs K H2 xs lv)(hfo:H2 fo=some (.lst ys))(Ffo:Fqs K H2 ys fl)(AV:jR m ds lv fl)(nnx:n≠x)(hn:H5 n=some (.ins CN dn (gR (m:Int) l)))(hl:H5 l=some (.lst ts))(hR:Rts K H5 ts ds)(nw:∀y o,H0 y=some o->a≠y/\le≠y/\fo≠y/\n≠y/\l≠y)(X:List Addr)(hX:∀y∈X,∃o,H0 y=some o):jN X CN CA CW K H5 x m ds:=
 ⟨dx,a,n,l,dxa,li,le,fo,dn,xs,ys,ts,lv,fl,hx5,sx _ _ ha nax,sx _ _ hle (dL hle hx2 (fun z=>by cases z)),bQ.fqsI hx2 sx Fle,sx _ _ hfo (dL hfo hx2 (fun z=>by cases z)),bQ.fqsI hx2 sx Ffo,AV,hn,hl,hR,nax,nnx,fun y hy=>let ⟨o,ho⟩:=hX y hy;nw y o ho⟩
abbrev Qn:Stmt:=cO (top 78) 0
theorem Zo:aR ["self","net"] ["self","net"] (aH Qn):=sK9
abbrev Mw:Stmt:=cO (top 78) 1
theorem Ff:aR ["self","k","size","changed","factor"] ["self","k","size"] (aH Mw):=sK9
abbrev Oj:Stmt:=top 81
theorem Pj:aR ["_law_script","_law_k","_law_found"] ["_law_script","_law_k"] (aH Oj):=sK9
inductive Ar (K:Frag) (vs:List V) (H:Hp) (Q:VK) (E:XK):Prop where
 |mk (a:Addr) (ns:List Int) (j:Int) (k:Nat):vs=[.ref a,.int j]->j=(k:Int)->SqL K H a (ns.map V.int)->ns.length<=63->(∀i H',aZ H H'->Q (.int i) H')->Ar K vs H Q E
abbrev Ac:Stmt:=top 82
theorem vC:aR ["_law_cell","_law_turn","_law_many","_law_left","_law_k","_law_by_here","_law_prime","_law_x"] ["_law_cell","_law_turn","_law_many"] (aH Ac):=sK9
inductive uV (vs:List V) (H:Hp) (Q:VK) (E:XK):Prop where
 |mk (c t m:Int):vs=[.int c,.int t,.int m]->0<=t->t<=9->0 < m->(∀r H',0<=r->r < m->aZ H H'->Q (.int r) H')->uV vs H Q E
theorem qe1 (hp:0 < a0/\0 < a1/\0 < a2/\0 < a3/\0 < a4/\0 < a5/\0 < a6/\0 < a7/\0 < a8/\0 < a9)(hm:a0 < 1000000/\a1 < 1000000/\a2 < 1000000/\a3 < 1000000/\a4 < 1000000/\a5 < 1000000/\a6 < 1000000/\a7 < 1000000/\a8 < 1000000/\a9 < 1000000)(h0:0<=t)(h9:t<=9):
  ∃v,atI [V.int a0,.int a1,.int a2,.int a3,.int a4,.int a5,.int a6,.int a7,.int a8,.int a9] t=some (.int v)/\0 < v/\v < 1000000:=by
 have:t=0\/t=1\/t=2\/t=3\/t=4\/t=5\/t=6\/t=7\/t=8\/t=9:=by lia
 rcases this with rfl | rfl | rfl | rfl | rfl | rfl | rfl | rfl | rfl | rfl
 all_goals exact⟨_,rfl,by lia,by lia⟩
abbrev l48:List Int:=[48271,69621,16807,40692,39373,30269,27183,60013,51749,35969]
abbrev l99:List Int:=[999983,999979,999961,999959,999953,999931,999917,999907,999883,999863]
@[irreducible] def md1:Stmt:=(cV Ac).getD 1 (.Pass ⟨0,0,0,0⟩)
@[irreducible] def md2:Stmt:=(cV Ac).getD 2 (.Pass ⟨0,0,0,0⟩)
def md0:Stmt:=(cV Ac).getD 0 (.Pass ⟨0,0,0,0⟩)
def md3:Stmt:=(cV Ac).getD 3 (.Pass ⟨0,0,0,0⟩)
def md4:Stmt:=(cV Ac).getD 4 (.Pass ⟨0,0,0,0⟩)
theorem qf5:cV Ac=[md0,md1,md2,md3,md4]:=by unfold md1 md2;rfl
theorem Yi:∃(q q2 p2 p3 p:Pos) (l:List (Int × _ × Pos)),md1=.Assign [.Name "_law_by_here" q] (.Subscript (.List (l.map fun q=>Expr.Constant (.int q.1) q.2.1 q.2.2) p2) (.Name "_law_turn" q2) p3) p/\l.map (fun q=>V.int q.1)=l48.map V.int:=by
 unfold md1;exact⟨_,_,_,_,_,[(48271,_,_),(69621,_,_),(16807,_,_),(40692,_,_),(39373,_,_),(30269,_,_),(27183,_,_),(60013,_,_),(51749,_,_),(35969,_,_)],rfl,rfl⟩
theorem qc3:∃(q q2 p2 p3 p:Pos) (l:List (Int × _ × Pos)),md2=.Assign [.Name "_law_prime" q] (.Subscript (.List (l.map fun q=>Expr.Constant (.int q.1) q.2.1 q.2.2) p2) (.Name "_law_turn" q2) p3) p/\l.map (fun q=>V.int q.1)=l99.map V.int:=by
 unfold md2;exact⟨_,_,_,_,_,[(999983,_,_),(999979,_,_),(999961,_,_),(999959,_,_),(999953,_,_),(999931,_,_),(999917,_,_),(999907,_,_),(999883,_,_),(999863,_,_)],rfl,rfl⟩
abbrev Zj:Stmt:=top 83
theorem Hm:aR ["_law_cell","_law_turn","_law_left","_law_k"] ["_law_cell","_law_turn"] (aH Zj):=sK9
inductive Rn (vs:List V) (H:Hp) (Q:VK) (E:XK):Prop where
 |mk (c t:Int):vs=[.int c,.int t]->0<=t->t<=9->(∀r:Int,-1000000000000<=r->r<=1000000000000->Q (.int r) H)->Rn vs H Q E
theorem p12:(10:Int) ^ (12:Int).toNat=1000000000000:=by decide
abbrev yG:Stmt:=top 84
theorem oM:aR ["_law_top","_law_bottom","_law_one","_law_other"] ["_law_top","_law_bottom"] (aH yG):=sK9
abbrev Gb:Stmt:=top 86
theorem Wg:aR ["_law_one","_law_other"] ["_law_one","_law_other"] (aH Gb):=sK9
theorem mD.same (s:aZ H H')(h:mD H Q p):mD H' Q p:=fun a H2 s2 e=>h a H2 (s.trans s2) e
abbrev Qp:Stmt:=top 89
theorem Ol:aR ["_law_found","_law_due","_law_number"] ["_law_found","_law_due"] (aH Qp):=sK9
inductive Gf (K:Frag) (vs:List V) (H:Hp) (Q:VK) (E:XK):Prop where
 |mk (a b:Addr) (p:Q2):vs=[.ref a,.ref b]->Fq K H a p->Fq K H b p->Q (.bl true) H->Gf K vs H Q E
inductive Ey (vs:List V) (H:Hp) (Q:VK) (E:XK):Prop where
 |mk (c:Int):vs=[.int c]->(∀p,Low p/\0 < p.1/\Bd 4 p->mD H Q p)->Ey vs H Q E
abbrev Sd:Stmt:=top 90
theorem qa9:aR ["_law_cell"] ["_law_cell"] (aH Sd):=sK9
inductive zV (CN:Addr) (K:Frag) (vs:List V) (H:Hp) (Q:VK) (E:XK):Prop where
 |mk (m:Int) (r:Addr) (us:List V) (ds:List RD):vs=[.int m,.ref r]->1<=m->m<=20->SqL K H r us->Rts K H us ds->(∀d∈ds,wL m d)->ds.length<=40->(∀n l H',aZ H H'->H l=none->dF CN K H' n l m ds->Q (.ref n) H')->zV CN K vs H Q E
abbrev Fz:Stmt:=top 91
theorem Ab:aR ["_law_many","_law_rows","_law_net_here","_law_row"] ["_law_many","_law_rows"] (aH Fz):=sK9
theorem Je {α β:Type}(f:α->β)(l:List α)(i:Nat)(e:α):(l.take i++e :: l.drop i).map f=(l.map f).take i++f e :: (l.map f).drop i:=by
 rw[map_append,map_cons,map_take,map_drop]
theorem Rts.take:∀{xs:List V} {ds:List RD} (n:Nat),Rts K H xs ds->Rts K H (xs.take n) (ds.take n)
 |_,_,0,_=>.nil
 |_,_,_+1,.nil=>.nil
 |_,_,n+1,.cons h f q=>.cons h f (Rts.take n q)
theorem Rts.drop:∀{xs:List V} {ds:List RD} (n:Nat),Rts K H xs ds->Rts K H (xs.drop n) (ds.drop n)
 |_,_,0,h=>h
 |_,_,_+1,.nil=>.nil
 |_,_,n+1,.cons _ _ q=>Rts.drop n q
theorem Jd {α:Type}(l:List α)(i:Nat)(e:α):(l.take i++e :: l.drop i).length=l.length+1:=by
 rw[List.length_append,length_cons,length_take,length_drop];lia
theorem Jr (k:Kd):decide (V.str k.wd=V.str "piece")=decide (k=.pc):=cP k .pc
inductive Su (K:Frag) (vs:List V) (H:Hp) (Q:VK) (E:XK):Prop where
 |mk (r e:Addr) (c:Int) (k:Kd) (us:List V) (ds:List RD) (i j:Int):vs=[.ref r,.int c,.str k.wd,.ref e]->H r=some (.lst us)->Rts K H us ds->ds.length<=60->SqT K H e [.int i,.int j]->(∀y t (d:RD) H' H'',y<=us.length->aZ H H'->d.1=k->((d.2.1=i/\d.2.2.1=j)\/(d.2.1=j/\d.2.2.1=i))->Low d.2.2.2->Bd 7 d.2.2.2->(k=.pc->0 < d.2.2.2.1/\Bd 4 d.2.2.2)->H''=upd H' r (.lst (us.take y++.ref t :: us.drop y))->Rts K H'' (us.take y++.ref t :: us.drop y) (ds.take y++d :: ds.drop y)->Q .non H'')->Su K vs H Q E
abbrev Zk:Stmt:=top 92
theorem Jw:aR ["_law_rows","_law_cell","_law_word","_law_ends","_law_size_here"] ["_law_rows","_law_cell","_law_word","_law_ends"] (aH Zk):=sK9
def kws (ks:List Kd):List V:=ks.map fun k=>V.str k.wd
theorem Xp (h0:0<=r)(h:r < (ks.length:Int)):∃k,k∈ks/\atI (kws ks) r=some (.str (Kd.wd k)):=by
 obtain⟨n,rfl⟩:∃n:Nat,r=(n:Int):=⟨r.toNat,by lia⟩
 have hn:n < ks.length:=by lia
 refine⟨ks[n],getElem_mem hn,bX ?_⟩;unfold kws;rw[getElem?_map,getElem?_eq_getElem hn];rfl
theorem Dn {m t k:Nat}(m1:1<=m):Int.fmod ((k:Int)+(t:Int)) (m:Int)=((rot m t k:Nat):Int):=by
 rw[Int.fmod_eq_emod_of_nonneg _ (by lia)];show ((k:Int)+(t:Int)) % (m:Int)=(((k+t) % m:Nat):Int)
 rw[Int.natCast_emod,Int.natCast_add]
theorem qk6 (xs:List V)(j:Nat):(iR xs (some 8) (some (8+(j:Int)))).length<=j:=by
 unfold iR;have h1:HT.sIx xs.length xs.length (some (8+(j:Int)))=min (8+j) xs.length:=by
  simp only[HT.sIx];split<;>lia
 have h2:HT.sIx xs.length 0 (some 8)=min 8 xs.length:=by simp[HT.sIx]
 rw[h1,h2,length_take,length_drop];lia
theorem Um (m1:1<=m)(k1:1<=k)(km:k < m)(jk:j < k)(npu:d.1≠.pu)(lp:Low d.2.2.2)(bp:Bd 7 d.2.2.2)(hpc:d.1=.pc->0 < d.2.2.2.1/\Bd 4 d.2.2.2)(hij:(d.2.1=((rot m t k:Nat):Int)/\d.2.2.1=((rot m t j:Nat):Int))\/(d.2.1=((rot m t j:Nat):Int)/\d.2.2.1=((rot m t k:Nat):Int))):Ou m t (some (k,j),d):=by
 have a:=Oh (t:=t) m1 k;have b:=Oh (t:=t) m1 j;refine⟨?_,lp,bp,hpc,(fun _ z=>by cases z),fun k' j' e=>?_⟩
 ·rcases hij with ⟨x,y⟩ | ⟨x,y⟩<;>(show cX (m:Int) d.2.1 d.2.2.1;rw[x,y];exact⟨by lia,by lia,by lia,by lia⟩)
 ·have e:=Option.some.inj e;injection e with e1 e2
  subst e1 e2;exact⟨npu,k1,km,jk,hij⟩
theorem Uk {m t:Nat}(pt:cX (m:Int) d.2.1 d.2.2.1)(nho:d.1≠.ho)(lp:Low d.2.2.2)(bp:Bd 7 d.2.2.2)(hpc:d.1=.pc->0 < d.2.2.2.1/\Bd 4 d.2.2.2):Ou m t (none,d):=⟨pt,lp,bp,hpc,fun h=>absurd h nho,fun k j e=>by cases e⟩
inductive Ev (K:Frag) (vs:List V) (H:Hp) (Q:VK) (E:XK):Prop where
 |mk (a w:Addr) (ns:List Int) (m ms:Nat) (ks:List Kd):vs=[.ref a,.int (m:Int),.int (ms:Int),.ref w]->SqL K H a (ns.map V.int)->ns.length<=63->1<=m->m<=20->ms<=20->SqL K H w (kws ks)->1<=ks.length->(∀k∈ks,k≠.pu)->(∀r us t E H',aZ H H'->H r=none->H' r=some (.lst us)->Rts K H' us (rwH E)->Hng m t m E->E.length<=m - 1+ms->Q (.ref r) H')->Ev K vs H Q E
abbrev Pw:Stmt:=top 93
theorem lD:aR ["_law_script","_law_many","_law_most","_law_words","_law_rows","_law_turn","_law_k","_law_cell","_law_ends"] ["_law_script","_law_many","_law_most","_law_words"] (aH Pw):=sK9
inductive Ft (K:Frag) (vs:List V) (H:Hp) (Q:VK) (E:XK):Prop where
 |mk (c:Int) (k:Kd):vs=[.int c,.str k.wd]->(∀p:Q2,Low p->Bd 31 p->p.2.natAbs<=12->(k=.pc->0 < p.1)->mD H Q p)->Ft K vs H Q E
abbrev Nq:Stmt:=top 94
theorem zK:aR ["_law_cell","_law_word","_law_top"] ["_law_cell","_law_word"] (aH Nq):=sK9
theorem Iw (h:jN X CN CA CW K H x m ds):∃dx a n,H x=some (.ins CW dx (fD a n)):=by
 obtain⟨dx,a,n,l,dxa,li,le,fo,dn,xs,ys,ts,lv,fl,hw,_⟩:=h.e;exact⟨dx,a,n,hw⟩
theorem iP:(["number","way","marks"]:List Str).Nodup:=by decide +kernel
theorem Ca:(["mark","met"]:List Str).Nodup:=by decide +kernel
theorem gZ:(["number","mark","marks","k"]:List Str).Nodup:=by decide +kernel
theorem Wf (p c:Int):eqV (.int p) (.int c)=decide (p=c):=by unfold eqV;first | rfl | simp
theorem uG (c:Int):∀ps:List Int,inV (.int c) (ps.map V.int)=decide (c∈ps)
 | []=>rfl
 |p :: ps=>by
  have ih:=uG c ps;show (eqV (.int p) (.int c) || inV (.int c) (ps.map V.int))=_;rw[ih,Wf]
  by_cases h:p=c
  ·subst h;simp
  ·have h':c≠p:=fun z=>h z.symm;simp[h,h']
theorem wM:∀ps:List Int,(ps.map V.int).all jJ=true
 | []=>rfl
 |p :: ps=>by show (true && (ps.map V.int).all jJ)=true;rw[wM ps];rfl
theorem Gq (h:X.K=K):OpR X (compareOp .In) (rIn K false):=by subst h;exact qZ
theorem Qc {ms:List Int}(h:i < ms.length):(ms.map V.int)[i]?=some (.int (ms.getD i 0)):=by rw[getElem?_map,getElem?_eq_getElem h,getD_eq_getElem?_getD,getElem?_eq_getElem h];rfl
def qh9 (ds:List RD)(k:Nat):List Nat:=(List.range ds.length).filter fun j=>decide (Blk.mkb (skl ds) j=Blk.mkb (skl ds) k)
inductive Nb (CN:Addr) (K:Frag) (vs:List V) (H:Hp) (Q:VK) (E:XK):Prop where
 |mk (n l:Addr) (m k:Nat) (ds:List RD):vs=[.ref n,.int (k:Int)]->dF CN K H n l (m:Int) ds->(∀d∈ds,cX (m:Int) d.2.1 d.2.2.1)->m<=20->ds.length<=40->k < ds.length->(∀r H',aZ H H'->H r=none->H' r=some (.lst ((qh9 ds k).map fun (j:Nat)=>V.int (j:Int)))->Q (.ref r) H')->Nb CN K vs H Q E
theorem Zz {i m:Nat}(hm:∀d∈sk,d.2.1 < m/\d.2.2 < m)(h:((dE Blk.joinsW sk sk.length).2.map (·.2))[i]?=some st):(Blk.rgs sk)[i]?=some (st.map (·.1))/\(∀x∈st.map (·.1),x < sk.length)/\st≠[]/\st.length<=m:=by
 rw[getElem?_map] at h;obtain⟨c,hc,rfl⟩:=Option.map_eq_some_iff.mp h;obtain⟨_,k,u,v,st,pts,_,h3,_,_,h6⟩:=(jY (W:=Blk.joinsW) hm sk.length (Nat.le_refl _)).r c (mem_of_getElem? hc);refine⟨by unfold Blk.rgs;rw[getElem?_map,hc];rfl,(Blk.rg_cy (Nat.le_refl _) (mem_of_getElem? hc)).1,fun z=>?_,?_⟩
 ·rw[h3] at z;cases z
 ·rw[h3];exact h6
theorem Tj {j:Nat}(h:ms[j]?=some c):(Blk.mst ms r)[j]?=some (if c∈r.map (fun i=>ms.getD i 0) then (r.map fun i=>ms.getD i 0).headD 0 else c):=by
 unfold Blk.mst;rw[getElem?_map,h];rfl
theorem Mo {rs:List (List Nat)}(h:rs[i]?=some r):Blk.bmk n (rs.take (i+1))=Blk.mst (Blk.bmk n (rs.take i)) r:=by
 rw[take_add_one,h];unfold Blk.bmk;rw[foldl_append];rfl
theorem Po (n:Nat):(Blk.bmk n []).map V.int=(List.range n).map fun (i:Nat)=>V.int (i:Int):=by
 unfold Blk.bmk;show ((List.range n).map fun (i:Nat)=>(i:Int)).map V.int=_;rw[map_map];rfl
abbrev qb6:Stmt:=top 75
theorem Cp:aR ["net","k","marks","ring","met"] ["net","k"] (aH qb6):=sK9
theorem kR:(["column","whole","place"]:List Str).Nodup:=by decide +kernel
def qg8:Sp:=fun _ _ _ _=>False
inductive tU (K:Frag) (vs:List V) (H:Hp) (Q:VK) (E:XK):Prop where
 |mk (g:Addr):vs=[.ref g]->SqL K H g []->(∀r H',aZ H H'->H r=none->H' r=some (.lst [])->Q (.ref r) H')->tU K vs H Q E
inductive Ei (CA:Addr) (vs:List V) (H:Hp) (Q:VK) (E:XK):Prop where
 |mk (a:Addr):vs=[.ref a]->Ce CA H a->(∀r H',aZ H H'->H r=none->H' r=some (.lst [])->Q (.ref r) H')->Ei CA vs H Q E
inductive El (CA CW:Addr) (vs:List V) (H:Hp) (Q:VK) (E:XK):Prop where
 |mk (w:Addr):vs=[.ref w]->(∃dx a n,H w=some (.ins CW dx (fD a n))/\Ce CA H a)->(∀r H',aZ H H'->H r=none->H' r=some (.lst [])->Q (.ref r) H')->El CA CW vs H Q E
theorem Ce.same (s:aZ H H')(h:Ce CA H a):Ce CA H' a:=by
 obtain⟨dx,li,le,fo,e1,e2⟩:=h;exact⟨dx,li,le,fo,s _ _ e1,s _ _ e2⟩
abbrev Qz:Stmt:=top 54
theorem tY:aR ["matrix","rows","place","row","whole"] ["matrix"] (aH Qz):=sK9
abbrev qa5:Stmt:=top 55
theorem qh1:aR ["tops","pivot"] ["tops","pivot"] (aH qa5):=sK9
abbrev Qq:Stmt:=top 52
theorem Gc:aR ["matrix","many","end"] ["matrix"] (aH Qq):=sK9
abbrev Px:Stmt:=cO (top 69) 4
theorem qa7:aR ["self"] ["self"] (aH Px):=sK9
abbrev Mh:Stmt:=cO (top 78) 4
theorem qd9:aR ["self"] ["self"] (aH Mh):=sK9
abbrev Ej:Stmt:=top 85
theorem Uz:aR ["_law_one","_law_other"] ["_law_one","_law_other"] (aH Ej):=sK9
abbrev Al:Stmt:=top 87
theorem Ql:aR ["_law_one","_law_other"] ["_law_one","_law_other"] (aH Al):=sK9
abbrev Zb:Stmt:=top 88
theorem qg1:aR ["_law_one","_law_other"] ["_law_one","_law_other"] (aH Zb):=sK9
structure HtW (K:Frag) (H:Hp) (a:Addr) (m:Nat) (hp:List Q2):Prop where
 e:∃xs,SqL K H a xs/\Fqs K H xs hp
 len:hp.length=m
 lo:fE hp
 bd:∀p∈hp,Bd 1763 p
theorem HtW.same (s:aZ H H')(h:HtW K H a m hp):HtW K H' a m hp:=let ⟨xs,a,b⟩:=h.e;⟨⟨xs,s.seq a,b.same s⟩,h.len,h.lo,h.bd⟩
theorem HtW.at (h:HtW K H a m hp)(u0:0<=u)(um:u < (m:Int)):∃xs t,SqL K H a xs/\atI xs u=some (.ref t)/\Fq K H t (hp.getD u.toNat (0,1))/\Low (hp.getD u.toNat (0,1))/\Bd 1763 (hp.getD u.toNat (0,1)):=by
 obtain⟨xs,hx,F⟩:=h.e;have l:=h.len;have hg:hp[u.toNat]?=some (hp.getD u.toNat (0,1)):=by rw[getD_eq_getElem?_getD,getElem?_eq_getElem (show u.toNat < hp.length by lia)];rfl
 obtain⟨t,et,ft⟩:=F.at hg;have mem:=mem_of_getElem? hg;exact⟨xs,t,hx,by rw[show u=((u.toNat:Nat):Int) by lia];exact bX et,ft,h.lo _ mem,h.bd _ mem⟩
def Kc (lv hp:List Q2)(d:RD)(p:Q2):Q2:=if d.1=.ho then Mq.minus p d.2.2.2 else Sf lv hp d p
inductive Nv (K:Frag) (vs:List V) (H:Hp) (Q:VK) (E:XK):Prop where
 |mk (r s0 z la sa:Addr) (m:Nat) (d:RD) (p:Q2) (lv hp:List Q2):vs=[.ref r,.ref z,.ref la,.ref sa]->SqT K H r [.str d.1.wd,.int d.2.1,.int d.2.2.1,.ref s0]->Fq K H s0 d.2.2.2->Fq K H z p->HtW K H la m lv->HtW K H sa m hp->cX (m:Int) d.2.1 d.2.2.1->Low d.2.2.2->Low p->Bd 31 d.2.2.2->Bd 31 p->d.1≠.pu->(d.1=.pc->0 < d.2.2.2.1/\0 < p.1/\0 < (iZ (1,1) (gC (Mq.minus (fI (1,1) p) (fI (1,1) d.2.2.2)) (flF hp d))).1)->mD H Q (Kc lv hp d p)->Nv K vs H Q E
abbrev Zn:Stmt:=top 95
theorem Ia:aR ["_law_row","_law_size_here","_law_ahead","_law_shape","_law_more","_law_fall","_law_rise"] ["_law_row","_law_size_here","_law_ahead","_law_shape"] (aH Zn):=sK9
structure AhA (K:Frag) (H:Hp) (t:Addr) (m n:Nat) (lv fl:List Q2):Prop where
 e:∃fa ha xs,SqT K H t [.ref fa,.ref ha]/\SqL K H fa xs/\Fqs K H xs fl/\HtW K H ha m lv
 len:fl.length=n
theorem AhA.same (s:aZ H H')(h:AhA K H t m n lv fl):AhA K H' t m n lv fl:=let ⟨fa,ha,xs,a,b,c,d⟩:=h.e;⟨⟨fa,ha,xs,s.seqT a,s.seq b,c.same s,d.same s⟩,h.len⟩
inductive Pa (K:Frag) (vs:List V) (H:Hp) (Q:VK) (E:XK):Prop where
 |mk (r b ta tb:Addr) (us:List V) (m:Nat) (ds:List RD) (blk:List Nat) (lv fl lw gl:List Q2):vs=[.ref r,.ref b,.ref ta,.ref tb]->SqL K H r us->Rts K H us ds->(SqL K H b (blk.map fun (j:Nat)=>V.int (j:Int)))->AhA K H ta m ds.length lv fl->AhA K H tb m ds.length lw gl->(∀d∈ds,cX (m:Int) d.2.1 d.2.2.1)->ds.length<=1000->(∀j d,ds[j]?=some d->j∉blk->d.1≠.pu->fl.getD j (0,1)=gl.getD j (0,1)/\flF lv d=flF lw d)->(∀H',aZ H H'->Q (.bl true) H')->Pa K vs H Q E
theorem Df (j:Nat):∀ks:List Nat,inV (.int (j:Int)) (ks.map fun (j:Nat)=>V.int (j:Int))=decide (j∈ks):=fun ks=>by
 have e:(ks.map fun (j:Nat)=>V.int (j:Int))=(ks.map fun (j:Nat)=>(j:Int)).map V.int:=by rw[map_map];rfl
 rw[e,uG];have:((j:Int)∈ks.map fun (j:Nat)=>(j:Int))↔j∈ks:=⟨fun h=>by obtain⟨k,hk,e⟩:=mem_map.mp h;rwa[(by lia:k=j)] at hk,fun h=>mem_map.mpr ⟨j,h,rfl⟩⟩
 simp only[this]
theorem xR:∀ks:List Nat,(ks.map fun (j:Nat)=>V.int (j:Int)).all jJ=true
 | []=>rfl
 |k :: ks=>by show (true && (ks.map fun (j:Nat)=>V.int (j:Int)).all jJ)=true;rw[xR ks];rfl
theorem Hf (F:Fqs K H xs ps)(hj:j < ps.length):∃t,xs[j]?=some (.ref t)/\Fq K H t (ps.getD j (0,1)):=by
 have hg:ps[j]?=some (ps.getD j (0,1)):=by rw[getD_eq_getElem?_getD,getElem?_eq_getElem hj];rfl
 exact F.at hg
abbrev Xu:Stmt:=top 96
theorem Hl:aR ["_law_rows","_law_block","_law_ahead","_law_behind","_law_j","_law_start","_law_goal"] ["_law_rows","_law_block","_law_ahead","_law_behind"] (aH Xu):=sK9
theorem Lq:(["_law_k","_law_rows"]:List Str).Nodup:=by decide +kernel
theorem Qh (D:Dw m L ds)(av:jR m ds lv fl)(hx:SqL K H a xs)(F:Fqs K H xs lv):HtW K H a m lv/\fl.length=ds.length:=by
 obtain⟨ps,elv,efl,lps,lops,OV,_⟩:=av.e;have bwl:=D.bwle;have m1:=D.o.m1;have wl:wd m ds=m - 1+bA ds:=rfl;have lvo:fE lv:=by rw[elv];exact tF lops
 have OVl:Ovr (bw 190 (wd m ds)) lv:=by rw[elv];exact yV OV
 exact⟨⟨⟨xs,hx,F⟩,by rw[elv];exact sS m1 (by lia),lvo,fun p hp=>(Ovr.minus OVl lvo hp hp).2.1.mono (by lia)⟩,by rw[efl];exact vJ _ _ _ _⟩
theorem Yw (D:Dw m L ds)(lh:hp.length=m)(lo:fE hp)(OV:Ovr (bw 190 (wd m ds)) hp)(hx:SqL K H a xs)(F:Fqs K H xs hp):HtW K H a m hp:=by
 have bwl:=D.bwle;exact⟨⟨xs,hx,F⟩,lh,lo,fun p hp=>(Ovr.minus OV lo hp hp).2.1.mono (by lia)⟩
theorem Uu (D:Dw m L ds)(hd:ds[k]?=some d)(hk:d.1=.pc)(S:Ga m ds k d hp)(lp:Low p)(p0:0 < p.1):0 < (iZ (1,1) (gC (Mq.minus (fI (1,1) p) (fI (1,1) d.2.2.2)) (flF hp d))).1:=by
 obtain⟨v,sv,ev⟩:=S.sv;have len:=S.len;have ro:=(D.ok d (mem_of_getElem? hd)).1;obtain⟨u0,u1,v0,v1,ls,sp,_⟩:=ro;have s0:=sp hk;have l11:(1:Int)<=((1,1):Q2).2:=by show (1:Int)<=1;decide
 have lo1:=iH (p:=(1,1)) (q:=p) l11 (by lia);have lo2:=iH (p:=(1,1)) (q:=d.2.2.2) l11 (by lia);have lM:=dD lo1.pos lo2.pos;have lq:∀i,i < m->Low (hp.getD i (0,1)):=fun i hi=>by
  rw[getD_eq_getElem?_getD,getElem?_eq_getElem (by lia)];exact S.lo _ (getElem_mem _)
 have lu:=lq d.2.1.toNat (by lia);have lw:=lq d.2.2.1.toNat (by lia);have lf:Low (flF hp d):=dD lu.pos lw.pos;have vf:Mq.val (flF hp d)=v d.2.1.toNat - v d.2.2.1.toNat:=by
  show Mq.val (Mq.minus _ _)=_;rw[gE lu.pos lw.pos,ev _ (by lia),ev _ (by lia)]
 have lt:=jX lM.pos lf.pos;have l4:=lW (p:=(1,1)) l11 lt.pos;refine Ry l4.pos ?_;rw[pL (p:=(1,1)) l11 lt.pos,yD lM.pos lf.pos,gE lo1.pos lo2.pos,jV (p:=(1,1)) (q:=p) l11 lp.pos (by lia),jV (p:=(1,1)) (q:=d.2.2.2) l11 ls.pos (by lia),vf,rL];exact Ij D.o hd hk sv (Id lp.pos p0)
def jnF (ds:List RD):List Nat:=(List.range ds.length).filter fun j=>decide ((rA ds j).1≠.pu)
structure LwS (CN CA CW:Addr) (K:Frag) (H:Hp) (m n:Nat) (ds:List RD) (r w:Addr) (us:List V):Prop where
 ch:Chd m n ds
 er:H r=some (.lst us)
 hR:Rts K H us ds
 wa:jN [r] CN CA CW K H w m ds
theorem LwS.same {r w:Addr}(s:aZ H H')(h:LwS CN CA CW K H m n ds r w us):LwS CN CA CW K H' m n ds r w us:=⟨h.ch,s _ _ h.er,h.hR.same s,h.wa.same s⟩
theorem AhA.x {w t:Addr}(hw:H w=some (.ins C dx fs))(s:bQ w H H')(h:AhA K H t m n lv fl):AhA K H' t m n lv fl:=by
 obtain⟨fa,ha,xs,a,b,c,⟨ys,d1,d2⟩,d3,d4,d5⟩:=h.e;exact⟨⟨fa,ha,xs,bQ.seqTI hw s a,bQ.seqI hw s b,bQ.fqsI hw s c,⟨ys,bQ.seqI hw s d1,bQ.fqsI hw s d2⟩,d3,d4,d5⟩,h.len⟩
theorem Tv {CN CW dn dw w:Addr}{H:Hp}(hn:H n=some (.ins CN dn (gR m l)))(hw:H w=some (.ins CW dw (fD a b))):n≠w:=fun z=>by
 subst z;rw[hn] at hw;have e:=Option.some.inj hw;injection e with _ _ e
 have e:([(("point_count":Str),V.int m),(("kept":Str),V.ref l)]:List (Str × V))=[(("current":Str),V.ref a),(("followed":Str),V.ref b)]:=e;injection e with e _
 injection e with e _
 exact absurd e (by decide +kernel)
theorem qb1 (xs:List V)(i j:Nat):(iR xs (some (i:Int)) (some (j:Int))).length<=j - i:=by
 unfold iR;rw[HT.sIx_nat,HT.sIx_nat,length_take];lia
inductive Cb (K:Frag) (vs:List V) (H:Hp) (Q:VK) (E:XK):Prop where
 |mk (a:Addr) (ns:List Int):vs=[.ref a]->SqL K H a (ns.map V.int)->ns.length<=63->(∀H',Q (.bl true) H')->Cb K vs H Q E
abbrev zQ:Stmt:=top 97
theorem jT:aR ["_law_script","_law_many","_law_rows","_law_watch","_law_joins","_law_cell","_law_at","_law_size_here","_law_net_here","_law_ahead","_law_found","_law_behind","_law_j"] ["_law_script"] (aH zQ):=sK9
end
instance:Inhabited World:=⟨⟨fun _ _=>0,{strHash:=fun _=>0,shareClass:=id,mergeTok:=id,idOf:=fun _=>0,idOfShared:=fun _ _=>0,followText:=fun _=>true,idOfImm:=fun _=>0}⟩⟩
set_option genInjectivity false in
structure CZ where
 P:Program
 w:World
 K:Frag
 mg:Str->Option Value
 (c_Row c_Piece c_Push c_Hold c_Net c_Answer c_Watch f1 f2 f3 f4 f5 f6 f7 f8 f9 f10 f11 f12 f13 f14 f15 f16 f17 f18 f19 f20 f21 f22 f23 f24 f25 f26 f27 f28 f29 f30 f31 f32 f33 f34 f35 f36 f37 f38 f39 f40 f41 f42 f43 f44 f45 f46 f47 f48 f49 f50 f51 f52 f53 f54 f55 f56 f57 f58 f59 f60 f61 f62 f63 f64 f65 f66 f67 f68 f69 f70 f71 f72 f73 f74 f75 f76 f77 f78 f79 f80 f81 f82 f83 f84 f85 f86 f87 f88 f89 f90:Addr)
 (d1 d2 d3 d5 d6 d7 d8 d9 d10 d11 d12 d13 d14 d15 d16 d17 d18 d19 d20 d21 d22 d23 d24 d25 d26 d27 d28 d29 d30 d31 d32 d33 d34 d35 d36 d37 d38 d40 d41 d42 d43 d44 d45 d46 d47 d48 d49 d50 d51 d52 d53 d54 d55 d56 d57 d58 d59 d60 d61 d62 d63 d64 d65 d66 d67 d68 d69 d70 d71 d72 d73 d74 d75 d76 d77 d78 d79 d80 d81 d82 d83 d84 d85 d86 d87 d88 d89:FuncData)
 (od4 an4:Option Addr)
 sl4:Array (Option Value)
 (oc4 kV4 dc4 pm4 cd4 ct4:Value)
 T4:Addr
 oT4:Value
 dT4:Option Addr
 nT4:Nat
 sT4:Array (Option Value)
 tk4:Tok
 (od39 an39:Option Addr)
 sl39:Array (Option Value)
 (oc39 kV39 dc39 pm39 cd39 ct39:Value)
 T39:Addr
 oT39:Value
 dT39:Option Addr
 nT39:Nat
 sT39:Array (Option Value)
 (od90 an90:Option Addr)
 sl90:Array (Option Value)
 (oc90 kV90 dc90 pm90 cd90 ct90:Value)
 (aO aN aJ:Addr)
 dJ:Option Addr
 nJ:Nat
 sJ:Array (Option Value)
 (tj0 tj1 tM tR:Tok)
noncomputable instance:Inhabited CZ:=⟨by constructor<;>exact default⟩
class GZ (c:outParam CZ):Prop where
 m1:mI9 c.mg "is_whole" c.f1
 F1:aV c.K "is_whole" "is_whole" Hb .none c.f1 c.d1
 m2:mI9 c.mg "greatest_common" c.f2
 F2:aV c.K "greatest_common" "greatest_common" sGc .none c.f2 c.d2
 m3:mI9 c.mg "under" c.f3
 F3:aV c.K "under" "under" Fd .none c.f3 c.d3
 m4:mI9 c.mg "fraction" c.f4
 l4:c.K.lookup c.f4=some ⟨c.oc4,c.od4,.func (W.fnOf "fraction" "fraction" (fA kQ) (cV kQ) (aH kQ) (.ref c.T4) c.kV4 c.dc4 c.pm4 c.an4 c.cd4 c.ct4),c.sl4⟩
 c4:W.codeIn c.K c.cd4 "fraction"=true
 k4:kI9 c.K c.f4
 lt4:c.K.lookup c.T4=some ⟨c.oT4,c.dT4,.seq #[.int 1 c.tk4] c.nT4,c.sT4⟩
 m5:mI9 c.mg "minus" c.f5
 F5:aV c.K "minus" "minus" Gx .none c.f5 c.d5
 m6:mI9 c.mg "plus" c.f6
 F6:aV c.K "plus" "plus" Ny .none c.f6 c.d6
 m7:mI9 c.mg "over" c.f7
 F7:aV c.K "over" "over" Qo .none c.f7 c.d7
 m8:mI9 c.mg "times" c.f8
 F8:aV c.K "times" "times" Fn .none c.f8 c.d8
 m9:mI9 c.mg "is_fraction" c.f9
 F9:aV c.K "is_fraction" "is_fraction" Yb .none c.f9 c.d9
 F10:aV c.K "__init__" "Row.__init__" Er .none c.f10 c.d10
 a11_0:W.findIn c.K (.ref c.c_Piece) "word"=some (some (.ref c.f11))
 i11:W.isFn c.K (.ref c.f11)=true
 F11:aV c.K "word" "Piece.word" wC .none c.f11 c.d11
 a12_0:W.findIn c.K (.ref c.c_Push) "word"=some (some (.ref c.f12))
 i12:W.isFn c.K (.ref c.f12)=true
 F12:aV c.K "word" "Push.word" tX .none c.f12 c.d12
 a13_0:W.findIn c.K (.ref c.c_Hold) "word"=some (some (.ref c.f13))
 i13:W.isFn c.K (.ref c.f13)=true
 F13:aV c.K "word" "Hold.word" vX .none c.f13 c.d13
 a14_0:W.findIn c.K (.ref c.c_Piece) "joins"=some (some (.ref c.f14))
 i14:W.isFn c.K (.ref c.f14)=true
 F14:aV c.K "joins" "Piece.joins" qI .none c.f14 c.d14
 a15_0:W.findIn c.K (.ref c.c_Push) "joins"=some (some (.ref c.f15))
 i15:W.isFn c.K (.ref c.f15)=true
 F15:aV c.K "joins" "Push.joins" rC .none c.f15 c.d15
 a16_0:W.findIn c.K (.ref c.c_Hold) "joins"=some (some (.ref c.f16))
 i16:W.isFn c.K (.ref c.f16)=true
 F16:aV c.K "joins" "Hold.joins" qT .none c.f16 c.d16
 a17_0:W.findIn c.K (.ref c.c_Piece) "told"=some (some (.ref c.f17))
 a17_1:W.findIn c.K (.ref c.c_Push) "told"=some (some (.ref c.f17))
 a17_2:W.findIn c.K (.ref c.c_Hold) "told"=some (some (.ref c.f17))
 i17:W.isFn c.K (.ref c.f17)=true
 F17:aV c.K "told" "Row.told" He .none c.f17 c.d17
 m18:mI9 c.mg "row_of" c.f18
 F18:aV c.K "row_of" "row_of" Ds .none c.f18 c.d18
 a19_0:W.findIn c.K (.ref c.c_Piece) "stream"=some (some (.ref c.f19))
 i19:W.isFn c.K (.ref c.f19)=true
 F19:aV c.K "stream" "Piece.stream" oG .none c.f19 c.d19
 a20_0:W.findIn c.K (.ref c.c_Push) "stream"=some (some (.ref c.f20))
 i20:W.isFn c.K (.ref c.f20)=true
 F20:aV c.K "stream" "Push.stream" nX .none c.f20 c.d20
 a21_0:W.findIn c.K (.ref c.c_Hold) "stream"=some (some (.ref c.f21))
 i21:W.isFn c.K (.ref c.f21)=true
 F21:aV c.K "stream" "Hold.stream" oH .none c.f21 c.d21
 m22:mI9 c.mg "is_piece_size" c.f22
 F22:aV c.K "is_piece_size" "is_piece_size" sPS .none c.f22 c.d22
 m23:mI9 c.mg "is_number_below" c.f23
 F23:aV c.K "is_number_below" "is_number_below" sNB .none c.f23 c.d23
 m24:mI9 c.mg "refuse_size" c.f24
 F24:aV c.K "refuse_size" "refuse_size" sRS .none c.f24 c.d24
 m25:mI9 c.mg "refuse_points" c.f25
 F25:aV c.K "refuse_points" "refuse_points" sRP .none c.f25 c.d25
 m26:mI9 c.mg "refuse_number" c.f26
 F26:aV c.K "refuse_number" "refuse_number" sRN .none c.f26 c.d26
 F27:aV c.K "__init__" "Net.__init__" Hc .none c.f27 c.d27
 a28_0:W.findIn c.K (.ref c.c_Net) "many"=some (some (.ref c.f28))
 i28:W.isFn c.K (.ref c.f28)=true
 F28:aV c.K "many" "Net.many" Sj .none c.f28 c.d28
 a29_0:W.findIn c.K (.ref c.c_Net) "told"=some (some (.ref c.f29))
 F29:aV c.K "told" "Net.told" Fm .none c.f29 c.d29
 a30_0:W.findIn c.K (.ref c.c_Net) "add"=some (some (.ref c.f30))
 i30:W.isFn c.K (.ref c.f30)=true
 F30:aV c.K "add" "Net.add" Xi .none c.f30 c.d30
 a31_0:W.findIn c.K (.ref c.c_Net) "change"=some (some (.ref c.f31))
 i31:W.isFn c.K (.ref c.f31)=true
 F31:aV c.K "change" "Net.change" Ax .none c.f31 c.d31
 a32_0:W.findIn c.K (.ref c.c_Net) "rows"=some (some (.ref c.f32))
 i32:W.isFn c.K (.ref c.f32)=true
 F32:aV c.K "rows" "Net.rows" Os .none c.f32 c.d32
 m33:mI9 c.mg "fall_of" c.f33
 F33:aV c.K "fall_of" "fall_of" Mf .none c.f33 c.d33
 m34:mI9 c.mg "joined" c.f34
 F34:aV c.K "joined" "joined" zI .none c.f34 c.d34
 m35:mI9 c.mg "marks_of" c.f35
 F35:aV c.K "marks_of" "marks_of" Gi .none c.f35 c.d35
 m36:mI9 c.mg "floating" c.f36
 F36:aV c.K "floating" "floating" Eg .none c.f36 c.d36
 m37:mI9 c.mg "steps_from" c.f37
 F37:aV c.K "steps_from" "steps_from" Em .none c.f37 c.d37
 m38:mI9 c.mg "way_along" c.f38
 F38:aV c.K "way_along" "way_along" Yf .none c.f38 c.d38
 m39:mI9 c.mg "rings" c.f39
 l39:c.K.lookup c.f39=some ⟨c.oc39,c.od39,.func (W.fnOf "rings" "rings" (fA iJ) (cV iJ) (aH iJ) (.ref c.T39) c.kV39 c.dc39 c.pm39 c.an39 c.cd39 c.ct39),c.sl39⟩
 c39:W.codeIn c.K c.cd39 "rings"=true
 k39:kI9 c.K c.f39
 lt39:c.K.lookup c.T39=some ⟨c.oT39,c.dT39,.seq #[.none] c.nT39,c.sT39⟩
 m40:mI9 c.mg "raise_at" c.f40
 F40:aV c.K "raise_at" "raise_at" Eb .none c.f40 c.d40
 m41:mI9 c.mg "enter_stream" c.f41
 F41:aV c.K "enter_stream" "enter_stream" Ex .none c.f41 c.d41
 m42:mI9 c.mg "enter_piece" c.f42
 F42:aV c.K "enter_piece" "enter_piece" yM .none c.f42 c.d42
 m43:mI9 c.mg "enter_push" c.f43
 F43:aV c.K "enter_push" "enter_push" zU .none c.f43 c.d43
 m44:mI9 c.mg "enter_hold" c.f44
 F44:aV c.K "enter_hold" "enter_hold" zN .none c.f44 c.d44
 m45:mI9 c.mg "equations" c.f45
 F45:aV c.K "equations" "equations" qa0 .none c.f45 c.d45
 m46:mI9 c.mg "in_wholes" c.f46
 F46:aV c.K "in_wholes" "in_wholes" sIW .none c.f46 c.d46
 m47:mI9 c.mg "pivot_place" c.f47
 F47:aV c.K "pivot_place" "pivot_place" qb5 .none c.f47 c.d47
 m48:mI9 c.mg "cleared" c.f48
 F48:aV c.K "cleared" "cleared" Yl .none c.f48 c.d48
 m49:mI9 c.mg "cleared_rows" c.f49
 F49:aV c.K "cleared_rows" "cleared_rows" uQ .none c.f49 c.d49
 m50:mI9 c.mg "eliminated" c.f50
 F50:aV c.K "eliminated" "eliminated" Rq .none c.f50 c.d50
 m51:mI9 c.mg "solved" c.f51
 F51:aV c.K "solved" "solved" zD .none c.f51 c.d51
 m52:mI9 c.mg "refuse_unanswered" c.f52
 F52:aV c.K "refuse_unanswered" "refuse_unanswered" Yv .none c.f52 c.d52
 m53:mI9 c.mg "flows_of" c.f53
 F53:aV c.K "flows_of" "flows_of" Du .none c.f53 c.d53
 F54:aV c.K "__init__" "Answer.__init__" Eo .none c.f54 c.d54
 a55_0:W.findIn c.K (.ref c.c_Answer) "heights"=some (some (.ref c.f55))
 i55:W.isFn c.K (.ref c.f55)=true
 F55:aV c.K "heights" "Answer.heights" Oq .none c.f55 c.d55
 a56_0:W.findIn c.K (.ref c.c_Answer) "streams"=some (some (.ref c.f56))
 i56:W.isFn c.K (.ref c.f56)=true
 F56:aV c.K "streams" "Answer.streams" Pd .none c.f56 c.d56
 a57_0:W.findIn c.K (.ref c.c_Net) "copy"=some (some (.ref c.f57))
 i57:W.isFn c.K (.ref c.f57)=true
 F57:aV c.K "copy" "Net.copy" Sl .none c.f57 c.d57
 a58_0:W.findIn c.K (.ref c.c_Net) "count"=some (some (.ref c.f58))
 i58:W.isFn c.K (.ref c.f58)=true
 F58:aV c.K "count" "Net.count" Hg .none c.f58 c.d58
 m59:mI9 c.mg "heights_by" c.f59
 F59:aV c.K "heights_by" "heights_by" Yd .none c.f59 c.d59
 m60:mI9 c.mg "pushed_heights" c.f60
 F60:aV c.K "pushed_heights" "pushed_heights" Yz .none c.f60 c.d60
 m61:mI9 c.mg "held_heights" c.f61
 F61:aV c.K "held_heights" "held_heights" Zc .none c.f61 c.d61
 m62:mI9 c.mg "shape_of" c.f62
 F62:aV c.K "shape_of" "shape_of" Eu .none c.f62 c.d62
 m63:mI9 c.mg "factor_of" c.f63
 F63:aV c.K "factor_of" "factor_of" Xe .none c.f63 c.d63
 F64:aV c.K "__init__" "Watch.__init__" Qn .none c.f64 c.d64
 a65_0:W.findIn c.K (.ref c.c_Watch) "change"=some (some (.ref c.f65))
 i65:W.isFn c.K (.ref c.f65)=true
 F65:aV c.K "change" "Watch.change" Mw .none c.f65 c.d65
 a66_0:W.findIn c.K (.ref c.c_Watch) "heights"=some (some (.ref c.f66))
 i66:W.isFn c.K (.ref c.f66)=true
 F66:aV c.K "heights" "Watch.heights" Nz .none c.f66 c.d66
 a67_0:W.findIn c.K (.ref c.c_Watch) "streams"=some (some (.ref c.f67))
 i67:W.isFn c.K (.ref c.f67)=true
 F67:aV c.K "streams" "Watch.streams" Nj .none c.f67 c.d67
 m68:mI9 c.mg "block_of" c.f68
 F68:aV c.K "block_of" "block_of" qb6 .none c.f68 c.d68
 m69:mI9 c.mg "beside_unit" c.f69
 F69:aV c.K "beside_unit" "beside_unit" Qz .none c.f69 c.d69
 m70:mI9 c.mg "over_pivot" c.f70
 F70:aV c.K "over_pivot" "over_pivot" qa5 .none c.f70 c.d70
 m71:mI9 c.mg "multiples" c.f71
 F71:aV c.K "multiples" "multiples" Qq .none c.f71 c.d71
 a72_0:W.findIn c.K (.ref c.c_Answer) "paper"=some (some (.ref c.f72))
 i72:W.isFn c.K (.ref c.f72)=true
 F72:aV c.K "paper" "Answer.paper" Px .none c.f72 c.d72
 a73_0:W.findIn c.K (.ref c.c_Watch) "paper"=some (some (.ref c.f73))
 i73:W.isFn c.K (.ref c.f73)=true
 F73:aV c.K "paper" "Watch.paper" Mh .none c.f73 c.d73
 m74:mI9 c.mg "_law_draw" c.f74
 F74:aV c.K "_law_draw" "_law_draw" Oj .none c.f74 c.d74
 m75:mI9 c.mg "_law_mix" c.f75
 F75:aV c.K "_law_mix" "_law_mix" Ac .none c.f75 c.d75
 m76:mI9 c.mg "_law_far" c.f76
 F76:aV c.K "_law_far" "_law_far" Zj .none c.f76 c.d76
 m77:mI9 c.mg "_law_lowest" c.f77
 F77:aV c.K "_law_lowest" "_law_lowest" yG .none c.f77 c.d77
 m78:mI9 c.mg "_law_plus" c.f78
 F78:aV c.K "_law_plus" "_law_plus" Ej .none c.f78 c.d78
 m79:mI9 c.mg "_law_less" c.f79
 F79:aV c.K "_law_less" "_law_less" Gb .none c.f79 c.d79
 m80:mI9 c.mg "_law_times" c.f80
 F80:aV c.K "_law_times" "_law_times" Al .none c.f80 c.d80
 m81:mI9 c.mg "_law_by" c.f81
 F81:aV c.K "_law_by" "_law_by" Zb .none c.f81 c.d81
 m82:mI9 c.mg "_law_told" c.f82
 F82:aV c.K "_law_told" "_law_told" Qp .none c.f82 c.d82
 m83:mI9 c.mg "_law_size" c.f83
 F83:aV c.K "_law_size" "_law_size" Sd .none c.f83 c.d83
 m84:mI9 c.mg "_law_net" c.f84
 F84:aV c.K "_law_net" "_law_net" Fz .none c.f84 c.d84
 m85:mI9 c.mg "_law_put" c.f85
 F85:aV c.K "_law_put" "_law_put" Zk .none c.f85 c.d85
 m86:mI9 c.mg "_law_hanging" c.f86
 F86:aV c.K "_law_hanging" "_law_hanging" Pw .none c.f86 c.d86
 m87:mI9 c.mg "_law_new_size" c.f87
 F87:aV c.K "_law_new_size" "_law_new_size" Nq .none c.f87 c.d87
 m88:mI9 c.mg "_law_factor" c.f88
 F88:aV c.K "_law_factor" "_law_factor" Zn .none c.f88 c.d88
 m89:mI9 c.mg "_law_stays" c.f89
 F89:aV c.K "_law_stays" "_law_stays" Xu .none c.f89 c.d89
 m90:mI9 c.mg "law" c.f90
 l90:c.K.lookup c.f90=some ⟨c.oc90,c.od90,.func (W.fnOf "law" "law" (fA zQ) (cV zQ) (aH zQ) .none c.kV90 c.dc90 c.pm90 c.an90 c.cd90 c.ct90),c.sl90⟩
 c90:W.codeIn c.K c.cd90 "law"=true
 k90:kI9 c.K c.f90
 mv_ONE:mI9 c.mg "ONE" c.aO
 mv_NOUGHT:mI9 c.mg "NOUGHT" c.aN
 mv_JOINING_WORDS:mI9 c.mg "JOINING_WORDS" c.aJ
 mv_MOST_POINTS:c.mg "MOST_POINTS"=some (.int 20 c.tM)
 mv_MOST_ROWS:c.mg "MOST_ROWS"=some (.int 40 c.tR)
 lJ:c.K.lookup c.aJ=some ⟨.type "tuple",c.dJ,.seq #[.str "piece" c.tj0,.str "hold" c.tj1] c.nJ,c.sJ⟩
 n_len:c.mg "len"=none
 n_range:c.mg "range"=none
 n_str:c.mg "str"=none
 n_tuple:c.mg "tuple"=none
 n_list:c.mg "list"=none
 n_all:c.mg "all"=none
 n_zip:c.mg "zip"=none
 n_enumerate:c.mg "enumerate"=none
 bl:Bl c.mg
 T:RT c.K c.mg c.c_Row (kd3 c.c_Piece c.c_Push c.c_Hold)
 fN:∀H:Hp,Fq c.K H c.aN (0,1)
 fO:∀H:Hp,Fq c.K H c.aO (1,1)
 NTx:NT c.K c.mg c.c_Net
 ABx:AB c.K c.mg c.c_Answer
 WBx:WB c.K c.mg c.c_Watch
 MK:∀k:Kd,Mk c.K (kd3 c.c_Piece c.c_Push c.c_Hold k) c.f10
 MN:Mk c.K c.c_Net c.f27
 MA:Mk c.K c.c_Answer c.f54
 MWa:Mk c.K c.c_Watch c.f64
def OZ (c:CZ)(b:Heap):Prop:=aL c.P c.w c.K c.mg b CX0 12 c.f90 (W.fnOf ("law") ("law") (fA zQ) (cV zQ) (aH zQ) .none c.kV90 c.dc90 c.pm90 c.an90 c.cd90 c.ct90) ["_law_script"] (Cb c.K)
noncomputable def TZ:CZ×Heap:=Classical.epsilon fun x=>GZ x.1/\¬OZ x.1 x.2
@[irreducible] noncomputable def Z:CZ:=TZ.1
@[irreducible] noncomputable def ZB:Heap:=TZ.2
abbrev FZ:=aL Z.P Z.w Z.K Z.mg ZB
abbrev DZ:=D9 Z.P Z.w Z.K Z.mg ZB
section
open Shp
open GZ hiding mk
variable [GZ Z]
theorem F4:aV Z.K ("fraction") ("fraction") kQ (.ref Z.T4) Z.f4 (W.fnOf ("fraction") ("fraction") (fA kQ) (cV kQ) (aH kQ) (.ref Z.T4) Z.kV4 Z.dc4 Z.pm4 Z.an4 Z.cd4 Z.ct4):=rV (st:=kQ) l4 c4 k4
theorem b4:aM Z.K (W.fnOf ("fraction") ("fraction") (fA kQ) (cV kQ) (aH kQ) (.ref Z.T4) Z.kV4 Z.dc4 Z.pm4 Z.an4 Z.cd4 Z.ct4) ["top","bottom"] []:=fun s us XX hl=>match us,hl with | [_,_],_=>W.binds_K (fd:=W.fnOf "fraction" "fraction" (fA kQ) (cV kQ) (aH kQ) (.ref Z.T4) Z.kV4 Z.dc4 Z.pm4 Z.an4 Z.cd4 Z.ct4) XX rfl lt4 rfl rfl rfl
theorem bd4:aM Z.K (W.fnOf ("fraction") ("fraction") (fA kQ) (cV kQ) (aH kQ) (.ref Z.T4) Z.kV4 Z.dc4 Z.pm4 Z.an4 Z.cd4 Z.ct4) ["top","bottom"] [.int 1 Z.tk4]:=fun s us XX hl=>match us,(show us.length=1 by simp at hl;lia) with | [_],_=>W.binds_K (fd:=W.fnOf "fraction" "fraction" (fA kQ) (cV kQ) (aH kQ) (.ref Z.T4) Z.kV4 Z.dc4 Z.pm4 Z.an4 Z.cd4 Z.ct4) XX rfl lt4 rfl rfl rfl
theorem b10:aM Z.K Z.d10 ["self","start","goal","size"] []:=F10.b4 "self" "start" "goal" "size" (by intros;rfl)
theorem b11:aM Z.K Z.d11 ["self"] []:=F11.b1 "self" (by intros;rfl)
theorem b12:aM Z.K Z.d12 ["self"] []:=F12.b1 "self" (by intros;rfl)
theorem b13:aM Z.K Z.d13 ["self"] []:=F13.b1 "self" (by intros;rfl)
theorem b14:aM Z.K Z.d14 ["self"] []:=F14.b1 "self" (by intros;rfl)
theorem b15:aM Z.K Z.d15 ["self"] []:=F15.b1 "self" (by intros;rfl)
theorem b16:aM Z.K Z.d16 ["self"] []:=F16.b1 "self" (by intros;rfl)
theorem b17:aM Z.K Z.d17 ["self"] []:=F17.b1 "self" (by intros;rfl)
theorem b19:aM Z.K Z.d19 ["self","fall","held"] []:=F19.b3 "self" "fall" "held" (by intros;rfl)
theorem b20:aM Z.K Z.d20 ["self","fall","held"] []:=F20.b3 "self" "fall" "held" (by intros;rfl)
theorem b21:aM Z.K Z.d21 ["self","fall","held"] []:=F21.b3 "self" "fall" "held" (by intros;rfl)
theorem b27:aM Z.K Z.d27 ["self","many"] []:=F27.b2 "self" "many" (by intros;rfl)
theorem b28:aM Z.K Z.d28 ["self"] []:=F28.b1 "self" (by intros;rfl)
theorem b29:aM Z.K Z.d29 ["self"] []:=F29.b1 "self" (by intros;rfl)
theorem b30:aM Z.K Z.d30 ["self","row"] []:=F30.b2 "self" "row" (by intros;rfl)
theorem b31:aM Z.K Z.d31 ["self","k","size"] []:=F31.b3 "self" "k" "size" (by intros;rfl)
theorem b32:aM Z.K Z.d32 ["self"] []:=F32.b1 "self" (by intros;rfl)
theorem F39:aV Z.K ("rings") ("rings") iJ (.ref Z.T39) Z.f39 (W.fnOf ("rings") ("rings") (fA iJ) (cV iJ) (aH iJ) (.ref Z.T39) Z.kV39 Z.dc39 Z.pm39 Z.an39 Z.cd39 Z.ct39):=rV (st:=iJ) l39 c39 k39
theorem b39:aM Z.K (W.fnOf ("rings") ("rings") (fA iJ) (cV iJ) (aH iJ) (.ref Z.T39) Z.kV39 Z.dc39 Z.pm39 Z.an39 Z.cd39 Z.ct39) ["net","words"] []:=fun s us XX hl=>match us,hl with | [_,_],_=>W.binds_K (fd:=W.fnOf "rings" "rings" (fA iJ) (cV iJ) (aH iJ) (.ref Z.T39) Z.kV39 Z.dc39 Z.pm39 Z.an39 Z.cd39 Z.ct39) XX rfl lt39 rfl rfl rfl
theorem bd39:aM Z.K (W.fnOf ("rings") ("rings") (fA iJ) (cV iJ) (aH iJ) (.ref Z.T39) Z.kV39 Z.dc39 Z.pm39 Z.an39 Z.cd39 Z.ct39) ["net","words"] [.none]:=fun s us XX hl=>match us,(show us.length=1 by simp at hl;lia) with | [_],_=>W.binds_K (fd:=W.fnOf "rings" "rings" (fA iJ) (cV iJ) (aH iJ) (.ref Z.T39) Z.kV39 Z.dc39 Z.pm39 Z.an39 Z.cd39 Z.ct39) XX rfl lt39 rfl rfl rfl
theorem b54:aM Z.K Z.d54 ["self","net"] []:=F54.b2 "self" "net" (by intros;rfl)
theorem b55:aM Z.K Z.d55 ["self"] []:=F55.b1 "self" (by intros;rfl)
theorem b56:aM Z.K Z.d56 ["self"] []:=F56.b1 "self" (by intros;rfl)
theorem b57:aM Z.K Z.d57 ["self"] []:=F57.b1 "self" (by intros;rfl)
theorem b58:aM Z.K Z.d58 ["self"] []:=F58.b1 "self" (by intros;rfl)
theorem b64:aM Z.K Z.d64 ["self","net"] []:=F64.b2 "self" "net" (by intros;rfl)
theorem b65:aM Z.K Z.d65 ["self","k","size"] []:=F65.b3 "self" "k" "size" (by intros;rfl)
theorem b66:aM Z.K Z.d66 ["self"] []:=F66.b1 "self" (by intros;rfl)
theorem b67:aM Z.K Z.d67 ["self"] []:=F67.b1 "self" (by intros;rfl)
theorem b72:aM Z.K Z.d72 ["self"] []:=F72.b1 "self" (by intros;rfl)
theorem b73:aM Z.K Z.d73 ["self"] []:=F73.b1 "self" (by intros;rfl)
theorem F90:aV Z.K ("law") ("law") zQ .none Z.f90 (W.fnOf ("law") ("law") (fA zQ) (cV zQ) (aH zQ) .none Z.kV90 Z.dc90 Z.pm90 Z.an90 Z.cd90 Z.ct90):=rV (st:=zQ) l90 c90 k90
theorem fJ0:∀H:Hp,SqT Z.K H Z.aJ [V.str ("piece"),V.str ("hold")]:=fun H=>.inr ⟨_,_,_,lJ,rfl,rfl,(zl9 2),.cons ⟨_,rfl⟩ (.cons ⟨_,rfl⟩ .nil)⟩
theorem Y1:DZ 1 Z.f1 Z.d1 ["thing"] (mL Z.K) "is_whole":=by
 refine⟨?_,F1.b1 _ (by intros;rfl),F1.kp,m1⟩
 refine F1.ok9 Sz fun _ _ _ s H _ Q E hr h=>?_;obtain⟨x,rfl,h⟩:=h;refine⟨_,aF (aW (qD (iQ (i:=0) rfl (Or.inl rfl) bl.isi bl.int rfl rfl PyProof.Rows.boot_int) (tS (qd7 (iQ (i:=0) rfl (Or.inl rfl) bl.isi bl.bool rfl rfl PyProof.Rows.boot_bool))))),?_⟩;rcases h with ⟨i,rfl,q⟩ | ⟨t,ty,nw,q⟩
 ·exact⟨_,_,_,rfl,.of (.int i),rfl,_,rfl,hJ ⟨_,_,false,rfl,.of (.int i),(by with_unfolding_all rfl),_,rfl,q⟩⟩
 ·rcases nw with rfl | rfl | rfl | rfl | rfl
  ·exact⟨_,_,true,rfl,.of ty,(by with_unfolding_all rfl),_,rfl,hJ ⟨_,_,_,rfl,.of ty,rfl,_,rfl,q⟩⟩
  all_goals exact⟨_,_,false,rfl,.of ty,(by with_unfolding_all rfl),_,rfl,gL q⟩
theorem Y2:DZ 1 Z.f2 Z.d2 ["one","other"] Sh "greatest_common":=by
 refine⟨?_,F2.b2 _ _ (by intros;rfl),F2.kp,m2⟩
 refine F2.ok9 Tb fun _ _ _ s H _ Q E hr h=>?_;obtain⟨x,y,rfl,q⟩:=h;refine⟨_,aB (vG PassesOwn.never (bC pY (pv 1) aE (bK _)) (aB (aS (i:=2) Tb.nd rfl (Or.inl rfl) (aX kH (pv 0) (pv 1)))
  (aB (aS (i:=0) Tb.nd rfl (Or.inl rfl) (pv 1)) (aF (aS (i:=1) Tb.nd rfl (Or.inl rfl) (pv 2))))))
  (aF (aW (bZ oX rfl bl.abs PyProof.Rows.boot_abs (aA (pv 0) aC)))),?_⟩
 refine vF (fun σ H'=>H'=H/\∃u v z,σ=[some (.int u),some (.int v),z]/\gc u v=gc x y) (fun σ _=>match σ with | [_,some (.int v),_]=>v.natAbs | _=>0) ⟨rfl,x,y,none,rfl,rfl⟩ ?_ ?_
 ·rintro σ H' ⟨rfl,u,v,z,rfl,e⟩;refine⟨_,rfl,rfl,_,rfl,?_⟩;refine qM (fun c=>?_) (fun c=>?_)
  ·have hv:v≠0:=by intro q;subst q;simp at c
   refine⟨_,rfl,_,rfl,_,_,rfl,rfl,hv,_,rfl,_,rfl,⟨rfl,v,Int.fmod u v,_,rfl,(Jq u v).trans e⟩,Mq.wT hv⟩
  ·have hv:v=0:=by
    simp at c;exact c
   subst hv;refine⟨_,rfl,_,rfl,?_⟩;rw[<- Jc,e];exact q
 ·rintro σ H Q Q' m ⟨v,h1,h2,k,h3,h4⟩;exact⟨v,h1,h2,k,h3,m _ _ h4⟩
theorem Y3:DZ 1 Z.f3 Z.d3 ["one","other"] (yZ Z.K) "under":=by
 refine⟨?_,F3.b2 _ _ (by intros;rfl),F3.kp,m3⟩
 refine F3.ok9 Th fun _ _ _ s H _ Q E hr h=>?_;obtain⟨a,b,p,q,n,m,rfl,ha,hb,bp,bq,hn,z⟩:=h;refine⟨_,aF (aW (jK tP (aX cI (aQ aT (pv 0) aE (fun _ _=>rfl)) (aQ aT (pv 1) aE (fun _ _=>rfl))) (aX cI (aQ aT (pv 1) aE (fun _ _=>rfl)) (aQ aT (pv 0) aE (fun _ _=>rfl))) (bK _))),?_⟩;exact dQ rfl ha (cK rfl hb (cJ bp.a bq.b (by lia) (by lia) (dQ rfl hb (cK rfl ha (cJ bq.a bp.b (by lia) (by lia) ⟨_,_,rfl,rfl,z⟩)))))
theorem Y4:DZ 2 Z.f4 (W.fnOf ("fraction") ("fraction") (fA kQ) (cV kQ) (aH kQ) (.ref Z.T4) Z.kV4 Z.dc4 Z.pm4 Z.an4 Z.cd4 Z.ct4) ["top","bottom"] gP "fraction":=by
 refine⟨?_,b4,F4.kp,m4⟩
 refine F4.ok9 Dq fun _ _ _ s H _ Q E hr h=>?_;obtain⟨t,b,n,rfl,hb,hB,hn,q⟩:=h;refine⟨_,aB (cG (PW.pt (pJ (gX (fF (d9 Y1 hr rfl (aA (pv 0) aC)))) (pJ (gX (fF (d9 Y1 hr rfl (aA (pv 1) aC)))) (nY (bC eV (pv 1) aE (bK _)))))) Ln bN)
  (aB (aS (i:=2) Dq.nd rfl (Or.inl rfl) (d9 Y2 hr rfl (aA (pv 0) (aA (pv 1) aC))))
  (aB (cG (bC tP (pv 1) aE (bK _)) (aF (aS (i:=2) Dq.nd rfl (Or.inl rfl) (Md Ew (pv 2)))) bN)
  (aF (aW (dS (aA (aX jE (pv 0) (pv 2)) (aA (aX jE (pv 1) (pv 2)) aC))))))),?_⟩
 have hd:=qY (t:=t) hb;have hdB:Mq.B n (dvr t b):=hB.le (Es hb);have c0:decide (V.int b=V.int 0)=false:=decide_eq_false (fun z=>hb (by cases z;rfl));refine⟨_,rfl,_,rfl,.inl ⟨t,rfl,_,rfl,gL ⟨_,rfl,_,rfl,.inl ⟨b,rfl,_,rfl,gL ⟨_,rfl,rfl,_,rfl,?_⟩⟩⟩⟩⟩;rw[c0];refine gL ⟨_,rfl,_,rfl,t,b,rfl,?_⟩;refine⟨_,rfl,_,_,rfl,rfl,_,rfl,?_⟩;refine qM (fun c=>?_) (fun c=>?_)
 ·have hlt:b < 0:=of_decide_eq_true c;have e:dvr t b=-gc t b:=by unfold dvr;rw[if_pos hlt]
  rw[e] at hd hdB;have q':mD H Q (t.fdiv (-gc t b),b.fdiv (-gc t b)):=by
   have z:=q;unfold red at z;rw[e] at z;exact z
  refine⟨_,rfl,_,rfl,?_⟩;refine⟨_,rfl,_,rfl,?_⟩;refine gB hd hdB hn ⟨_,rfl,_,rfl,gB hd hdB hn ⟨zl9 2,fun p hp=>?_⟩⟩;exact q' p _ (aI hp _) aD
 ·have hlt:¬b < 0:=fun z=>c (decide_eq_true z);have e:dvr t b=gc t b:=by unfold dvr;rw[if_neg hlt]
  rw[e] at hd hdB;have q':mD H Q (t.fdiv (gc t b),b.fdiv (gc t b)):=by
   have z:=q;unfold red at z;rw[e] at z;exact z
  refine⟨_,rfl,_,rfl,?_⟩;refine gB hd hdB hn ⟨_,rfl,_,rfl,gB hd hdB hn ⟨zl9 2,fun p hp=>?_⟩⟩;exact q' p _ (aI hp _) aD
theorem Y5:DZ 3 Z.f5 Z.d5 ["one","other"] (gS Z.K Mq.minus) "minus":=by
 refine⟨?_,F5.b2 _ _ (by intros;rfl),F5.kp,m5⟩
 refine F5.ok9 Ut fun _ _ _ s H _ Q E hr h=>?_;obtain⟨a,b,p,q,n,m,rfl,ha,hb,lp,lq,bp,bq,hn,z⟩:=h;refine⟨_,aF (aW (d9 Y4 hr rfl (aA
  (aX iN (aX cI (aQ aT (pv 0) aE (fun _ _=>rfl)) (aQ aT (pv 1) aE (fun _ _=>rfl))) (aX cI (aQ aT (pv 1) aE (fun _ _=>rfl)) (aQ aT (pv 0) aE (fun _ _=>rfl))))
  (aA (aX cI (aQ aT (pv 0) aE (fun _ _=>rfl)) (aQ aT (pv 1) aE (fun _ _=>rfl))) aC)))),?_⟩
 refine dQ rfl ha (cK rfl hb (cJ bp.a bq.b (by lia) (by lia) (dQ rfl hb (cK rfl ha (cJ bq.a bp.b (by lia) (by lia) ⟨_,_,rfl,rfl,?_⟩)))));refine cK rfl ha (cK rfl hb (cJ bp.b bq.b (by lia) (by lia) ⟨_,_,n+m,rfl,gQ lp lq,bp.b.mul bq.b,by lia,z⟩))
theorem Y6:DZ 3 Z.f6 Z.d6 ["one","other"] (gS Z.K Mq.iZ) "plus":=by
 refine⟨?_,F6.b2 _ _ (by intros;rfl),F6.kp,m6⟩
 refine F6.ok9 Xx fun _ _ _ s H _ Q E hr h=>?_;obtain⟨a,b,p,q,n,m,rfl,ha,hb,lp,lq,bp,bq,hn,z⟩:=h;refine⟨_,aF (aW (d9 Y4 hr rfl (aA
  (aX dU (aX cI (aQ aT (pv 0) aE (fun _ _=>rfl)) (aQ aT (pv 1) aE (fun _ _=>rfl))) (aX cI (aQ aT (pv 1) aE (fun _ _=>rfl)) (aQ aT (pv 0) aE (fun _ _=>rfl))))
  (aA (aX cI (aQ aT (pv 0) aE (fun _ _=>rfl)) (aQ aT (pv 1) aE (fun _ _=>rfl))) aC)))),?_⟩
 refine dQ rfl ha (cK rfl hb (cJ bp.a bq.b (by lia) (by lia) (dQ rfl hb (cK rfl ha (cJ bq.a bp.b (by lia) (by lia) ⟨_,_,rfl,rfl,?_⟩)))));refine cK rfl ha (cK rfl hb (cJ bp.b bq.b (by lia) (by lia) ⟨_,_,n+m,rfl,gQ lp lq,bp.b.mul bq.b,by lia,z⟩))
theorem Y7:DZ 3 Z.f7 Z.d7 ["one","other"] (oB Z.K) "over":=by
 refine⟨?_,F7.b2 _ _ (by intros;rfl),F7.kp,m7⟩
 refine F7.ok9 Yh fun _ _ _ s H _ Q E hr h=>?_;obtain⟨a,b,p,q,n,m,rfl,ha,hb,lp,lq,h0,bp,bq,hn,z⟩:=h;refine⟨_,(aB (cG (bC eV (aQ aT (pv 1) aE (fun _ _=>rfl)) aE (bK _)) (aF fK) bN)
  (aF (aW (d9 Y4 hr rfl (aA (aX cI (aQ aT (pv 0) aE (fun _ _=>rfl)) (aQ aT (pv 1) aE (fun _ _=>rfl))) (aA (aX cI (aQ aT (pv 0) aE (fun _ _=>rfl)) (aQ aT (pv 1) aE (fun _ _=>rfl))) aC)))))),?_⟩
 refine dQ rfl hb ⟨rfl,_,rfl,?_⟩;rw[decide_eq_false (fun e=>absurd (show q.1=0 by injection e) (by lia))];refine gL ?_;refine dQ rfl ha (cK rfl hb (cJ bp.a bq.b (by lia) (by lia) ?_));exact cK rfl ha (dQ rfl hb (cJ bp.b bq.a (by lia) (by lia) ⟨_,_,n+m,rfl,pK lp (by lia),bp.b.mul bq.a,by lia,z⟩))
theorem Y8:DZ 3 Z.f8 Z.d8 ["one","other"] (gS Z.K Mq.gC) "times":=by
 refine⟨?_,F8.b2 _ _ (by intros;rfl),F8.kp,m8⟩
 refine F8.ok9 Ur fun _ _ _ s H _ Q E hr h=>?_;obtain⟨a,b,p,q,n,m,rfl,ha,hb,lp,lq,bp,bq,hn,z⟩:=h;refine⟨_,aF (aW (d9 Y4 hr rfl (aA
  (aX cI (aQ aT (pv 0) aE (fun _ _=>rfl)) (aQ aT (pv 1) aE (fun _ _=>rfl)))
  (aA (aX cI (aQ aT (pv 0) aE (fun _ _=>rfl)) (aQ aT (pv 1) aE (fun _ _=>rfl))) aC)))),?_⟩
 refine dQ rfl ha (dQ rfl hb (cJ bp.a bq.a (by lia) (by lia) ?_));refine cK rfl ha (cK rfl hb (cJ bp.b bq.b (by lia) (by lia) ⟨_,_,n+m,rfl,gQ lp lq,bp.b.mul bq.b,by lia,z⟩))
theorem Y9:DZ 2 Z.f9 Z.d9 ["thing"] (Fw Z.K) "is_fraction":=by
 refine⟨?_,F9.b1 _ (by intros;rfl),F9.kp,m9⟩
 refine F9.ok9 qh3 fun _ _ _ s H _ Q E hr h=>?_;obtain⟨v,o,rfl,hz,q⟩:=h;refine⟨_,(aB (cG (PW.pt (pJ (gX (fF (iQ (i:=0) rfl (Or.inl rfl) bl.isi n_tuple rfl rfl PyProof.Rows.boot_tuple))) (nY (bC pY (bZ bL rfl n_len PySem.boot_len (aA (pv 0) aC)) aE (bK _))))) (aF (aW jL)) bN)
  (aB (cG (PW.pt (pJ (gX (fF (d9 Y1 hr rfl (aA (aQ aT (pv 0) aE (fun _ _=>rfl)) aC)))) (nY (gX (fF (d9 Y1 hr rfl (aA (aQ aT (pv 0) aE (fun _ _=>rfl)) aC))))))) (aF (aW jL)) bN)
  (aF (aW (qD (jK Ng (aQ aT (pv 0) aE (fun _ _=>rfl)) aE (bK _)) (tS (jK eV (d9 Y2 hr rfl (aA (aQ aT (pv 0) aE (fun _ _=>rfl)) (aA (aQ aT (pv 0) aE (fun _ _=>rfl)) aC))) aE (bK _)))))))),?_⟩
 cases hz with
 |fr fa hp=>
  refine⟨_,_,true,rfl,.tup fa,rfl,_,rfl,gL ⟨_,rfl,_,_,rfl,.inr fa,rfl,_,rfl,gL ?_⟩⟩;refine dQ rfl fa ⟨_,rfl,.inl ⟨_,rfl,_,rfl,gL (cK rfl fa ⟨_,rfl,.inl ⟨_,rfl,_,rfl,gL ?_⟩⟩)⟩⟩;have h1:=hp.pos;refine cK rfl fa ⟨_,_,rfl,rfl,_,rfl,ifT (decide_eq_true (by lia)) (dQ rfl fa (cK rfl fa ⟨_,_,rfl,rfl,?_⟩))⟩;rw[hp.one];exact q
 |ty h n=>exact⟨_,_,false,rfl,h,n,_,rfl,hJ q⟩
 |len h=>exact⟨_,_,true,rfl,.tup h,rfl,_,rfl,gL ⟨_,rfl,_,_,rfl,.inr h,rfl,_,rfl,hJ q⟩⟩
 |n0 h ty n=>
  refine⟨_,_,true,rfl,.tup h,rfl,_,rfl,gL ⟨_,rfl,_,_,rfl,.inr h,rfl,_,rfl,gL ?_⟩⟩;exact⟨_,rfl,_,_,0,_,rfl,rfl,h,rfl,_,rfl,.inr ⟨_,ty,n,_,rfl,hJ q⟩⟩
 |n1 h ty n=>
  refine⟨_,_,true,rfl,.tup h,rfl,_,rfl,gL ⟨_,rfl,_,_,rfl,.inr h,rfl,_,rfl,gL ?_⟩⟩;exact⟨_,rfl,_,_,0,_,rfl,rfl,h,rfl,_,rfl,.inl ⟨_,rfl,_,rfl,gL ⟨_,rfl,_,_,1,_,rfl,rfl,h,rfl,_,rfl,.inr ⟨_,ty,n,_,rfl,hJ q⟩⟩⟩⟩
 |fb fa c=>
  refine⟨_,_,true,rfl,.tup fa,rfl,_,rfl,gL ⟨_,rfl,_,_,rfl,.inr fa,rfl,_,rfl,gL ?_⟩⟩;refine dQ rfl fa ⟨_,rfl,.inl ⟨_,rfl,_,rfl,gL (cK rfl fa ⟨_,rfl,.inl ⟨_,rfl,_,rfl,gL ?_⟩⟩)⟩⟩;rcases c with c | ⟨c,d⟩
  ·exact cK rfl fa ⟨_,_,rfl,rfl,_,rfl,ifF (decide_eq_false (by lia)) q⟩
  ·refine cK rfl fa ⟨_,_,rfl,rfl,_,rfl,ifT (decide_eq_true c) (dQ rfl fa (cK rfl fa ⟨_,_,rfl,rfl,?_⟩))⟩;rw[decide_eq_false (fun e=>d (by injection e))];exact q
theorem R10:FZ CX0 1 Z.f10 Z.d10 ["self","start","goal","size"] (sX (kd3 Z.c_Piece Z.c_Push Z.c_Hold)):=by
 refine F10.ok9 Uj fun _ _ _ s H _ Q E hr h=>?_;obtain⟨x,dx,k,s,g,z,rfl,hx,q⟩:=h;refine⟨_,(aB (iB (pv 0) (pv 1) rfl) (aB (iB (pv 0) (pv 2) rfl) (aF (iB (pv 0) (pv 3) rfl)))),?_⟩;have l1:=dR ("start":Str) s [];have l2:=dR ("goal":Str) g (cQ "start" s []);simp only[length_nil] at l1;refine⟨_,rfl,_,rfl,x,(kd3 Z.c_Piece Z.c_Push Z.c_Hold) k,dx,[],rfl,hx,T.cl k,T.nS k,(by show 0 < 1000;decide),?_⟩;refine⟨_,rfl,_,rfl,x,(kd3 Z.c_Piece Z.c_Push Z.c_Hold) k,dx,_,rfl,aD,T.cl k,T.nG k,by lia,?_⟩;refine⟨_,rfl,_,rfl,x,(kd3 Z.c_Piece Z.c_Push Z.c_Hold) k,dx,_,rfl,aD,T.cl k,T.nZ k,by lia,?_⟩;rw[oQ,oQ];exact q
theorem R11:FZ CX0 1 Z.f11 Z.d11 ["self"] (iK Kd.pc):=by
 refine F11.ok9 Lc fun _ _ _ s H _ Q E hr h=>?_;obtain⟨x,rfl,q⟩:=h;exact⟨_,(aF (aW cF)),q⟩
theorem R12:FZ CX0 1 Z.f12 Z.d12 ["self"] (iK Kd.pu):=by
 refine F12.ok9 Lm fun _ _ _ s H _ Q E hr h=>?_;obtain⟨x,rfl,q⟩:=h;exact⟨_,(aF (aW cF)),q⟩
theorem R13:FZ CX0 1 Z.f13 Z.d13 ["self"] (iK Kd.ho):=by
 refine F13.ok9 Lw fun _ _ _ s H _ Q E hr h=>?_;obtain⟨x,rfl,q⟩:=h;exact⟨_,(aF (aW cF)),q⟩
theorem GW:∀k:Kd,aL Z.P Z.w Z.K Z.mg ZB CX0 1 (kd3 Z.f11 Z.f12 Z.f13 k) (kd3 Z.d11 Z.d12 Z.d13 k) ["self"] (iK k):=jG (R11) (R12) (R13)
theorem bW:∀k:Kd,aM Z.K (kd3 Z.d11 Z.d12 Z.d13 k) ["self"] []:=jG (b11) (b12) (b13)
theorem mW:∀k:Kd,eI Z.K (kd3 Z.c_Piece Z.c_Push Z.c_Hold k) ("word") (kd3 Z.f11 Z.f12 Z.f13 k):=jG (⟨a11_0,i11,F11.kp⟩) (⟨a12_0,i12,F12.kp⟩) (⟨a13_0,i13,F13.kp⟩)
theorem R14:FZ CX0 1 Z.f14 Z.d14 ["self"] (mU Kd.pc):=by
 refine F14.ok9 Ee fun _ _ _ s H _ Q E hr h=>?_;obtain⟨x,rfl,q⟩:=h;exact⟨_,(aF (aW jL)),q⟩
theorem R15:FZ CX0 1 Z.f15 Z.d15 ["self"] (mU Kd.pu):=by
 refine F15.ok9 Fv fun _ _ _ s H _ Q E hr h=>?_;obtain⟨x,rfl,q⟩:=h;exact⟨_,(aF (aW jL)),q⟩
theorem R16:FZ CX0 1 Z.f16 Z.d16 ["self"] (mU Kd.ho):=by
 refine F16.ok9 Ef fun cdv A outer s H vs Q E hr h=>?_;obtain⟨x,rfl,q⟩:=h;exact⟨_,(aF (aW jL)),q⟩
theorem GJ:∀k:Kd,aL Z.P Z.w Z.K Z.mg ZB CX0 1 (kd3 Z.f14 Z.f15 Z.f16 k) (kd3 Z.d14 Z.d15 Z.d16 k) ["self"] (mU k):=jG (R14) (R15) (R16)
theorem bJ:∀k:Kd,aM Z.K (kd3 Z.d14 Z.d15 Z.d16 k) ["self"] []:=jG (b14) (b15) (b16)
theorem mJ:∀k:Kd,eI Z.K (kd3 Z.c_Piece Z.c_Push Z.c_Hold k) ("joins") (kd3 Z.f14 Z.f15 Z.f16 k):=jG (⟨a14_0,i14,F14.kp⟩) (⟨a15_0,i15,F15.kp⟩) (⟨a16_0,i16,F16.kp⟩)
theorem R17:FZ CX0 2 Z.f17 Z.d17 ["self"] (rY (kd3 Z.c_Piece Z.c_Push Z.c_Hold)):=by
 refine F17.ok9 Tl fun _ _ _ s H _ Q E hr h=>?_;obtain⟨x,k,s,g,z,rfl,⟨dx,hx⟩,q⟩:=h;refine⟨_,(aF (aW (dS (aA (eJ (pv 0) T.cl mW GW hr bW .nil aK) (aA (bU (pv 0) rfl) (aA (bU (pv 0) rfl) (aA (bU (pv 0) rfl) aC))))))),?_⟩;refine⟨_,rfl,k,x,dx,_,rfl,hx,(cU _ _ _ (by decide +kernel) (by decide +kernel) (by decide +kernel)),_,rfl,?_⟩;refine⟨_,rfl,x,(kd3 Z.c_Piece Z.c_Push Z.c_Hold) k,dx,_,_,rfl,hx,T.cl k,T.nS k,dH _ _ _,?_⟩;refine⟨_,rfl,x,(kd3 Z.c_Piece Z.c_Push Z.c_Hold) k,dx,_,_,rfl,hx,T.cl k,T.nG k,dX _ _ _,?_⟩;refine⟨_,rfl,x,(kd3 Z.c_Piece Z.c_Push Z.c_Hold) k,dx,_,_,rfl,hx,T.cl k,T.nZ k,eY _ _ _,?_⟩;exact⟨zl9 4,q⟩
theorem mT:∀k:Kd,eI Z.K (kd3 Z.c_Piece Z.c_Push Z.c_Hold k) ("told") Z.f17:=jG (⟨a17_0,i17,F17.kp⟩) (⟨a17_1,i17,F17.kp⟩) (⟨a17_2,i17,F17.kp⟩)
theorem Y18:DZ 3 Z.f18 Z.d18 ["told"] (pG Z.K (kd3 Z.c_Piece Z.c_Push Z.c_Hold)) "row_of":=by
 refine⟨?_,F18.b1 _ (by intros;rfl),F18.kp,m18⟩
 refine F18.ok9 Ib fun _ _ _ s H _ Q E hr h=>?_;obtain⟨t,v,s,g,z,rfl,hT,k,rfl,q⟩:=h;refine⟨_,(aB (aS (i:=1) Ib.nd rfl (Or.inl rfl) (aQ aT (pv 0) aE (fun _ _=>rfl)))
  (aB (cG (PW.pt (vY (fF (iQ (i:=1) rfl (Or.inl rfl) bl.isi n_str rfl rfl PyProof.Rows.boot_str)) (oW (bC eV (pv 1) cF (bK _))))) (aF (aW (iV (MK .pc) R10 hr rfl (T.mK .pc) b10 .nil aK (aA (aQ aT (pv 0) aE (fun _ _=>rfl)) (aA (aQ aT (pv 0) aE (fun _ _=>rfl)) (aA (aQ aT (pv 0) aE (fun _ _=>rfl)) aC)))))) bN)
  (aB (cG (PW.pt (vY (fF (iQ (i:=1) rfl (Or.inl rfl) bl.isi n_str rfl rfl PyProof.Rows.boot_str)) (oW (bC eV (pv 1) cF (bK _))))) (aF (aW (iV (MK .pu) R10 hr rfl (T.mK .pu) b10 .nil aK (aA (aQ aT (pv 0) aE (fun _ _=>rfl)) (aA (aQ aT (pv 0) aE (fun _ _=>rfl)) (aA (aQ aT (pv 0) aE (fun _ _=>rfl)) aC)))))) bN)
  (aB (cG (PW.pt (vY (fF (iQ (i:=1) rfl (Or.inl rfl) bl.isi n_str rfl rfl PyProof.Rows.boot_str)) (oW (bC eV (pv 1) cF (bK _))))) (aF (aW (iV (MK .ho) R10 hr rfl (T.mK .ho) b10 .nil aK (aA (aQ aT (pv 0) aE (fun _ _=>rfl)) (aA (aQ aT (pv 0) aE (fun _ _=>rfl)) (aA (aQ aT (pv 0) aE (fun _ _=>rfl)) aC)))))) bN)
  (aF fK))))),?_⟩
 cases k
 ·refine Xy (fun _ _=>False) (fun X _=>?_) (fun _ _ h=>h.elim);refine⟨_,rfl,t,_,0,_,rfl,rfl,hT,rfl,?_⟩;exact⟨_,_,true,rfl,.of (.str _),rfl,_,rfl,hJ ⟨_,rfl,rfl,_,rfl,ifT (cP .pc .pc) ⟨_,rfl,t,_,1,s,rfl,rfl,hT,rfl,_,rfl,t,_,2,g,rfl,rfl,hT,rfl,_,rfl,t,_,3,z,rfl,rfl,hT,rfl,fun x dx h1 h2 ne=>⟨x,dx,.pc,s,g,z,rfl,aD,rfl,by rw[oQ];exact q x _ (Rw.new h1 h2 ne) h1 ⟨dx,aD⟩⟩⟩⟩⟩
 ·refine qf4 (fun _ _=>False) (fun X _=>?_) (fun _ _ h=>h.elim);refine⟨_,rfl,t,_,0,_,rfl,rfl,hT,rfl,?_⟩;exact⟨_,_,true,rfl,.of (.str _),rfl,_,rfl,hJ ⟨_,rfl,rfl,_,rfl,ifF (cP .pu .pc) (⟨_,_,true,rfl,.of (.str _),rfl,_,rfl,hJ ⟨_,rfl,rfl,_,rfl,ifT (cP .pu .pu) ⟨_,rfl,t,_,1,s,rfl,rfl,hT,rfl,_,rfl,t,_,2,g,rfl,rfl,hT,rfl,_,rfl,t,_,3,z,rfl,rfl,hT,rfl,fun x dx h1 h2 ne=>⟨x,dx,.pu,s,g,z,rfl,aD,rfl,by rw[oQ];exact q x _ (Rw.new h1 h2 ne) h1 ⟨dx,aD⟩⟩⟩⟩⟩)⟩⟩
 ·refine qk9 (fun _ _=>False) (fun X _=>?_) (fun _ _ h=>h.elim);refine⟨_,rfl,t,_,0,_,rfl,rfl,hT,rfl,?_⟩;exact⟨_,_,true,rfl,.of (.str _),rfl,_,rfl,hJ ⟨_,rfl,rfl,_,rfl,ifF (cP .ho .pc) (⟨_,_,true,rfl,.of (.str _),rfl,_,rfl,hJ ⟨_,rfl,rfl,_,rfl,ifF (cP .ho .pu) (⟨_,_,true,rfl,.of (.str _),rfl,_,rfl,hJ ⟨_,rfl,rfl,_,rfl,ifT (cP .ho .ho) ⟨_,rfl,t,_,1,s,rfl,rfl,hT,rfl,_,rfl,t,_,2,g,rfl,rfl,hT,rfl,_,rfl,t,_,3,z,rfl,rfl,hT,rfl,fun x dx h1 h2 ne=>⟨x,dx,.ho,s,g,z,rfl,aD,rfl,by rw[oQ];exact q x _ (Rw.new h1 h2 ne) h1 ⟨dx,aD⟩⟩⟩⟩⟩)⟩⟩)⟩⟩
theorem R19:FZ CX0 4 Z.f19 Z.d19 ["self","fall","held"] (qV Z.K (kd3 Z.c_Piece Z.c_Push Z.c_Hold) Kd.pc):=by
 refine F19.ok9 Bs fun _ _ _ s H _ Q E hr h=>?_;obtain⟨x,z,a,h,s,g,p,u,v,n,m,rfl,⟨dx,hx⟩,fz,fa,fh,hp,hu,bp,bu,hn,h0,q⟩:=h;refine⟨_,(aF (aW (d9 Y7 hr rfl (aA (pv 1) (aA (bU (pv 0) rfl) aC))))),?_⟩;exact⟨_,rfl,_,rfl,x,(kd3 Z.c_Piece Z.c_Push Z.c_Hold) .pc,dx,_,_,rfl,hx,T.cl _,T.nZ _,eY _ _ _,a,z,u,p,m,n,rfl,fa,fz,hu,hp,h0 rfl,bu,bp,by lia,fun r H1 s1 e1=>q r H1 s1 (Fq.of e1)⟩
theorem R20:FZ CX0 4 Z.f20 Z.d20 ["self","fall","held"] (qV Z.K (kd3 Z.c_Piece Z.c_Push Z.c_Hold) Kd.pu):=yJ (P:=Z.P) (w:=Z.w) (mg:=Z.mg) (base:=ZB) (CX:=CX0) F20 T
theorem R21:FZ CX0 4 Z.f21 Z.d21 ["self","fall","held"] (qV Z.K (kd3 Z.c_Piece Z.c_Push Z.c_Hold) Kd.ho):=Ag (P:=Z.P) (w:=Z.w) (mg:=Z.mg) (base:=ZB) (CX:=CX0) F21 T
theorem GS:∀k:Kd,aL Z.P Z.w Z.K Z.mg ZB CX0 4 (kd3 Z.f19 Z.f20 Z.f21 k) (kd3 Z.d19 Z.d20 Z.d21 k) ["self","fall","held"] (qV Z.K (kd3 Z.c_Piece Z.c_Push Z.c_Hold) k):=jG (R19) (R20) (R21)
theorem bS:∀k:Kd,aM Z.K (kd3 Z.d19 Z.d20 Z.d21 k) ["self","fall","held"] []:=jG (b19) (b20) (b21)
theorem mS:∀k:Kd,eI Z.K (kd3 Z.c_Piece Z.c_Push Z.c_Hold k) ("stream") (kd3 Z.f19 Z.f20 Z.f21 k):=jG (⟨a19_0,i19,F19.kp⟩) (⟨a20_0,i20,F20.kp⟩) (⟨a21_0,i21,F21.kp⟩)
theorem X1:D9 Z.P Z.w Z.K Z.mg ZB 2 Z.f9 Z.d9 ["thing"] (Jo Z.K) "is_fraction":=⟨Dc Y9.G,Y9.b,F9.kp,m9⟩
theorem Y22:DZ 3 Z.f22 Z.d22 ["thing"] (Yu Z.K) "is_piece_size":=by
 refine⟨?_,F22.b1 _ (by intros;rfl),F22.kp,m22⟩
 refine F22.ok9 ql8 fun _ _ _ s H _ Q E hr h=>?_;obtain⟨a,p,n,rfl,fa,hp,h0,hb,hn,q⟩:=h;have r1:=hr.mono (show 1<=2 by lia);refine⟨_,(aF (aW (qD (d9 X1 hr rfl (aA (pv 0) aC)) (tS (d9 Y3 r1 rfl (aA (cT (v:=.ref Z.aN) rfl mv_NOUGHT rfl) (aA (pv 0) aC))))))),?_⟩;refine⟨_,rfl,a,p,rfl,fa,hp,_,rfl,hJ ⟨_,rfl,Z.aN,a,_,p,1,n,rfl,fN _,fa,⟨show (0:Nat) < 2 ^ 1 by decide,show (1:Nat) < 2 ^ 1 by decide⟩,hb,by lia,?_⟩⟩;rw[decide_eq_true (show (0:Int)*p.2 < p.1*1 by lia)];exact q
theorem Y23:DZ 2 Z.f23 Z.d23 ["thing","bound"] Vv "is_number_below":=by
 refine⟨?_,F23.b2 _ _ (by intros;rfl),F23.kp,m23⟩
 refine F23.ok9 qm0 fun _ _ _ s H _ Q E hr h=>?_;obtain⟨i,b',rfl,h0,h1,q⟩:=h;refine⟨_,(aF (aW (qD (d9 Y1 hr rfl (aA (pv 0) aC)) (qD (jK Ng (pv 0) aE (bK _)) (tS (jK tP (pv 0) (pv 1) (bK _))))))),?_⟩;refine⟨_,rfl,_,rfl,.inl ⟨i,rfl,_,rfl,hJ ⟨_,rfl,_,_,rfl,rfl,_,rfl,ifT (decide_eq_true h0) ⟨_,rfl,_,rfl,_,_,rfl,rfl,?_⟩⟩⟩⟩;show Q (.bl (decide (i < b'))) H;rw[decide_eq_true h1];exact q
theorem Y24:DZ 4 Z.f24 Z.d24 ["word","size"] (Ty Z.K) "refuse_size":=by
 refine⟨?_,F24.b2 _ _ (by intros;rfl),F24.kp,m24⟩
 refine F24.ok9 qm8 fun _ _ _ s H _ Q E hr h=>?_;obtain⟨k,z,p,rfl,fz,hp,h0,hb,q⟩:=h;have r2:=hr.mono (show 2<=3 by lia);refine⟨_,(aB (cG (gX (fF (d9 X1 r2 rfl (aA (pv 1) aC)))) (aF fK) bN)
  (aF (cG (PW.pt (vY (bC eV (pv 0) cF (bK _)) (oW (gX (fF (d9 Y22 hr rfl (aA (pv 1) aC))))))) (aF fK) bN))),?_⟩
 refine⟨_,rfl,z,p,rfl,fz,hp,_,rfl,gL ?_⟩
 cases k
 ·exact⟨_,rfl,rfl,_,rfl,ifT (cP .pc .pc) ⟨_,rfl,z,p,_,rfl,fz,hp,h0 rfl,hb,by lia,_,rfl,gL q⟩⟩
 ·exact⟨_,rfl,rfl,_,rfl,ifF (cP .pu .pc) (gL q)⟩
 ·exact⟨_,rfl,rfl,_,rfl,ifF (cP .ho .pc) (gL q)⟩
theorem Y25:DZ 3 Z.f25 Z.d25 ["some","many"] (Xr Z.K) "refuse_points":=by
 refine⟨?_,F25.b2 _ _ (by intros;rfl),F25.kp,m25⟩
 refine F25.ok9 ql1 fun _ _ _ s H _ Q E hr h=>?_;obtain⟨l,i,j,m,rfl,hl,i0,i1,j0,j1,q⟩:=h;refine⟨_,(aF (cG (gX (fF (bZ (Rc rfl) rfl n_all PyProof.Rows.boot_all (aA (fH (nl:=1) (fr:=[1]) (Nc:=["point","many"]) (cl:=[("many",s.heap.objs.size+1)]) rfl ⟨rfl,rfl,by decide +kernel,by decide +kernel,fun x c h=>h,fG rfl,rfl,fun i n h=>match i,h with | 0,h=>by cases h;exact⟨1,rfl,rfl,rfl,rfl,.inl rfl⟩ | k+1,h=>by rw[show 1+(k+1)=k+2 by lia] at h;cases h⟩
    (dG (pv 0)) (fun _ _ _ _ _=>(bH (i:=0) wH rfl (Or.inl rfl))) (fun _ _ _ _ _=>fU)
    (fun _ _ _ _ _=>(d9 Y23 hr rfl (aA (pv 0) (aA (pv 1) aC))))) aC)))) (aF fK) bN)),?_⟩
 refine⟨_,rfl,l,rfl,⟨_,hl⟩,fun D hD=>?_⟩;have sD:=aI hD (.lst []);refine fB (xs:=[.int i,.int j]) (fun k zs H'=>aZ H H'/\H' D=some (.lst zs)/\zs=(replicate k true).map V.bl) ⟨sD,aD,rfl⟩ (fun k zs H' h=>h.2.1) (fun k zs H' _ h=>h.1.seq hl) ?_ ?_
 ·rintro k zs x H1 hx ⟨s1,e1,rfl⟩ C hC;have hk:k < 2:=(List.getElem?_eq_some_iff.mp hx).1;obtain⟨y,rfl,y0,y1⟩:∃y,x=.int y/\0<=y/\y < m:=by
   rcases mem_cons.mp (mem_of_getElem? hx) with z | z
   ·exact⟨i,z,i0,i1⟩
   ·exact⟨j,by simpa using z,j0,j1⟩
  refine⟨gF.1,gF.2,hJ ?_⟩;refine⟨_,rfl,_,rfl,y,m,rfl,y0,y1,e1,bO (by rw[length_map,length_replicate];lia),hC _ _ ⟨s1.change hD,aD,?_⟩⟩;rw[replicate_succ',map_append];rfl
 ·rintro zs H1 ⟨s1,e1,rfl⟩;refine⟨D,_,rfl,SqL.of e1,_,rfl,ifF ?_ ?_⟩
  ·simp
  ·exact q _ s1
theorem Y26:DZ 3 Z.f26 Z.d26 ["k","count"] Ot "refuse_number":=by
 refine⟨?_,F26.b2 _ _ (by intros;rfl),F26.kp,m26⟩
 refine F26.ok9 ql4 fun _ _ _ s H _ Q E hr h=>?_;obtain⟨k,c,rfl,u0,u1,q⟩:=h;refine⟨_,(aF (cG (gX (fF (d9 Y23 hr rfl (aA (pv 0) (aA (pv 1) aC))))) (aF fK) bN)),?_⟩;exact⟨_,rfl,_,rfl,k,c,rfl,u0,u1,_,rfl,gL q⟩
theorem R27:FZ CX0 2 Z.f27 Z.d27 ["self","many"] (sH Z.c_Net):=by
 refine F27.ok9 Tw fun _ _ _ s H _ Q E hr h=>?_;obtain⟨n,dx,m,rfl,hn,h1,h20,q⟩:=h;refine⟨_,(aB (cG (PW.pt (pJ (gX (fF (d9 Y1 hr rfl (aA (pv 1) aC)))) (pJ (bC tP (pv 1) aE (bK _)) (nY (bC Ho (pv 1) (cT (v:=.int 20) rfl mv_MOST_POINTS ⟨_,rfl⟩) (bK _)))))) (aF fK) bN)
  (aB (iB (pv 0) (pv 1) rfl)
  (aF (iB (pv 0) (cZ aC) rfl)))),?_⟩
 refine⟨_,rfl,_,rfl,.inl ⟨m,rfl,_,rfl,gL ⟨_,rfl,_,_,rfl,rfl,_,rfl,ifF (decide_eq_false (by lia)) ⟨_,rfl,_,_,rfl,rfl,_,rfl,ifF (decide_eq_false (by lia)) ?_⟩⟩⟩⟩;refine⟨_,rfl,_,rfl,n,Z.c_Net,dx,[],rfl,hn,NTx.cl,NTx.nP,(by show 0 < 1000;decide),?_⟩;refine⟨zl9 0,fun l hl=>?_⟩;have nl:n≠l:=fun z=>by subst z;rw[aD] at hl;cases hl
 have hl0:H l=none:=by rw[aY (Ne.symm nl)] at hl;exact hl
 have l1:=dR ("point_count":Str) (.int m) [];simp only[length_nil] at l1;refine⟨_,rfl,n,Z.c_Net,dx,cQ "point_count" (.int m) [],rfl,by rw[aY nl];exact aD,NTx.cl,NTx.nK,by lia,?_⟩;refine q l _ hl0 (fun b o e hb=>?_) aD (by rw[aY (Ne.symm nl)];exact aD);rw[aY hb,aY (aU e hl0),aY hb];exact e
theorem R28:FZ CX0 1 Z.f28 Z.d28 ["self"] (oE Z.c_Net Z.K):=by
 refine F28.ok9 qc8 fun _ _ _ s H _ Q E hr h=>?_;obtain⟨n,l,m,ds,rfl,⟨⟨dx,hn⟩,ts,hl,hr'⟩,q⟩:=h;exact⟨_,(aF (aW (bU (pv 0) rfl))),_,rfl,n,Z.c_Net,dx,_,_,rfl,hn,NTx.cl,NTx.nP,uY _ _,q⟩
theorem R29:FZ CX0 1 Z.f29 Z.d29 ["self"] (Jl Z.c_Net Z.K):=by
 refine F29.ok9 Vk fun _ _ _ s H _ Q E hr h=>?_;obtain⟨n,l,m,ds,rfl,⟨⟨dx,hn⟩,ts,hl,hr'⟩,q⟩:=h;refine⟨_,(aF (aW (jW gW rfl n_list PyProof.Rows.boot_list (aA (bU (pv 0) rfl) aC)))),_,rfl,n,Z.c_Net,dx,_,_,rfl,hn,NTx.cl,NTx.nK,eX _ _,l,ts,rfl,.inl (SqL.of hl),fun a ha=>?_⟩;have sa:=aI ha (.lst ts);exact q a ts _ sa ha aD (hr'.same sa)
theorem R30:FZ CX0 5 Z.f30 Z.d30 ["self","row"] (Nf Z.c_Net Z.K (kd3 Z.c_Piece Z.c_Push Z.c_Hold)):=by
 refine F30.ok9 Wq fun _ _ _ s H _ Q E hr h=>?_;obtain⟨n,l,x,z,m,ds,k,i,j,p,rfl,⟨⟨dx,hn⟩,ts,hl,hR⟩,rw,fz,⟨i0,i1,j0,j1,lp,h0,bp⟩,h40,q⟩:=h;have r2:=hr.mono (show 2<=4 by lia);have r3:=hr.mono (show 3<=4 by lia);refine⟨_,(aB (aS (i:=2) Wq.nd rfl (Or.inl rfl) (eJ (f:=fun _=>Z.f17) (fd:=fun _=>Z.d17) (sp:=fun _=>rY (kd3 Z.c_Piece Z.c_Push Z.c_Hold)) (pv 1) T.cl mT (fun _=>R17) r2 (fun _=>b17) .nil aK))
  (aB (bY (d9 Y25 r3 rfl (aA (cZ (aA (aQ aT (pv 2) aE (fun _ _=>rfl)) (aA (aQ aT (pv 2) aE (fun _ _=>rfl)) aC))) (aA (bU (pv 0) rfl) aC))))
  (aB (bY (d9 Y24 hr rfl (aA (aQ aT (pv 2) aE (fun _ _=>rfl)) (aA (aQ aT (pv 2) aE (fun _ _=>rfl)) aC))))
  (aB (cG (bC Ng (bZ bL rfl n_len PySem.boot_len (aA (bU (pv 0) rfl) aC)) (cT (v:=.int 40) rfl mv_MOST_ROWS ⟨_,rfl⟩) (bK _)) (aF fK) bN)
  (aB (bY (nT PySem.F.plainAttrs_list PySem.F.slot_list_append PySem.F.type_list_append fP (bU (pv 0) rfl) (aA (pv 2) aC)))
  (aF (aW (aX iN (bZ bL rfl n_len PySem.boot_len (aA (bU (pv 0) rfl) aC)) aE)))))))),?_⟩
 obtain⟨dr,hx⟩:=id rw;have len:=hR.length;refine⟨_,rfl,k,x,dr,_,rfl,hx,(cU _ _ _ (by decide +kernel) (by decide +kernel) (by decide +kernel)),x,k,_,_,_,rfl,rw,fun t ht=>?_⟩;have st:=aI ht (.tup [.str k.wd,.int i,.int j,.ref z]);have et:SqT Z.K (upd H t (.tup [.str k.wd,.int i,.int j,.ref z])) t [.str k.wd,.int i,.int j,.ref z]:=SqT.of aD;generalize upd H t (.tup [.str k.wd,.int i,.int j,.ref z])=H1a at st et ⊢;have hn1:=st _ _ hn;have hl1:=st _ _ hl;refine⟨_,rfl,t,_,1,_,rfl,rfl,et,rfl,_,rfl,t,_,2,_,rfl,rfl,et,rfl,zl9 2,fun lq hlq=>?_⟩;have sq:=aI hlq (.lst [.int i,.int j]);have eq:upd H1a lq (.lst [.int i,.int j]) lq=some (.lst [.int i,.int j]):=aD;generalize upd H1a lq (.lst [.int i,.int j])=H1b at sq eq ⊢;have hnb:=sq _ _ hn1;refine⟨_,rfl,n,Z.c_Net,dx,_,_,rfl,hnb,NTx.cl,NTx.nP,uY _ _,lq,i,j,m,rfl,SqL.of eq,i0,i1,j0,j1,fun H1 sc=>?_⟩;have sqc:=sq.trans sc;have st:=st.trans sqc;have et:=sqc.seqT et;have hn1:=sqc _ _ hn1;have hl1:=sqc _ _ hl1;refine⟨_,rfl,t,_,0,_,rfl,rfl,et,rfl,_,rfl,t,_,3,_,rfl,rfl,et,rfl,k,z,p,rfl,st.fq fz,lp,h0,bp,?_⟩;refine⟨_,rfl,n,Z.c_Net,dx,_,_,rfl,hn1,NTx.cl,NTx.nK,eX _ _,l,ts,rfl,.inl (SqL.of hl1),_,_,rfl,rfl,_,rfl,ifF (decide_eq_false (by lia)) ?_⟩;refine⟨_,rfl,n,Z.c_Net,dx,_,_,rfl,hn1,NTx.cl,NTx.nK,eX _ _,.inl ⟨rfl,_,SqL.of hl1⟩,_,rfl,l,ts,.ref t,rfl,rfl,hl1,bO (by lia),?_⟩;have nn:n≠l:=dL hn1 hl1 (fun z=>by cases z);have hn2:upd H1 l (.lst (ts++[.ref t])) n=some (.ins Z.c_Net dx (gR m l)):=by rw[aY nn];exact hn1
 have hl2:upd H1 l (.lst (ts++[.ref t])) l=some (.lst (ts++[.ref t])):=aD;refine⟨_,rfl,n,Z.c_Net,dx,_,_,rfl,hn2,NTx.cl,NTx.nK,eX _ _,l,_,rfl,.inl (SqL.of hl2),_,_,rfl,rfl,?_⟩;show Q (.int (((ts++[V.ref t]).length:Int) - 1)) _;rw[List.length_append,length_singleton,len,show (((ds.length+1:Nat):Int) - 1)=(ds.length:Int) by lia];refine q _ (st.x.write) ⟨⟨dx,hn2⟩,_,hl2,Rts.upd hl1 ((hR.same st).app (.cons et (st.fq fz) .nil))⟩
theorem R31:FZ CX0 5 Z.f31 Z.d31 ["self","k","size"] (vZ Z.c_Net Z.K):=by
 refine F31.ok9 Dm fun _ _ _ s H _ Q E hr h=>?_;obtain⟨n,l,z,m,q',ds,k,i,j,p0,p,rfl,⟨⟨dx,hn⟩,ts,hl,hR⟩,q0,hq,fz,lp,h0,bp,q⟩:=h;have r2:=hr.mono (show 3<=4 by lia);refine⟨_,(aB (bY (d9 Y26 r2 rfl (aA (pv 1) (aA (bZ bL rfl n_len PySem.boot_len (aA (bU (pv 0) rfl) aC)) aC))))
  (aB (aS (i:=3) Dm.nd rfl (Or.inl rfl) (aQ bG (bU (pv 0) rfl) (pv 1) (fun _ _=>rfl)))
  (aB (bY (d9 Y24 hr rfl (aA (aQ aT (pv 3) aE (fun _ _=>rfl)) (aA (pv 2) aC))))
  (aF (kW (dS (aA (aQ aT (pv 3) aE (fun _ _=>rfl)) (aA (aQ aT (pv 3) aE (fun _ _=>rfl)) (aA (aQ aT (pv 3) aE (fun _ _=>rfl)) (aA (pv 2) aC))))) (oF (bU (pv 0) rfl) (pv 1) jC)))))),?_⟩
 have len:=hR.length;have lt:q'.toNat < ds.length:=(List.getElem?_eq_some_iff.mp hq).1;obtain⟨t,z0,et,ht,_⟩:=hR.at hq;have at_:atI ts q'=some (.ref t):=by
  have:=bX et
  rwa [show ((q'.toNat:Nat):Int)=q' by lia] at this
 have ix_:ixN ts.length q'=some q'.toNat:=by
  have:=kD (n:=ts.length) (k:=q'.toNat) (by lia)
  rwa [show ((q'.toNat:Nat):Int)=q' by lia] at this
 refine⟨_,rfl,_,rfl,n,Z.c_Net,dx,_,_,rfl,hn,NTx.cl,NTx.nK,eX _ _,l,ts,rfl,.inl (SqL.of hl),q',_,rfl,q0,by lia,?_⟩;refine⟨_,rfl,n,Z.c_Net,dx,_,_,rfl,hn,NTx.cl,NTx.nK,eX _ _,_,rfl,l,ts,q',_,rfl,rfl,SqL.of hl,at_,?_⟩;refine⟨_,rfl,t,_,0,_,rfl,rfl,ht,rfl,_,rfl,k,z,p,rfl,fz,lp,h0,bp,?_⟩;refine⟨_,rfl,t,_,0,_,rfl,rfl,ht,rfl,_,rfl,t,_,1,_,rfl,rfl,ht,rfl,_,rfl,t,_,2,_,rfl,rfl,ht,rfl,_,rfl,zl9 4,fun u hu=>?_⟩;have su:=aI hu (.tup [.str k.wd,.int i,.int j,.ref z]);have eu:SqT Z.K (upd H u (.tup [.str k.wd,.int i,.int j,.ref z])) u [.str k.wd,.int i,.int j,.ref z]:=SqT.of aD;generalize upd H u (.tup [.str k.wd,.int i,.int j,.ref z])=H1 at su eu ⊢;have hn1:=su _ _ hn;have hl1:=su _ _ hl;refine⟨_,rfl,n,Z.c_Net,dx,_,_,rfl,hn1,NTx.cl,NTx.nK,eX _ _,_,rfl,l,ts,q',q'.toNat,rfl,rfl,hl1,ix_,?_⟩;have nn:n≠l:=dL hn1 hl1 (fun z=>by cases z);refine q _ (su.x.write) ⟨⟨dx,by rw[aY nn];exact hn1⟩,_,aD,Rts.upd hl1 (Rts.set eu (su.fq fz) _ (hR.same su))⟩
theorem R32:FZ CX0 4 Z.f32 Z.d32 ["self"] (kM Z.c_Net Z.K (kd3 Z.c_Piece Z.c_Push Z.c_Hold)):=by
 refine F32.ok9 qc2 fun _ _ _ s H _ Q E hr h=>?_;obtain⟨n,l,m,ds,rfl,⟨⟨dx,hn⟩,ts,hl,hR⟩,h100,q⟩:=h;refine⟨_,(aF (aW (fH (nl:=1) (fr:=[]) (Nc:=["told"]) (cl:=[]) rfl ⟨rfl,rfl,by decide +kernel,by decide +kernel,fun x c h=>(by cases h),fG rfl,rfl,fun i n h=>(by simp at h)⟩
    (dG (bU (pv 0) rfl)) (fun _ _ _ _ _=>(bH (i:=0) Tx rfl (Or.inl rfl))) (fun _ _ _ _ _=>fU)
    (fun _ _ _ _ _=>(d9 Y18 hr rfl (aA (pv 0) aC)))))),?_⟩
 have len:=hR.length;refine⟨_,rfl,n,Z.c_Net,dx,_,_,rfl,hn,NTx.cl,NTx.nK,eX _ _,l,rfl,⟨_,SqL.of hl⟩,fun D hD=>?_⟩;have sD:=aI hD (.lst []);refine fB (xs:=ts) (fun i zs H'=>aZ H H'/\H' D=some (.lst zs)/\hV (kd3 Z.c_Piece Z.c_Push Z.c_Hold) Z.K H' zs (ds.take i)) ⟨sD,aD,.nil⟩ (fun i zs H' h=>h.2.1) (fun i zs H' _ h=>h.1.seq (SqL.of hl)) ?_ ?_
 ·rintro i zs x H1 hx ⟨s1,e1,R1⟩ C hC;have hi:i < ds.length:=by
   have:=(List.getElem?_eq_some_iff.mp hx).1;lia
  obtain⟨⟨k,u,v,p⟩,hd⟩:∃d,ds[i]?=some d:=⟨_,getElem?_eq_getElem hi⟩
  obtain⟨t,z,et,ht,fz⟩:=hR.at hd;have ex:x=.ref t:=by rw[et] at hx;exact(Option.some.inj hx).symm
  subst ex;have lz:=R1.length;rw[length_take] at lz;refine⟨gF.1,gF.2,hJ ?_⟩;refine⟨_,rfl,t,_,_,_,_,rfl,s1.seqT ht,k,rfl,fun y H2 s2 ny rw=>?_⟩;have e2:=s2 _ _ e1;refine⟨e2,bO (by lia),hC _ _ ⟨(s1.trans s2).change hD,aD,?_⟩⟩;rw[take_add_one,hd];exact hV.upd e2 ((R1.same s2).app (.cons rw ((s1.trans s2).fq fz) .nil))
 ·rintro zs H1 ⟨s1,e1,R1⟩;rw[len,take_length] at R1;exact q D zs H1 s1 hD e1 R1
theorem Y33:DZ 4 Z.f33 Z.d33 ["row","heights"] (tI Z.K (kd3 Z.c_Piece Z.c_Push Z.c_Hold)) "fall_of":=by
 refine⟨?_,F33.b2 _ _ (by intros;rfl),F33.kp,m33⟩
 refine F33.ok9 Ze fun cdv A outer s H vs Q E hr h=>?_;obtain⟨x,a,⟨k,i,j,p⟩,z,xs,hp,n,rfl,rw,st,pt,q⟩:=h;refine⟨_,(aF (aW (d9 Y5 hr rfl (aA (aQ bG (pv 1) (bU (pv 0) rfl) (fun _ _=>rfl)) (aA (aQ bG (pv 1) (bU (pv 0) rfl) (fun _ _=>rfl)) aC))))),?_⟩;obtain⟨dx,hx⟩:=id rw;obtain⟨i0,i1,j0,j1⟩:cX (n:Int) i j:=pt;have hl:=st.l;have ai:=uT (ps:=hp) (j:=i.toNat) (by lia);have aj:=uT (ps:=hp) (j:=j.toNat) (by lia);obtain⟨u,eu,fu⟩:=st.f.at ai;obtain⟨v,ev,fv⟩:=st.f.at aj;have ti:atI xs i=some (.ref u):=by
  have:=bX eu
  rwa [show ((i.toNat:Nat):Int)=i by lia] at this
 have tj:atI xs j=some (.ref v):=by
  have:=bX ev
  rwa [show ((j.toNat:Nat):Int)=j by lia] at this
 refine⟨_,rfl,_,rfl,x,(kd3 Z.c_Piece Z.c_Push Z.c_Hold) _,_,_,_,rfl,hx,T.cl _,T.nS _,dH _ _ _,a,xs,_,_,rfl,rfl,st.s,ti,?_⟩;refine⟨_,rfl,_,rfl,x,(kd3 Z.c_Piece Z.c_Push Z.c_Hold) _,_,_,_,rfl,hx,T.cl _,T.nG _,dX _ _ _,a,xs,_,_,rfl,rfl,st.s,tj,?_⟩;have bi:=st.b _ (mem_of_getElem? ai);have bj:=st.b _ (mem_of_getElem? aj);exact⟨u,v,_,_,3900,3900,rfl,fu,fv,bi.1.pos,bj.1.pos,bi.2,bj.2,by lia,q⟩
theorem Y34:DZ 1 Z.f34 Z.d34 ["marks","row"] (tV Z.K (kd3 Z.c_Piece Z.c_Push Z.c_Hold)) "joined":=by
 refine⟨?_,F34.b2 _ _ (by intros;rfl),F34.kp,m34⟩
 refine F34.ok9 vB fun _ _ _ s H _ Q E hr h=>?_;obtain⟨a,x,ms,k,s0,g0,z,rfl,hS,rw,hs,hg,h100,q⟩:=h;refine⟨_,(aB (aS (i:=2) vB.nd rfl (Or.inr rfl) (aQ bG (pv 0) (bU (pv 1) rfl) (fun _ _=>rfl)))
  (aB (aS (i:=3) vB.nd rfl (Or.inr rfl) (aQ bG (pv 0) (bU (pv 1) rfl) (fun _ _=>rfl)))
  (aF (aW (fH (nl:=1) (fr:=[3,2]) (Nc:=["mark","lost","kept"]) (cl:=[("lost",s.heap.objs.size+2),("kept",s.heap.objs.size+1)]) rfl ⟨rfl,rfl,by decide +kernel,by decide +kernel,(cY rfl (cY rfl (iS))),fG rfl,rfl,fun i n h=>match i,h with | 0,h=>by cases h;exact⟨3,rfl,rfl,rfl,rfl,.inl rfl⟩ | 1,h=>by cases h;exact⟨2,rfl,rfl,rfl,rfl,.inl rfl⟩ | k+2,h=>by rw[show 1+(k+2)=k+3 by lia] at h;cases h⟩
    (dG (pv 0)) (fun _ _ _ _ _=>(bH (i:=0) pC rfl (Or.inl rfl))) (fun _ _ _ _ _=>fU)
    (fun _ _ _ _ _=>(kZ (bC eV (pv 0) (pv 1) (bK _)) (pv 2) (pv 0)))))))),?_⟩
 obtain⟨dx,hx⟩:=id rw;have gi:∀{j:Nat},j < ms.length->atI (ms.map V.int) (j:Int)=some (.int (ms.getD j 0)):=fun h=>bX (by rw[getElem?_map,getElem?_eq_getElem h,getD_eq_getElem?_getD,getElem?_eq_getElem h];rfl);refine⟨_,rfl,_,rfl,x,(kd3 Z.c_Piece Z.c_Push Z.c_Hold) _,_,_,_,rfl,hx,T.cl _,T.nS _,dH _ _ _,a,_,_,_,rfl,rfl,hS,gi hs,?_⟩;refine⟨_,rfl,_,rfl,x,(kd3 Z.c_Piece Z.c_Push Z.c_Hold) _,_,_,_,rfl,hx,T.cl _,T.nG _,dX _ _ _,a,_,_,_,rfl,rfl,hS,gi hg,?_⟩;refine⟨_,rfl,a,rfl,⟨_,hS⟩,fun D hD=>?_⟩;have sD:=aI hD (.lst []);refine fB (xs:=ms.map V.int) (fun i zs H'=>aZ H H'/\H' D=some (.lst zs)/\zs=((jn ms s0 g0).take i).map V.int) ⟨sD,aD,rfl⟩ (fun i zs H' h=>h.2.1) (fun i zs H' _ h=>h.1.seq hS) ?_ ?_
 ·rintro i zs x H1 hx' ⟨s1,e1,rfl⟩ C hC;rw[getElem?_map] at hx';obtain⟨c,hc,rfl⟩:=Option.map_eq_some_iff.mp hx';have hi:i < ms.length:=(List.getElem?_eq_some_iff.mp hc).1;have ej:(jn ms s0 g0)[i]?=some (if c=ms.getD g0 0 then ms.getD s0 0 else c):=by unfold jn;rw[getElem?_map,hc];rfl
  have lj:(jn ms s0 g0).length=ms.length:=by unfold jn;rw[length_map]
  refine⟨gF.1,gF.2,hJ ?_⟩;refine⟨_,rfl,_,rfl,rfl,_,rfl,?_⟩
  by_cases h:c=ms.getD g0 0
  ·rw[if_pos h] at ej;refine ifT (decide_eq_true (by rw[h])) ⟨_,rfl,e1,bO (by rw[length_map,length_take];lia),hC _ _ ⟨s1.change hD,aD,?_⟩⟩;rw[take_add_one,ej,map_append];rfl
  ·rw[if_neg h] at ej;refine ifF (decide_eq_false (fun z=>h (by injection z))) ⟨_,rfl,e1,bO (by rw[length_map,length_take];lia),hC _ _ ⟨s1.change hD,aD,?_⟩⟩;rw[take_add_one,ej,map_append];rfl
 ·rintro zs H1 ⟨s1,e1,rfl⟩;have lj:(jn ms s0 g0).length=ms.length:=by unfold jn;rw[length_map]
  rw[length_map,<- lj,take_length] at e1;exact q D H1 s1 hD e1
theorem X2:eI Z.K Z.c_Net "many" Z.f28:=⟨a28_0,i28,F28.kp⟩
theorem X3:eI Z.K Z.c_Net "rows" Z.f32:=⟨a32_0,i32,F32.kp⟩
theorem Y35:DZ 5 Z.f35 Z.d35 ["net"] (Ak Z.c_Net Z.K) "marks_of":=by
 refine⟨?_,F35.b1 _ (by intros;rfl),F35.kp,m35⟩
 refine F35.ok9 rX fun _ _ _ s H _ Q E hr h=>?_;obtain⟨n,l,m,ds,rfl,nt,pt,hm,h100,q⟩:=h;have r1:=hr.mono (show 1<=4 by lia);refine⟨_,(aB (aS (i:=1) rX.nd rfl (Or.inl rfl) (pO rfl rfl n_list rfl n_range (aA (cA (pv 0) NTx.cl X2 R28 r1 b28 .nil aK) aC)))
  (aB (fC PassesOwn.never rfl (dG (cA (pv 0) NTx.cl X3 R32 hr b32 .nil aK)) (bH (i:=2) rX.nd rfl (Or.inl rfl))
   (aF (cG (fF (eJ (pv 2) T.cl mJ GJ r1 bJ .nil aK)) (aF (aS (i:=1) rX.nd rfl (Or.inl rfl) (d9 Y34 r1 rfl (aA (pv 1) (aA (pv 2) aC))))) bN)))
  (aF (aW (pv 1))))),?_⟩
 obtain⟨dx,hn⟩:=nt.ob;refine⟨_,rfl,n,dx,_,rfl,hn,dA _ _ (by decide +kernel) (by decide +kernel),n,l,_,ds,rfl,nt,m,rfl,by lia,fun D hD=>?_⟩;have sD:=aI hD (.lst ((List.range m).map fun (i:Nat)=>V.int (i:Int)));have eD:upd H D (.lst ((List.range m).map fun (i:Nat)=>V.int (i:Int))) D=some (.lst ((mks m (ds.take 0)).map V.int)):=by
  rw[aD];show some (HO.lst _)=some (HO.lst ((Kp m).map V.int));unfold Kp;rw[map_map];rfl
 generalize upd H D (.lst ((List.range m).map fun (i:Nat)=>V.int (i:Int)))=H1 at sD eD ⊢;refine⟨_,rfl,n,dx,_,rfl,sD _ _ hn,dA _ _ (by decide +kernel) (by decide +kernel),n,l,_,ds,rfl,nt.same sD,h100,fun a xs H2 s2 na ea Rb=>?_⟩;have lxs:=Rb.length;refine⟨a,rfl,⟨_,SqL.of ea⟩,?_⟩;refine gH (xs:=xs) (fun i σ H'=>aZ H2 H'/\∃(c:Addr) (z:Option V),σ=[some (.ref n),some (.ref c),z]/\H c=none/\H' c=some (.lst ((mks m (ds.take i)).map V.int))) ⟨aZ.refl _,D,none,rfl,hD,s2 _ _ eD⟩ (fun i σ H' _ h=>h.1.seq (SqL.of ea)) ?_ ?_
 ·rintro i x σ H3 hx ⟨s3,c,z,rfl,nc,ec⟩;have hi:i < ds.length:=by
   have:=(List.getElem?_eq_some_iff.mp hx).1;lia
  obtain⟨⟨k,u,v,p⟩,hd⟩:∃d,ds[i]?=some d:=⟨_,getElem?_eq_getElem hi⟩
  obtain⟨y,z',ey,rw,fz⟩:=Rb.at hd;have ex:x=.ref y:=by rw[ey] at hx;exact(Option.some.inj hx).symm
  subst ex;have rw3:=rw.same s3;obtain⟨dr,hy⟩:=id rw3;have et:ds.take (i+1)=ds.take i++[(k,u,v,p)]:=by rw[take_add_one,hd];rfl
  obtain⟨u0,u1,v0,v1⟩:cX (m:Int) u v:=pt _ (mem_of_getElem? hd);refine⟨_,rfl,k,y,dr,_,rfl,hy,(cU _ _ _ (by decide +kernel) (by decide +kernel) (by decide +kernel)),_,rfl,_,rfl,?_⟩
  by_cases hk:k=.pu
  ·refine ifF (decide_eq_false (fun z=>z hk)) ⟨s3,c,_,rfl,nc,?_⟩;rw[et,oV];unfold iY;rw[if_pos hk];exact ec
  ·refine ifT (decide_eq_true hk) ⟨_,rfl,_,rfl,c,y,mks m (ds.take i),k,u.toNat,v.toNat,.ref z',rfl,SqL.of ec,?_,by rw[pN];lia,by rw[pN];lia,by rw[pN];lia,fun c' H4 s4 nc' ec'=>⟨s3.trans s4,c',_,rfl,?_,?_⟩⟩
   ·rw[show ((u.toNat:Nat):Int)=u by lia,show ((v.toNat:Nat):Int)=v by lia];exact rw3
   ·exact((sD.trans s2).trans s3).free nc'
   ·rw[et,oV];unfold iY;rw[if_neg hk];exact ec'
 ·rintro σ H3 ⟨s3,c,z,rfl,nc,ec⟩;rw[show ds.take xs.length=ds by rw[lxs,take_length]] at ec;exact⟨_,rfl,q c H3 ((sD.trans s2).trans s3) nc ec⟩
theorem Y36:DZ 6 Z.f36 Z.d36 ["net"] (zR Z.c_Net Z.K) "floating":=by
 refine⟨?_,F36.b1 _ (by intros;rfl),F36.kp,m36⟩
 refine F36.ok9 Jb fun _ _ _ s H _ Q E hr h=>?_;obtain⟨n,l,m,ds,rfl,nt,pt,h1,hm,h100,q⟩:=h;refine⟨_,(aB (aS (i:=1) Jb.nd rfl (Or.inr rfl) (d9 Y35 hr rfl (aA (pv 0) aC)))
  (aF (aW (fH (nl:=2) (fr:=[1]) (Nc:=["point","mark","marks"]) (cl:=[("marks",s.heap.objs.size+1)]) (g:=(Ed Z.K 2 (jU (iX 0) (jU (iX 1) Gp)))) rfl ⟨rfl,rfl,by decide +kernel,by decide +kernel,fun x c h=>h,fG rfl,rfl,fun i n h=>match i,h with | 0,h=>by cases h;exact⟨1,rfl,rfl,rfl,rfl,.inl rfl⟩ | k+1,h=>by rw[show 2+(k+1)=k+3 by lia] at h;cases h⟩
    (pI rfl n_enumerate rfl (aA (pv 1) aC)) (fun _ _ _ _ _=>(kF rfl (dB (bH (i:=0) iO rfl (Or.inl rfl)) (dB (bH (i:=1) iO rfl (Or.inl rfl)) iT)))) (fun _ _ _ _ _=>(pS (bC pY (pv 1) (aQ (jQ (K:=Z.K) rfl) (pv 2) aE (fun _ _=>rfl)) (bK _))))
    (fun _ _ _ _ _=>(pv 0)))))),?_⟩
 refine⟨_,rfl,n,l,m,ds,rfl,nt,pt,hm,h100,fun M H1 s1 nM eM=>?_⟩;have mlen:=pN m ds;have hS:SqL Z.K H1 M ((mks m ds).map V.int):=SqL.of eM;refine⟨_,rfl,M,rfl,⟨_,hS⟩,fun D hD=>?_⟩;have sD:=aI hD (.lst []);refine qO (xs:=(mks m ds).map V.int) (fun i zs H'=>aZ H1 H'/\H' D=some (.lst zs)/\zs=(((List.range i).filter fun p=>decide (mk m ds p≠mk m ds 0)).map fun (p:Nat)=>V.int (p:Int))) ⟨sD,aD,rfl⟩ (fun i zs H' h=>h.2.1) (fun i zs H' _ h=>h.1.seq hS) ?_ ?_
 ·rintro i zs x H2 T2 hx ⟨s2,e2,rfl⟩ hT C hC;rw[getElem?_map] at hx;obtain⟨c,hc,rfl⟩:=Option.map_eq_some_iff.mp hx;have hi:i < m:=by have:=(List.getElem?_eq_some_iff.mp hc).1;lia
  have ec:c=mk m ds i:=by unfold mk;rw[getD_eq_getElem?_getD,hc];rfl
  have g0:atI ((mks m ds).map V.int) 0=some (.int (mk m ds 0)):=bX (j:=0) (by unfold mk;rw[getElem?_map,getElem?_eq_getElem (by lia),getD_eq_getElem?_getD,getElem?_eq_getElem (by lia)];rfl);have ll:(((List.range i).filter fun p=>decide (mk m ds p≠mk m ds 0)).map fun (p:Nat)=>V.int (p:Int)).length<=20:=by
   rw[length_map];have:=length_filter_le (fun p=>decide (mk m ds p≠mk m ds 0)) (List.range i);rw[length_range] at this;lia
  have sT:=aI hT (.tup [.int (i:Int),.int c]);refine⟨T2,_,rfl,SqT.of aD,rfl,_,_,rfl,_,_,rfl,rfl,kO.1,kO.2,?_⟩;generalize upd H2 T2 (.tup [.int (i:Int),.int c])=H3 at sT ⊢;have s3:=s2.trans sT;have e3:=sT _ _ e2;refine⟨_,rfl,_,rfl,M,_,_,_,rfl,rfl,s3.seq hS,g0,rfl,_,rfl,?_⟩;subst ec
  by_cases h:mk m ds i=mk m ds 0
  ·refine ifF (by rw[h];simp) (hC _ _ ⟨s3,e3,?_⟩);rw[range_succ,filter_append,filter_cons_of_neg (by simp[h])];simp
  ·refine ifT (by simp[h]) ⟨_,rfl,e3,bO (by lia),hC _ _ ⟨s3.change hD,aD,?_⟩⟩;rw[range_succ,filter_append,filter_cons_of_pos (by simp[h]),map_append];rfl
 ·rintro zs H2 ⟨s2,e2,rfl⟩;refine q D H2 (s1.trans s2) (s1.free hD) ?_;rw[length_map,mlen] at e2;rw[e2];unfold Kw;rw[map_map];rfl
theorem Y37:DZ 1 Z.f37 Z.d37 ["rows","numbers","point"] (Ad Z.K (kd3 Z.c_Piece Z.c_Push Z.c_Hold)) "steps_from":=by
 refine⟨?_,F37.b3 _ _ _ (by intros;rfl),F37.kp,m37⟩
 refine F37.ok9 sQ fun _ _ _ s H _ Q E hr h=>?_;obtain⟨a,b,xs,ds,es,p,rfl,hA,Rb,hB,hE,h100,q⟩:=h;refine⟨_,(aB (aS (i:=3) sQ.nd rfl (Or.inl rfl) (cZ aC))
  (aB (fC PassesOwn.never rfl (dG (pv 1)) (bH (i:=4) sQ.nd rfl (Or.inl rfl))
   (aB (aS (i:=5) sQ.nd rfl (Or.inl rfl) (aQ bG (pv 0) (pv 4) (fun _ _=>rfl)))
  (aF (cG (bC eV (bU (pv 5) rfl) (pv 2) (bK _)) (aF (bY (nT PySem.F.plainAttrs_list PySem.F.slot_list_append PySem.F.type_list_append fP (pv 3) (aA (dS (aA (dS (aA (pv 4) (aA aE aC))) (aA (bU (pv 5) rfl) aC))) aC)))) (aF (cG (bC eV (bU (pv 5) rfl) (pv 2) (bK _)) (aF (bY (nT PySem.F.plainAttrs_list PySem.F.slot_list_append PySem.F.type_list_append fP (pv 3) (aA (dS (aA (dS (aA (pv 4) (aA (Md Ew aE) aC))) (aA (bU (pv 5) rfl) aC))) aC)))) bN))))))
  (aF (aW (pv 3))))),?_⟩
 refine⟨zl9 0,fun l hl=>?_⟩;have s1:=aI hl (.lst []);have e1:upd H l (.lst []) l=some (.lst []):=aD;generalize upd H l (.lst [])=H1 at s1 e1 ⊢;refine⟨_,rfl,b,rfl,⟨_,s1.seq hB⟩,?_⟩;refine gH (xs:=es.map fun (e:Br)=>V.int ((e.1:Nat):Int)) (fun i σ H'=>aZ H H'/\∃(ys:List V) (z4 z5:Option V),σ=[some (.ref a),some (.ref b),some (.int (p:Int)),some (.ref l),z4,z5]/\H' l=some (.lst ys)/\Sds Z.K H' ys (stF (es.take i) p)) ⟨s1,[],none,none,rfl,e1,.nil⟩ (fun i σ H' _ h=>h.1.seq hB) ?_ ?_
 ·rintro i x σ H2 hx ⟨s2,ys,z4,z5,rfl,e2,S2⟩;rw[getElem?_map] at hx;obtain⟨e,he,rfl⟩:=Option.map_eq_some_iff.mp hx;have hi:i < es.length:=(List.getElem?_eq_some_iff.mp he).1;obtain⟨⟨k,u,v,q'⟩,hd,eu,ev⟩:=hE e (mem_of_getElem? he);have eu:u=(e.2.1:Int):=eu;have ev:v=(e.2.2:Int):=ev;subst eu;subst ev;obtain⟨y,z,ey,rw0,fz⟩:=Rb.at hd;have rw2:=rw0.same s2;obtain⟨dx,hx2⟩:=id rw2;have at_:atI xs (e.1:Int)=some (.ref y):=bX ey;have ly:ys.length<=es.length:=by
   have h1:=S2.length;have h2:(stF (es.take i) p).length<=(es.take i).length:=length_filterMap_le _ _;rw[length_take] at h2;lia
  refine⟨_,rfl,_,rfl,a,xs,_,_,rfl,rfl,s2.seq hA,at_,?_⟩;refine⟨_,rfl,y,(kd3 Z.c_Piece Z.c_Push Z.c_Hold) _,_,_,_,rfl,hx2,T.cl _,T.nS _,dH _ _ _,_,rfl,rfl,_,rfl,?_⟩
  by_cases c1:e.2.1=p
  ·have tk:stF (es.take (i+1)) p=stF (es.take i) p++[((e.1,1),e.2.2)]:=by
    unfold stF;rw[take_add_one,he,filterMap_append];show _++[e].filterMap _=_;rw[filterMap_cons,if_pos c1];rfl
   refine ifT (decide_eq_true (by rw[c1])) ?_;refine⟨_,rfl,.inl ⟨rfl,_,SqL.of e2⟩,_,rfl,zl9 2,fun u hu'=>?_⟩;have su:=aI hu' (.tup [.int (e.1:Int),.int (1)]);have eu:SqT Z.K (upd H2 u (.tup [.int (e.1:Int),.int (1)])) u [.int (e.1:Int),.int (1)]:=SqT.of aD;generalize upd H2 u (.tup [.int (e.1:Int),.int (1)])=H3 at su eu ⊢;obtain⟨dx3,hx3⟩:=id (rw2.same su);refine⟨_,rfl,y,(kd3 Z.c_Piece Z.c_Push Z.c_Hold) _,_,_,_,rfl,hx3,T.cl _,T.nG _,dX _ _ _,zl9 2,fun t ht=>?_⟩;rw[show (k,(e.2.1:Int),(e.2.2:Int),q').2.2.1=(e.2.2:Int) from rfl];have st:=aI ht (.tup [.ref u,.int (e.2.2:Int)]);have et:SqT Z.K (upd H3 t (.tup [.ref u,.int (e.2.2:Int)])) t [.ref u,.int (e.2.2:Int)]:=SqT.of aD;generalize upd H3 t (.tup [.ref u,.int (e.2.2:Int)])=H4 at st et ⊢;have s24:=su.trans st;have e4:=s24 _ _ e2;refine⟨l,_,_,rfl,rfl,e4,bO (by lia),⟨(s2.trans s24).change hl,_,_,_,rfl,aD,?_⟩⟩;rw[tk];exact Sds.upd e4 ((S2.same s24).app (.cons et (st.seqT eu) .nil))
  ·refine ifF (decide_eq_false (fun z=>c1 (by have:(e.2.1:Int)=(p:Int):=(by injection z);lia))) ?_;refine⟨_,rfl,y,(kd3 Z.c_Piece Z.c_Push Z.c_Hold) _,_,_,_,rfl,hx2,T.cl _,T.nG _,dX _ _ _,_,rfl,rfl,_,rfl,?_⟩
   by_cases c2:e.2.2=p
   ·have tk:stF (es.take (i+1)) p=stF (es.take i) p++[((e.1,-1),e.2.1)]:=by
     unfold stF;rw[take_add_one,he,filterMap_append];show _++[e].filterMap _=_;rw[filterMap_cons,if_neg c1,if_pos c2];rfl
    refine ifT (decide_eq_true (by rw[c2])) ?_;refine⟨_,rfl,.inl ⟨rfl,_,SqL.of e2⟩,_,rfl,_,rfl,zl9 2,fun u hu'=>?_⟩;have su:=aI hu' (.tup [.int (e.1:Int),.int (-1)]);have eu:SqT Z.K (upd H2 u (.tup [.int (e.1:Int),.int (-1)])) u [.int (e.1:Int),.int (-1)]:=SqT.of aD;generalize upd H2 u (.tup [.int (e.1:Int),.int (-1)])=H3 at su eu ⊢;obtain⟨dx3,hx3⟩:=id (rw2.same su);refine⟨_,rfl,y,(kd3 Z.c_Piece Z.c_Push Z.c_Hold) _,_,_,_,rfl,hx3,T.cl _,T.nS _,dH _ _ _,zl9 2,fun t ht=>?_⟩;rw[show (k,(e.2.1:Int),(e.2.2:Int),q').2.1=(e.2.1:Int) from rfl];have st:=aI ht (.tup [.ref u,.int (e.2.1:Int)]);have et:SqT Z.K (upd H3 t (.tup [.ref u,.int (e.2.1:Int)])) t [.ref u,.int (e.2.1:Int)]:=SqT.of aD;generalize upd H3 t (.tup [.ref u,.int (e.2.1:Int)])=H4 at st et ⊢;have s24:=su.trans st;have e4:=s24 _ _ e2;refine⟨l,_,_,rfl,rfl,e4,bO (by lia),⟨(s2.trans s24).change hl,_,_,_,rfl,aD,?_⟩⟩;rw[tk];exact Sds.upd e4 ((S2.same s24).app (.cons et (st.seqT eu) .nil))
   ·have tk:stF (es.take (i+1)) p=stF (es.take i) p:=by
     unfold stF;rw[take_add_one,he,filterMap_append];show _++[e].filterMap _=_;rw[filterMap_cons,if_neg c1,if_neg c2];simp
    refine ifF (decide_eq_false (fun z=>c2 (by have:(e.2.2:Int)=(p:Int):=(by injection z);lia))) ⟨s2,ys,_,_,rfl,e2,?_⟩;rw[tk];exact S2
 rintro σ H2 ⟨s2,ys,z4,z5,rfl,e2,S2⟩;rw[length_map,take_length] at S2;exact⟨_,rfl,q l ys H2 s2 hl e2 S2⟩
theorem Y38:DZ 2 Z.f38 Z.d38 ["rows","numbers","begin","end"] (Nd Z.K (kd3 Z.c_Piece Z.c_Push Z.c_Hold)) "way_along":=by
 refine⟨?_,F38.b4 _ _ _ _ (by intros;rfl),F38.kp,m38⟩
 refine F38.ok9 Dk fun _ _ _ s H _ Q E hr h=>?_;obtain⟨a,b,xs,ds,es,m,f,t,rfl,hA,Rb,hB,hE,h100,hm,h20,hf,qN,qS⟩:=h;refine⟨_,(aB (aS (i:=4) Dk.nd rfl (Or.inl rfl) (Ii (kY (pv 2) (cZ aC) Iq) rfl rfl (by simp) (by decide)))
  (aB (aS (i:=5) Dk.nd rfl (Or.inl rfl) (cZ (aA (pv 2) aC)))
  (aB (vG PassesOwn.never (bC Ho (bZ bL rfl n_len PySem.boot_len (aA (pv 5) aC)) aE (bK _))
   (aB (aS (i:=6) Dk.nd rfl (Or.inl rfl) (Xg PySem.F.plainAttrs_list PySem.F.slot_list_pop PySem.F.type_list_pop Zx (pv 5)))
   (aF (fC PassesOwn.never rfl (dG (d9 Y37 hr rfl (aA (pv 0) (aA (pv 1) (aA (pv 6) aC))))) (bH (i:=7) Dk.nd rfl (Or.inl rfl))
    (aF (cG (yP (Ll (xJ hr) (aQ aT (pv 7) aE (fun _ _=>rfl)) (pv 4)))
     (aB (Vq (xJ hr) (pv 4) (aQ aT (pv 7) aE (fun _ _=>rfl)) (aX qX (kG (xJ hr) (pv 4) (pv 6) (fun _ _=>rfl)) (cZ (aA (aQ aT (pv 7) aE (fun _ _=>rfl)) aC))) rfl)
     (aF (bY (nT PySem.F.plainAttrs_list PySem.F.slot_list_append PySem.F.type_list_append fP (pv 5) (aA (aQ aT (pv 7) aE (fun _ _=>rfl)) aC)))))
     bN))))))
  (aF (aW (Qx (xJ hr) (pv 4) (pv 3) ⟨rfl,rfl,rfl,rfl⟩)))))),?_⟩
 refine fun D hD=>?_;have sD:=aI hD (.dK []);have eD:upd H D (.dK []) D=some (.dK []):=aD;generalize upd H D (.dK [])=H1 at sD eD ⊢;refine⟨_,rfl,zl9 0,fun L hL=>?_⟩;have nLD:L≠D:=Ne.symm (aU eD hL);have nL:H L=none:=sD.free hL;have sL:=aI hL (.lst []);have eL:upd H1 L (.lst []) L=some (.lst []):=aD;generalize upd H1 L (.lst [])=H2 at sL eL ⊢;refine⟨sL _ _ eD,[((Sum.inl (f:Int):Key),V.ref L)],rfl,by show 1<=15;decide,?_⟩;have s3:aZ H (upd H2 D (.dK (jM [] [((Sum.inl (f:Int):Key),V.ref L)]))):=(sD.trans sL).change hD;have e3:upd H2 D (.dK (jM [] [((Sum.inl (f:Int):Key),V.ref L)])) D=some (.dK [((Sum.inl (f:Int):Key),V.ref L)]):=aD;have eL3:upd H2 D (.dK (jM [] [((Sum.inl (f:Int):Key),V.ref L)])) L=some (.lst []):=by rw[aY nLD];exact eL
 generalize upd H2 D (.dK (jM [] [((Sum.inl (f:Int):Key),V.ref L)]))=H3 at s3 e3 eL3 ⊢;refine⟨_,rfl,zl9 1,fun W hW=>?_⟩;have nLW:L≠W:=aU eL3 hW;have nDW:D≠W:=aU e3 hW;have nW:H W=none:=s3.free hW;have sW:=aI hW (.lst [.int (f:Int)]);have eW:upd H3 W (.lst [.int (f:Int)]) W=some (.lst [.int (f:Int)]):=aD;generalize upd H3 W (.lst [.int (f:Int)])=H4 at sW eW ⊢;have s4:=s3.trans sW;have w4:Wys Z.K H W H4 [((Sum.inl (f:Int):Key),V.ref L)] (cD es f 0).1:=.cons nL nLW (sW _ _ eL3) .nil .nil;refine vF (fun σ H'=>aZ H H'/\∃(i:Nat) (kvs:List (Key × V)) (z6 z7:Option V),σ=[some (.ref a),some (.ref b),some (.int (f:Int)),some (.int (t:Int)),some (.ref D),some (.ref W),z6,z7]/\H' D=some (.dK kvs)/\H' W=some (.lst ((cD es f i).2.map fun (p:Nat)=>V.int (p:Int)))/\Wys Z.K H W H' kvs (cD es f i).1/\i<=40) muW ⟨s4,0,_,none,none,rfl,sW _ _ e3,eW,w4,by lia⟩ ?_ ?_
 ·rintro σ H5 ⟨s5,i,kvs,z6,z7,rfl,e5,q5,w5,hi⟩;have lk:=w5.length;have wi:=iG es f i;have le20:=Om hm hf wi.nd wi.pt;refine⟨_,rfl,W,_,rfl,.inl (SqL.of q5),_,_,rfl,rfl,_,rfl,?_⟩
  by_cases hq:(cD es f i).2=[]
  ·-- it ends
   rw[hq] at q5;refine ifF (by rw[hq];rfl) ?_;have e60:=Tu hq (by lia);refine⟨_,rfl,D,rfl,.inl ⟨kvs,.inl e5⟩,_,rfl,_,jP.k (k:=Sum.inl (t:Int)) e5,?_⟩
   by_cases c:t∈cE (cD es f i).1
   ·obtain⟨l,ys,st,ev,eg,nl,_,hl,f'⟩:=w5.some_ c;rw[ev];refine qS st ?_ l ys H5 s5 nl hl f';unfold kS;rw[e60];exact eg
   ·rw[(w5.none_ c).1];refine qN ?_ H5 s5;unfold kS;rw[e60];exact qH c
  ·have mu0:=Rk (a:=some (.ref a)) (b:=some (.ref b)) (c:=some (.int (f:Int))) (d:=some (.int (t:Int))) (e:=z6) (f:=z7) e5 q5;have hi39:i+muF (cD es f i)<=39:=by
    rcases qJ hm hf h20 i with z | z
    ·exact absurd z hq
    ·exact z
   have stp:cD es f (i+1)=(stF es ((cD es f i).2.getLastD 0)).foldl (inF ((cD es f i).2.getLastD 0)) ((cD es f i).1,(cD es f i).2.dropLast):=by
    show kP es (cD es f i)=_;unfold kP;rw[if_neg hq]
   have iY:=Ja hm hf h20 wi hq;have iY:muF (cD es f (i+1))+1<=muF (cD es f i):=iY;have wj0:=uB wi hq;have pk:=wj0.kp;obtain⟨ml1,ml2⟩:=Pb hq;generalize hp:(cD es f i).2.getLastD 0=p at *
   have ll:0 < ((cD es f i).2.map fun (p:Nat)=>V.int (p:Int)).length:=by rw[length_map];exact length_pos_iff.mpr hq
   refine ifT (by show decide (0 < ((((cD es f i).2.map fun (p:Nat)=>V.int (p:Int)).length:Nat):Int))=true;exact decide_eq_true (by lia)) ?_;refine⟨_,rfl,.inl ⟨rfl,_,SqL.of q5⟩,W,_,_,rfl,rfl,q5,ml1,?_⟩;rw[ml2];have s6:aZ H (upd H5 W (.lst ((cD es f i).2.dropLast.map fun (p:Nat)=>V.int (p:Int)))):=s5.change nW;have e6:upd H5 W (.lst ((cD es f i).2.dropLast.map fun (p:Nat)=>V.int (p:Int))) D=some (.dK kvs):=by rw[aY nDW];exact e5
   have q6:upd H5 W (.lst ((cD es f i).2.dropLast.map fun (p:Nat)=>V.int (p:Int))) W=some (.lst ((cD es f i).2.dropLast.map fun (p:Nat)=>V.int (p:Int))):=aD;have w6:=w5.updW (o:=.lst ((cD es f i).2.dropLast.map fun (p:Nat)=>V.int (p:Int))) q5;generalize upd H5 W (.lst ((cD es f i).2.dropLast.map fun (p:Nat)=>V.int (p:Int)))=H6 at s6 e6 q6 w6 ⊢;refine⟨_,rfl,_,rfl,_,rfl,a,b,xs,ds,es,p,rfl,s6.seq hA,Rb.same s6,s6.seq hB,hE,h100,fun l ys H7 s7 nl el S7=>?_⟩;have s07:=s6.trans s7;have nlW:l≠W:=Ne.symm (aU q6 nl);have nlD:l≠D:=Ne.symm (aU e6 nl);have nlH:H l=none:=s6.free nl;have lys:=S7.length;refine⟨l,rfl,⟨_,SqL.of el⟩,?_⟩;refine gH (xs:=ys) (fun j σ H'=>aZ H H'/\H' l=some (.lst ys)/\Sds Z.K H' ys (stF es p)/\∃(kvs:List (Key × V)) (z7:Option V),σ=[some (.ref a),some (.ref b),some (.int (f:Int)),some (.int (t:Int)),some (.ref D),some (.ref W),some (.int (p:Int)),z7]/\H' D=some (.dK kvs)/\H' W=some (.lst ((((stF es p).take j).foldl (inF p) ((cD es f i).1,(cD es f i).2.dropLast)).2.map fun (p:Nat)=>V.int (p:Int)))/\Wys Z.K H W H' kvs (((stF es p).take j).foldl (inF p) ((cD es f i).1,(cD es f i).2.dropLast)).1) ⟨s07,el,S7,kvs,z7,rfl,s7 _ _ e6,s7 _ _ q6,w6.same s7⟩ (fun j σ H' _ h=>SqL.of h.2.1) ?_ ?_
   ·rintro j x σ H8 hx ⟨s8,el8,S8,kv8,z7',rfl,e8,q8,w8⟩;obtain⟨tt,u,s,rfl,es',hT,hU⟩:=S8.get hx;have hj:j < (stF es p).length:=(List.getElem?_eq_some_iff.mp es').1;have gs:mX es s.1 p s.2:=mC (mem_of_getElem? es');have wj:=yT ((stF es p).take j) [] wj0 fun z hz=>mC (mem_of_mem_take hz);have fold1:((stF es p).take (j+1)).foldl (inF p) ((cD es f i).1,(cD es f i).2.dropLast)=inF p (((stF es p).take j).foldl (inF p) ((cD es f i).1,(cD es f i).2.dropLast)) s:=by
     rw[take_add_one,es',foldl_append];rfl
    rw[fold1];have wj':=Hv wj gs;have le8:=Om hm hf wj.nd wj.pt;have lS:=Yx hm hf h20 wj0 (j:=j) (T:=stF es p) (fun z hz=>mC hz);have mb:=De hq;generalize ((stF es p).take j).foldl (inF p) ((cD es f i).1,(cD es f i).2.dropLast)=S at q8 w8 wj wj' le8 lS ⊢;have lS2:S.2.length<=100:=by lia
    have lk8:=w8.length;obtain⟨⟨sn,sw⟩,sx⟩:=s;have hT:SqT Z.K H8 tt [.ref u,.int (sx:Int)]:=hT;refine⟨_,rfl,tt,_,1,_,rfl,rfl,hT,rfl,_,rfl,D,_,rfl,jP.k (k:=Sum.inl (sx:Int)) e8,_,rfl,?_⟩
    by_cases c:sx∈cE S.1
    ·refine ifF (by rw[w8.isSome,decide_eq_true c];rfl) ⟨s8,el8,S8,kv8,_,rfl,e8,?_,?_⟩
     ·show H8 W=some (.lst ((inF p S ((sn,sw),sx)).2.map fun (p:Nat)=>V.int (p:Int)));unfold inF;rw[if_pos c];exact q8
     ·show Wys Z.K H W H8 kv8 (inF p S ((sn,sw),sx)).1;unfold inF;rw[if_pos c];exact w8
    ·refine ifT (by rw[w8.isSome,decide_eq_false c];rfl) ?_;obtain⟨ap,xp,sp,ev,eg,nap,nwp,hap,fp⟩:=w8.some_ wj.kp;have lsp:=fp.length;have lsp2:sp.length<=20:=by
      obtain⟨pts,pt1,pt2⟩:=wj.pt p sp (gD eg);exact Zf hm hf h20 wj.nd wj.pt pt1 pt2
     refine⟨_,rfl,_,rfl,D,.ref ap,rfl,(by have:=jP.k (k:=Sum.inl (p:Int)) e8;rw[ev] at this;exact this),?_⟩;refine⟨_,rfl,tt,_,0,_,rfl,rfl,hT,rfl,zl9 1,fun L1 hL1=>?_⟩;have s9:=aI hL1 (.lst [.ref u]);have e9:upd H8 L1 (.lst [.ref u]) L1=some (.lst [.ref u]):=aD;generalize upd H8 L1 (.lst [.ref u])=H9 at s9 e9 ⊢;refine⟨ap,L1,_,_,rfl,rfl,s9 _ _ hap,e9,by rw[sizeLine_eq];simp only[length_cons,length_nil];lia,fun C hC=>?_⟩;have nC8:H8 C=none:=s9.free hC;have sA:=aI hC (.lst (xp++[.ref u]));have eA:upd H9 C (.lst (xp++[.ref u])) C=some (.lst (xp++[.ref u])):=aD;generalize upd H9 C (.lst (xp++[.ref u]))=HA at sA eA ⊢;have s8A:=s9.trans sA;have nCW:C≠W:=Ne.symm (aU q8 nC8);have nCD:C≠D:=Ne.symm (aU e8 nC8);have eDA:=s8A _ _ e8;refine⟨_,rfl,_,rfl,tt,_,1,_,rfl,rfl,s8A.seqT hT,rfl,D,_,rfl,Ob.k (k:=Sum.inl (sx:Int)) eDA (by rw[sizeLine_eq];lia),?_⟩;have put:lH kv8 (Sum.inl (sx:Int)) (.ref C)=kv8++[(Sum.inl (sx:Int),.ref C)]:=by unfold lH;rw[if_neg (by rw[(w8.none_ c).2];simp)]
     rw[put];have eB:upd HA D (.dK (kv8++[(Sum.inl (sx:Int),.ref C)])) D=some (.dK (kv8++[(Sum.inl (sx:Int),.ref C)])):=aD;have qB:upd HA D (.dK (kv8++[(Sum.inl (sx:Int),.ref C)])) W=some (.lst (S.2.map fun (p:Nat)=>V.int (p:Int))):=by rw[aY (Ne.symm nDW)];exact s8A _ _ q8
     have sB:aZ H (upd HA D (.dK (kv8++[(Sum.inl (sx:Int),.ref C)]))):=(s8.trans s8A).change hD;have wB:Wys Z.K H W (upd HA D (.dK (kv8++[(Sum.inl (sx:Int),.ref C)]))) (kv8++[(Sum.inl (sx:Int),.ref C)]) (S.1++[(sx,sp++[(sn,sw)])]):=
      Wys.snoc (s8.free nC8) nCW (by rw[aY nCD];exact eA) (((fp.same s8A).app (.cons (s8A.seqT hU) .nil)).updD eDA) ((w8.same s8A).updD eDA)
     have elB:upd HA D (.dK (kv8++[(Sum.inl (sx:Int),.ref C)])) l=some (.lst ys):=by rw[aY nlD];exact s8A _ _ el8
     have SB:=(S8.same s8A).updD (o:=.dK (kv8++[(Sum.inl (sx:Int),.ref C)])) eDA;have hTB:=SqT.updD (o:=.dK (kv8++[(Sum.inl (sx:Int),.ref C)])) (s8A.seqT hT) eDA;generalize upd HA D (.dK (kv8++[(Sum.inl (sx:Int),.ref C)]))=HB at eB qB sB wB elB SB hTB ⊢;refine⟨_,rfl,.inl ⟨rfl,_,SqL.of qB⟩,_,rfl,tt,_,1,_,rfl,rfl,hTB,rfl,W,_,_,rfl,rfl,qB,bO (by rw[length_map];lia),?_⟩;have inE:inF p S ((sn,sw),sx)=(S.1++[(sx,sp++[(sn,sw)])],S.2++[sx]):=by
      unfold inF;rw[if_neg c,eg];rfl
     rw[inE];refine⟨sB.change nW,by rw[aY nlW];exact elB,SB.upd qB,_,_,rfl,by rw[aY nDW];exact eB,?_,wB.updW qB⟩;rw[aD,map_append];rfl
   ·rintro σ H8 ⟨s8,el8,S8,kv8,z7',rfl,e8,q8,w8⟩;rw[lys,take_length,<- stp] at q8 w8;have lk8:=w8.length;refine⟨⟨s8,i+1,kv8,_,_,rfl,e8,q8,w8,by lia⟩,?_⟩;rw[mu0,Rk e8 q8,length_map,length_map,lk,lk8];unfold muF at iY;lia
 ·rintro σ H Q Q' mono ⟨v,h1,p',ys,h2,h3,i,j,h4,h5,k,h6,h7⟩;exact⟨v,h1,p',ys,h2,h3,i,j,h4,h5,k,h6,mono _ _ h7⟩
theorem Y39:DZ 5 Z.f39 (W.fnOf ("rings") ("rings") (fA iJ) (cV iJ) (aH iJ) (.ref Z.T39) Z.kV39 Z.dc39 Z.pm39 Z.an39 Z.cd39 Z.ct39) ["net","words"] (rT Z.c_Net Z.K) "rings":=by
 refine⟨?_,b39,F39.kp,m39⟩
 refine F39.ok9 jI fun _ _ _ s H _ Q E hr h=>?_;obtain⟨n,l,v,m,ds,W,rfl,nt,pt,h20,h40,hW,q⟩:=h;have r1:=hr.mono (show 1<=4 by lia);have r2:=hr.mono (show 2<=4 by lia);refine⟨_,(aB (aS (i:=2) jI.nd rfl (Or.inl rfl) (kZ (yP (Gd (pv 1))) (cT (v:=.ref Z.aJ) rfl mv_JOINING_WORDS rfl) (pv 1)))
  (aB (aS (i:=3) jI.nd rfl (Or.inl rfl) (cA (pv 0) NTx.cl X3 R32 hr b32 .nil aK))
  (aB (aS (i:=4) jI.nd rfl (Or.inl rfl) (cZ aC))
  (aB (aS (i:=5) jI.nd rfl (Or.inl rfl) (cZ aC))
  (aB (fC PassesOwn.never rfl (pI rfl n_enumerate rfl (aA (pv 3) aC)) (kF rfl (dB (bH (i:=6) jI.nd rfl (Or.inl rfl)) (dB (bH (i:=7) jI.nd rfl (Or.inl rfl)) iT)))
   (aF (cG (bC qZ (eJ (pv 7) T.cl mW GW r1 bW .nil aK) (pv 2) rfl) (aB (aS (i:=8) jI.nd rfl (Or.inl rfl) (d9 Y38 r2 rfl (aA (pv 3) (aA (pv 4) (aA (bU (pv 7) rfl) (aA (bU (pv 7) rfl) aC))))))
  (aF (cG (yP (Gd (pv 8))) (aF (bY (nT PySem.F.plainAttrs_list PySem.F.slot_list_append PySem.F.type_list_append fP (pv 4) (aA (pv 6) aC)))) (aF (bY (nT PySem.F.plainAttrs_list PySem.F.slot_list_append PySem.F.type_list_append fP (pv 5) (aA (aX qX (cZ (aA (dS (aA (pv 6) (aA aE aC))) aC)) (pv 8)) aC))))))) bN)))
  (aF (aW (pv 5)))))))),?_⟩
 refine pX (fun σ' H'=>H'=H/\∃wv,σ'=[some (.ref n),some v,some wv,none,none,none,none,none,none]/\WdA Z.K H wv W) (fun X hX=>?_) ?_
 ·cases hW with
  |non=>exact⟨_,rfl,_,rfl,ifT rfl (hX _ _ ⟨rfl,_,rfl,Z.aJ,_,rfl,.inr (fJ0 H),rfl,qe8⟩)⟩
  | @seq a ws h Z.f39=>exact⟨_,rfl,_,rfl,ifF rfl ⟨_,rfl,hX _ _ ⟨rfl,_,rfl,a,_,rfl,.inl h,Z.f39,fun _=>rfl⟩⟩⟩
 rintro σ' H' ⟨hH',wv,rfl,hw⟩;subst hH';obtain⟨dx,hn⟩:=nt.ob;refine⟨_,rfl,n,dx,_,rfl,hn,dA _ _ (by decide +kernel) (by decide +kernel),n,l,_,ds,rfl,nt,by lia,fun a xs H1 s1 na ea Rb=>?_⟩;have lxs:=Rb.length;refine⟨zl9 0,fun B hB=>?_⟩;have nB:H' B=none:=s1.free hB;have sB:=aI hB (.lst []);have eB:upd H1 B (.lst []) B=some (.lst []):=aD;generalize upd H1 B (.lst [])=H2 at sB eB ⊢;refine⟨zl9 0,fun F39 hF=>?_⟩;have nF:H' F39=none:=(s1.trans sB).free hF;have nBF:B≠F39:=aU eB hF;have sF:=aI hF (.lst []);have eF:upd H2 F39 (.lst []) F39=some (.lst []):=aD;generalize upd H2 F39 (.lst [])=H3 at sF eF ⊢;have s3:=s1.trans (sB.trans sF);have ea3:=(sB.trans sF) _ _ ea;have naB:a≠B:=aU ea hB;have naF:a≠F39:=aU (sB _ _ ea) hF;have sk:=Ez ds;have slt:=Wu pt;have s13:=sB.trans sF;refine⟨_,rfl,a,rfl,⟨_,SqL.of ea3⟩,?_⟩;have nB1:H1 B=none:=hB;have nF1:H1 F39=none:=sB.free hF;refine Bm (xs:=xs) (fun i σ HH=>aZ H1 HH/\∃(us:List V) (z6 z7 z8:Option V),σ=[some (.ref n),some v,some wv,some (.ref a),some (.ref B),some (.ref F39),z6,z7,z8]/\HH B=some (.lst ((dE W (skl ds) i).1.map fun (e:Br)=>V.int ((e.1:Nat):Int)))/\HH F39=some (.lst us)/\Rgs Z.K H' HH us ((dE W (skl ds) i).2.map (·.2))/\∀x∈us,x≠.ref F39/\x≠.ref B) ⟨s13,[],none,none,none,rfl,sF _ _ eB,eF,.nil,fun x hx=>(by cases hx)⟩ (fun i σ HH _ h=>h.1.seq (SqL.of ea)) ?_ ?_
 ·rintro i x σ H4 T2 hx ⟨s4,us,z6,z7,z8,rfl,eB4,eF4,G4,nx4⟩ hT;have hi:i < ds.length:=by
   have:=(List.getElem?_eq_some_iff.mp hx).1;lia
  obtain⟨⟨k0,u,v0,p0⟩,hd⟩:∃d,ds[i]?=some d:=⟨_,getElem?_eq_getElem hi⟩
  obtain⟨y,z,ey,rw0,fz0⟩:=Rb.at hd;have ex:x=.ref y:=by rw[ey] at hx;exact(Option.some.inj hx).symm
  subst ex;obtain⟨u0,u1,v1,v2⟩:cX (m:Int) u v0:=pt _ (mem_of_getElem? hd);obtain⟨uN,rfl⟩:∃n:Nat,u=(n:Int):=⟨u.toNat,by lia⟩
  obtain⟨vN,rfl⟩:∃n:Nat,v0=(n:Int):=⟨v0.toNat,by lia⟩
  have skd:(skl ds)[i]?=some (k0,uN,vN):=by
   have:=Bo hd
   rwa [show ((k0,(uN:Int),(vN:Int),p0):RD).2.1.toNat=uN from Int.toNat_natCast uN,show ((k0,(uN:Int),(vN:Int),p0):RD).2.2.1.toNat=vN from Int.toNat_natCast vN] at this
  have ri:=jY (W:=W) slt i (by lia);have bo:=Uf pt ri;have bl':=Qu (W:=W) (sk:=skl ds) i;have gl:=G4.l;rw[length_map] at gl;have rl:=ri.rl;have succ:=gO (W:=W) skd;generalize dE W (skl ds) i=S at eB4 G4 ri bo bl' gl rl succ;have sT:=aI hT (.tup [.int (i:Int),.ref y]);refine⟨T2,_,rfl,SqT.of aD,rfl,_,_,rfl,_,_,rfl,rfl,?_⟩;have nT1:H1 T2=none:=s4.free hT;generalize upd H4 T2 (.tup [.int (i:Int),.ref y])=H5 at sT ⊢;have s5:=s4.trans sT;have eB5:=sT _ _ eB4;have eF5:=sT _ _ eF4;have G5:=G4.same sT;obtain⟨dr,hy⟩:=id (rw0.same s5);obtain⟨pw,ws,ew,hws,fl,hinv⟩:=hw.same (s1.trans s5);refine⟨_,rfl,k0,y,dr,_,rfl,hy,(cU _ _ _ (by decide +kernel) (by decide +kernel) (by decide +kernel)),_,rfl,_,rfl,pw,ws,ew,hws,rfl,fl,_,rfl,?_⟩;have hin:inV (.str k0.wd) ws=W k0:=hinv k0
  by_cases hk:W k0=true
  ·refine ifT (by show (if false=true then _ else inV (V.str k0.wd) ws)=true;rw[if_neg (by decide),hin];exact hk) ?_;refine⟨_,rfl,_,rfl,_,rfl,y,(kd3 Z.c_Piece Z.c_Push Z.c_Hold) _,_,_,_,rfl,hy,T.cl _,T.nG _,dX _ _ _,_,rfl,y,(kd3 Z.c_Piece Z.c_Push Z.c_Hold) _,_,_,_,rfl,hy,T.cl _,T.nS _,dH _ _ _,a,B,xs,ds,S.1,m,vN,uN,rfl,s5.seq (SqL.of ea),Rb.same s5,SqL.of eB5,bo,by lia,ri.pt,h20,by lia,fun hnone H6 s6=>?_,fun st hst l' ys H6 s6 nl el S6=>?_⟩
   ·refine⟨_,rfl,_,rfl,ifT rfl ?_⟩;have eB6:=s6 _ _ eB5;have s06:=s5.trans s6;refine⟨_,rfl,.inl ⟨rfl,_,SqL.of eB6⟩,_,rfl,B,_,_,rfl,rfl,eB6,bO (by rw[length_map];lia),?_⟩;have eS:gJ W S i (k0,uN,vN)=(S.1++[(i,uN,vN)],S.2):=by
     unfold gJ;rw[if_pos hk,hnone]
    rw[succ,eS];refine⟨s06.change nB1,us,_,_,_,rfl,?_,by rw[aY (Ne.symm nBF)];exact s6 _ _ eF5,(G5.same s6).updO eB6 (fun x hx=>(nx4 x hx).2),nx4⟩;rw[aD,map_append];rfl
   ·refine⟨_,rfl,_,rfl,ifF rfl ?_⟩;have eF6:=s6 _ _ eF5;have s06:=s5.trans s6;refine⟨_,rfl,.inl ⟨rfl,_,SqL.of eF6⟩,_,rfl,zl9 2,fun t ht=>?_⟩;have st7:=aI ht (.tup [.int (i:Int),.int 1]);have et:SqT Z.K (upd H6 t (.tup [.int (i:Int),.int 1])) t [.int (i:Int),.int 1]:=SqT.of aD;generalize upd H6 t (.tup [.int (i:Int),.int 1])=H7 at st7 et ⊢;refine⟨zl9 1,fun L1 hL1=>?_⟩;have s8:=aI hL1 (.lst [.ref t]);have e8:upd H7 L1 (.lst [.ref t]) L1=some (.lst [.ref t]):=aD;generalize upd H7 L1 (.lst [.ref t])=H8 at s8 e8 ⊢;have lst':=xG ri.pt (show vN < m by lia) hst;have lys:=S6.length;refine⟨_,rfl,L1,l',_,_,rfl,rfl,e8,(st7.trans s8) _ _ el,by rw[sizeLine_eq];simp only[length_cons,length_nil];lia,fun C hC=>?_⟩;have nC8:H8 C=none:=hC;have s9:=aI hC (.lst ([.ref t]++ys));have e9:upd H8 C (.lst ([.ref t]++ys)) C=some (.lst ([.ref t]++ys)):=aD;generalize upd H8 C (.lst ([.ref t]++ys))=H9 at s9 e9 ⊢;have s69:=st7.trans (s8.trans s9);have eF9:=s69 _ _ eF6;have s09:=s06.trans s69;have nCF:C≠F39:=Ne.symm (aU ((st7.trans s8) _ _ eF6) nC8);have nCB:C≠B:=Ne.symm (aU ((st7.trans s8) _ _ (s6 _ _ eB5)) nC8);refine⟨F39,_,_,rfl,rfl,eF9,bO (by lia),?_⟩;have eS:gJ W S i (k0,uN,vN)=(S.1,S.2++[(i,(i,1) :: st)]):=by
     unfold gJ;rw[if_pos hk,hst]
    rw[succ,eS];have SC:Sts Z.K H9 ([.ref t]++ys) ((i,1) :: st):=.cons ((s8.trans s9).seqT et) (S6.same s69);refine⟨s09.change nF1,us++[.ref C],_,_,_,rfl,by rw[aY nBF];exact s69 _ _ (s6 _ _ eB5),aD,?_,fun x hx=>?_⟩
    ·rw[map_append];have G9:=((G5.same s6).same s69).snoc (((s1.trans s06).trans (st7.trans s8)).free nC8) e9 SC;refine G9.updO eF9 fun x hx=>?_;rcases mem_append.mp hx with z | z
     ·exact(nx4 x z).1
     ·have:x=.ref C:=by simpa using z
      rw[this];exact fun z=>nCF (by injection z)
    ·rcases mem_append.mp hx with z | z
     ·exact nx4 x z
     ·have:x=.ref C:=by simpa using z
      rw[this];exact⟨fun z=>nCF (by injection z),fun z=>nCB (by injection z)⟩
  ·refine ifF (by show (if false=true then _ else inV (V.str k0.wd) ws)=false;rw[if_neg (by decide),hin];simpa using hk) ?_;have eS:gJ W S i (k0,uN,vN)=S:=by
    unfold gJ;rw[if_neg hk]
   rw[succ,eS];exact⟨s5,us,_,_,_,rfl,eB5,eF5,G5,nx4⟩
 rintro σ H4 ⟨s4,us,z6,z7,z8,rfl,eB4,eF4,G4,nx4⟩;rw[lxs] at G4;exact⟨_,rfl,q F39 us H4 (s1.trans s4) nF eF4 G4 fun x hx=>(nx4 x hx).1⟩
theorem Y40:DZ 4 Z.f40 Z.d40 ["line","column","amount"] (oO Z.K) "raise_at":=by
 refine⟨?_,F40.b3 _ _ _ (by intros;rfl),F40.kp,m40⟩
 refine F40.ok9 Vy fun _ _ _ s H _ Q E hr h=>?_;obtain⟨l,z,j,xs,ps,a,n,m,rfl,hl,hF,hj,p1,bp,fz,a1,ba,hn,q⟩:=h;refine⟨_,(aF (kW (d9 Y6 hr rfl (aA (aQ bG (pv 0) (pv 1) (fun _ _=>rfl)) (aA (pv 2) aC))) (oF (pv 0) (pv 1) jC))),?_⟩;have lx:=hF.length;obtain⟨u,eu,fu⟩:=hF.at (uT hj);refine⟨_,rfl,_,rfl,l,xs,_,_,rfl,rfl,SqL.of hl,bX eu,_,rfl,u,z,_,a,n,m,rfl,fu,fz,p1,a1,bp,ba,hn,fun v H1 s1 e1=>?_⟩;exact⟨_,rfl,_,rfl,l,xs,_,j,rfl,rfl,s1 _ _ hl,kD (by lia),q v H1 s1 (Fq.of e1)⟩
theorem Y41:DZ 5 Z.f41 Z.d41 ["matrix","row","column","amount"] (sM Z.K (kd3 Z.c_Piece Z.c_Push Z.c_Hold)) "enter_stream":=by
 refine⟨?_,F41.b4 _ _ _ _ (by intros;rfl),F41.kp,m41⟩
 refine F41.ok9 Wd fun _ _ _ s H _ Q E hr h=>?_;obtain⟨D,x,z,zz,as,M,⟨k0,u,v,p⟩,w,n,k,c,a,rfl,mx,mb,rw,pt,hc,fz,la,ba,hn,q⟩:=h;have r3:=hr.mono (show 3<=4 by lia);refine⟨_,(aB (bY (aG Y40.G hr rfl m40 F40.kp Y40.b .nil aK (aA (aQ bG (pv 0) (bU (pv 1) rfl) (fun _ _=>rfl)) (aA (pv 2) (aA (pv 3) aC)))))
  (aF (bY (aG Y40.G hr rfl m40 F40.kp Y40.b .nil aK (aA (aQ bG (pv 0) (bU (pv 1) rfl) (fun _ _=>rfl)) (aA (pv 2) (aA (aG Y5.G r3 rfl m5 F5.kp Y5.b .nil aK (aA (cT (v:=.ref Z.aN) rfl mv_NOUGHT rfl) (aA (pv 3) aC))) aC))))))),?_⟩
 obtain⟨i0,i1,j0,j1⟩:cX (w:Int) u v:=pt;obtain⟨uN,rfl⟩:∃uN:Nat,u=(uN:Int):=⟨u.toNat,by lia⟩
 obtain⟨vN,rfl⟩:∃vN:Nat,v=(vN:Int):=⟨v.toNat,by lia⟩
 have hu':uN < w:=by lia
 have hv':vN < w:=by lia
 obtain⟨ln,bn,_⟩:=lZ la ba;obtain⟨dx,hx⟩:=id rw;obtain⟨e1,m40,w1⟩:=mb.row hu';obtain⟨e2,l2,Y5.b⟩:=mb.at hu' hc;have lam:=mx.la;obtain⟨a1,ha1⟩:∃a1,as[uN]?=some a1:=⟨_,getElem?_eq_getElem (by rw[lam,mb.h];exact hu')⟩
 obtain⟨xs,hxs,hF⟩:=mx.r uN a1 _ ha1 e1;have at1:atI (as.map V.ref) (uN:Int)=some (.ref a1):=bX (by rw[getElem?_map,ha1];rfl);refine⟨_,rfl,_,rfl,x,(kd3 Z.c_Piece Z.c_Push Z.c_Hold) _,_,_,_,rfl,hx,T.cl _,T.nS _,dH _ _ _,D,_,_,_,rfl,rfl,SqL.of mx.d,at1,_,rfl,_,rfl,a1,z,c,xs,_,a,n,k,rfl,hxs,hF,by rw[w1];exact hc,l2.pos,Y5.b,fz,la.pos,ba,by lia,fun v1 H1 s1 f1=>?_⟩;obtain⟨mx2,sx2⟩:=mx.set (j:=c) ha1 e1 hxs hF s1 f1;have mb2:=mb.rz hu' hc la ba;generalize upd H1 a1 (.lst (xs.set c (.ref v1)))=H2 at mx2 sx2 ⊢;have mx2:Mx Z.K H2 D as (rz M uN c a):=mx2;have ls:=mx.lsts;have fz2:Fq Z.K H2 z a:=sx2.seqT ls fz;obtain⟨dx2,hx2⟩:=id (sx2.rw ls rw);obtain⟨e3,m3,w3⟩:=mb2.row hv';obtain⟨e4,l4,b4⟩:=mb2.at hv' hc;obtain⟨a2,ha2⟩:∃a2,as[vN]?=some a2:=⟨_,getElem?_eq_getElem (by rw[lam,mb.h];exact hv')⟩
 obtain⟨xs2,hxs2,hF2⟩:=mx2.r vN a2 _ ha2 e3;have at2:atI (as.map V.ref) (vN:Int)=some (.ref a2):=bX (by rw[getElem?_map,ha2];rfl);have b01:Bd 1 (0,1):=⟨show (0:Nat) < 2 ^ 1 by decide,show (1:Nat) < 2 ^ 1 by decide⟩
 refine⟨_,rfl,_,rfl,x,(kd3 Z.c_Piece Z.c_Push Z.c_Hold) _,_,_,_,rfl,hx2,T.cl _,T.nG _,dX _ _ _,D,_,_,_,rfl,rfl,SqL.of mx2.d,at2,_,rfl,_,rfl,Z.aN,z,(0,1),a,1,k,rfl,fN _,fz2,by decide,la.pos,b01,ba,by lia,fun v3 H3 s3 e5=>?_⟩;refine⟨a2,v3,c,xs2,_,_,n+k+1,k+2,rfl,s3 _ _ hxs2,hF2.same s3,by rw[w3];exact hc,l4.pos,b4,Fq.of e5,ln.pos,bn,by lia,fun v4 H4 s4 f4=>?_⟩;obtain⟨mx3,sx3⟩:=(mx2.same s3).set (j:=c) ha2 e3 (s3 _ _ hxs2) (hF2.same s3) s4 f4;exact q _ (sx2.trans (s3.sx.trans sx3)) mx3
theorem Y42:DZ 6 Z.f42 Z.d42 ["matrix","row"] (tW Z.K (kd3 Z.c_Piece Z.c_Push Z.c_Hold)) "enter_piece":=by
 refine⟨?_,F42.b2 _ _ (by intros;rfl),F42.kp,m42⟩
 refine F42.ok9 Cm fun _ _ _ s H _ Q E hr h=>?_;obtain⟨D,x,zz,as,M,⟨k0,u,v,p⟩,w,n,k,rfl,mx,mb,rw,fp,pt,lp,p0,bp,hn,q⟩:=h;have r3:=hr.mono (show 3<=5 by lia);refine⟨_,(aB (aS (i:=2) Cm.nd rfl (Or.inl rfl) (d9 Y7 r3 rfl (aA (cT (v:=.ref Z.aO) rfl mv_ONE rfl) (aA (bU (pv 1) rfl) aC))))
  (aB (bY (d9 Y41 hr rfl (aA (pv 0) (aA (pv 1) (aA (bU (pv 1) rfl) (aA (pv 2) aC))))))
  (aF (bY (d9 Y41 hr rfl (aA (pv 0) (aA (pv 1) (aA (bU (pv 1) rfl) (aA (d9 Y5 r3 rfl (aA (cT (v:=.ref Z.aN) rfl mv_NOUGHT rfl) (aA (pv 2) aC))) aC))))))))),?_⟩
 have lp:Low p:=lp;have p0:0 < p.1:=p0;have bp:Bd k p:=bp;have fp:Fq Z.K H zz p:=fp;obtain⟨i0,i1,j0,j1⟩:cX (w:Int) u v:=pt;obtain⟨uN,rfl⟩:∃uN:Nat,u=(uN:Int):=⟨u.toNat,by lia⟩
 obtain⟨vN,rfl⟩:∃vN:Nat,v=(vN:Int):=⟨v.toNat,by lia⟩
 obtain⟨ls,bs,_⟩:=Cz lp p0 bp;obtain⟨ln,bn,_⟩:=lZ ls bs;have pt':cX (w:Int) (uN:Int) (vN:Int):=⟨i0,i1,j0,j1⟩
 obtain⟨dx,hx⟩:=id rw;refine⟨_,rfl,x,(kd3 Z.c_Piece Z.c_Push Z.c_Hold) _,_,_,_,rfl,hx,T.cl _,T.nZ _,eY _ _ _,Z.aO,zz,(1,1),p,1,k,rfl,fO _,fp,h11,lp.pos,p0,iC,bp,by lia,fun s' H1 s1 e1=>?_⟩;have fs:Fq Z.K H1 s' (fI (1,1) p):=Fq.of e1;have rw1:=rw.same s1;obtain⟨dx1,hx1⟩:=id rw1;have mx1:=mx.same s1;refine⟨_,rfl,_,rfl,_,rfl,x,(kd3 Z.c_Piece Z.c_Push Z.c_Hold) _,_,_,_,rfl,hx1,T.cl _,T.nS _,dH _ _ _,_,rfl,D,x,s',_,as,M,(k0,(uN:Int),(vN:Int),p),w,n,k+1,uN,_,rfl,mx1,mb,rw1,pt',by lia,fs,ls,bs,by lia,fun H2 sx2 mx2=>?_⟩;have lst:=mx1.lsts;have fs2:Fq Z.K H2 s' (fI (1,1) p):=sx2.seqT lst fs;have rw2:=sx2.rw lst rw1;obtain⟨dx2,hx2⟩:=id rw2;obtain⟨mb2,_⟩:=Ct (d:=(k0,(uN:Int),(vN:Int),p)) mb pt' (c:=uN) (by lia) ls bs;have b01:Bd 1 (0,1):=⟨show (0:Nat) < 2 ^ 1 by decide,show (1:Nat) < 2 ^ 1 by decide⟩
 refine⟨_,rfl,_,rfl,_,rfl,x,(kd3 Z.c_Piece Z.c_Push Z.c_Hold) _,_,_,_,rfl,hx2,T.cl _,T.nG _,dX _ _ _,_,rfl,Z.aN,s',(0,1),_,1,k+1,rfl,fN _,fs2,by decide,ls.pos,b01,bs,by lia,fun v3 H3 s3 e3=>?_⟩;refine⟨D,x,v3,_,as,_,(k0,(uN:Int),(vN:Int),p),w,n+2*(k+1)+4,k+3,vN,_,rfl,mx2.same s3,mb2,rw2.same s3,pt',by lia,Fq.of e3,ln,bn,by lia,fun H4 sx4 mx4=>?_⟩;exact q H4 (s1.sx.trans (sx2.trans (s3.sx.trans sx4))) mx4
theorem Y43:DZ 5 Z.f43 Z.d43 ["right","row"] (pT Z.K (kd3 Z.c_Piece Z.c_Push Z.c_Hold)) "enter_push":=by
 refine⟨?_,F43.b2 _ _ (by intros;rfl),F43.kp,m43⟩
 refine F43.ok9 Rg fun _ _ _ s H _ Q E hr h=>?_;obtain⟨R,x,zz,ys,rs,⟨k0,u,v,p⟩,w,n,k,rfl,eR,hF,lb,rw,fp,pt,lp,bp,hn,q⟩:=h;have r3:=hr.mono (show 3<=4 by lia);refine⟨_,(aB (bY (d9 Y40 hr rfl (aA (pv 0) (aA (bU (pv 1) rfl) (aA (d9 Y5 r3 rfl (aA (cT (v:=.ref Z.aN) rfl mv_NOUGHT rfl) (aA (bU (pv 1) rfl) aC))) aC)))))
  (aF (bY (d9 Y40 hr rfl (aA (pv 0) (aA (bU (pv 1) rfl) (aA (bU (pv 1) rfl) aC))))))),?_⟩
 have lp:Low p:=lp;have bp:Bd k p:=bp;have fp:Fq Z.K H zz p:=fp;obtain⟨i0,i1,j0,j1⟩:cX (w:Int) u v:=pt;obtain⟨uN,rfl⟩:∃uN:Nat,u=(uN:Int):=⟨u.toNat,by lia⟩
 obtain⟨vN,rfl⟩:∃vN:Nat,v=(vN:Int):=⟨v.toNat,by lia⟩
 obtain⟨ln,bn,_⟩:=lZ lp bp;obtain⟨dx,hx⟩:=id rw;obtain⟨_,l1,b1⟩:=lb.at (j:=uN) (by lia);have b01:Bd 1 (0,1):=⟨show (0:Nat) < 2 ^ 1 by decide,show (1:Nat) < 2 ^ 1 by decide⟩
 refine⟨_,rfl,_,rfl,x,(kd3 Z.c_Piece Z.c_Push Z.c_Hold) _,_,_,_,rfl,hx,T.cl _,T.nS _,dH _ _ _,_,rfl,x,(kd3 Z.c_Piece Z.c_Push Z.c_Hold) _,_,_,_,rfl,hx,T.cl _,T.nZ _,eY _ _ _,Z.aN,zz,(0,1),p,1,k,rfl,fN _,fp,by decide,lp.pos,b01,bp,by lia,fun v1 H1 s1 e1=>?_⟩;refine⟨R,v1,uN,ys,rs,_,n,k+2,rfl,s1 _ _ eR,hF.same s1,by rw[lb.w];lia,l1.pos,b1,Fq.of e1,ln.pos,bn,by lia,fun v2 H2 s2 f2=>?_⟩;have s12:=s1.trans s2;have eR2:=s12 _ _ eR;have F3:=(Fqs.set f2 uN (hF.same s12)).upd (o:=.lst (ys.set uN (.ref v2))) eR2;have e3:upd H2 R (.lst (ys.set uN (.ref v2))) R=some (.lst (ys.set uN (.ref v2))):=aD;have sx3:SX [R] H (upd H2 R (.lst (ys.set uN (.ref v2)))):=s12.sx.write (by simp);have fp3:Fq Z.K (upd H2 R (.lst (ys.set uN (.ref v2)))) zz p:=SqT.upd (s12.fq fp) eR2;have rw3:=(rw.same s12).upd (o:=.lst (ys.set uN (.ref v2))) eR2;generalize upd H2 R (.lst (ys.set uN (.ref v2)))=H3 at F3 e3 sx3 fp3 rw3 ⊢;have lb3:=lb.rz (j:=uN) (by lia) ln bn;have F3:Fqs Z.K H3 (ys.set uN (.ref v2)) (rzl rs uN (Mq.minus (0,1) p)):=F3;obtain⟨_,l4,b4⟩:=lb3.at (j:=vN) (by lia);obtain⟨dx3,hx3⟩:=id rw3;refine⟨_,rfl,_,rfl,x,(kd3 Z.c_Piece Z.c_Push Z.c_Hold) _,_,_,_,rfl,hx3,T.cl _,T.nG _,dX _ _ _,_,rfl,x,(kd3 Z.c_Piece Z.c_Push Z.c_Hold) _,_,_,_,rfl,hx3,T.cl _,T.nZ _,eY _ _ _,R,zz,vN,_,_,p,n+(k+2)+1,k,rfl,e3,F3,by rw[lb3.w];lia,l4.pos,b4,fp3,lp.pos,bp,by lia,fun v5 H5 s5 f5=>?_⟩;refine q _ _ (sx3.trans (s5.sx.write (by simp))) aD ?_;exact(Fqs.set f5 vN (F3.same s5)).upd (s5 _ _ e3)
theorem Y44:DZ 6 Z.f44 Z.d44 ["matrix","right","row","column"] (tQ Z.K (kd3 Z.c_Piece Z.c_Push Z.c_Hold)) "enter_hold":=by
 refine⟨?_,F44.b4 _ _ _ _ (by intros;rfl),F44.kp,m44⟩
 refine F44.ok9 Oy fun _ _ _ s H _ Q E hr h=>?_;obtain⟨D,R,x,zz,as,M,ys,rs,⟨k0,u,v,p⟩,w,n,c,rfl,mx,mb,eR,hFR,lr,nRD,nRa,rw,fp,pt,hc,hn,q⟩:=h;have r3:=hr.mono (show 3<=5 by lia);have r4:=hr.mono (show 4<=5 by lia);refine⟨_,(aB (bY (aG Y41.G hr rfl m41 F41.kp Y41.b .nil aK (aA (pv 0) (aA (pv 2) (aA (pv 3) (aA (cT (v:=.ref Z.aO) rfl mv_ONE rfl) aC))))))
  (aB (bY (aG Y40.G r4 rfl m40 F40.kp Y40.b .nil aK (aA (aQ bG (pv 0) (pv 3) (fun _ _=>rfl)) (aA (bU (pv 2) rfl) (aA (cT (v:=.ref Z.aO) rfl mv_ONE rfl) aC)))))
  (aB (bY (aG Y40.G r4 rfl m40 F40.kp Y40.b .nil aK (aA (aQ bG (pv 0) (pv 3) (fun _ _=>rfl)) (aA (bU (pv 2) rfl) (aA (aG Y5.G r3 rfl m5 F5.kp Y5.b .nil aK (aA (cT (v:=.ref Z.aN) rfl mv_NOUGHT rfl) (aA (cT (v:=.ref Z.aO) rfl mv_ONE rfl) aC))) aC)))))
  (aF (kW (bU (pv 2) rfl) (oF (pv 1) (pv 3) jC)))))),?_⟩
 have fp:Fq Z.K H zz p:=fp;obtain⟨i0,i1,j0,j1⟩:cX (w:Int) u v:=pt;obtain⟨uN,rfl⟩:∃uN:Nat,u=(uN:Int):=⟨u.toNat,by lia⟩
 obtain⟨vN,rfl⟩:∃vN:Nat,v=(vN:Int):=⟨v.toNat,by lia⟩
 have pt':cX (w:Int) (uN:Int) (vN:Int):=⟨i0,i1,j0,j1⟩
 obtain⟨ln,bn,_⟩:=lZ gV iC;have lam:=mx.la;refine⟨_,rfl,_,rfl,_,rfl,D,x,Z.aO,_,as,M,(k0,(uN:Int),(vN:Int),p),w,n,1,c,(1,1),rfl,mx,mb,rw,pt',hc,fO _,gV,iC,by lia,fun H1 sx1 mx1=>?_⟩;have lst:=mx.lsts;have rw1:=sx1.rw lst rw;have fp1:Fq Z.K H1 zz p:=sx1.seqT lst fp;have eR1:=sx1 _ _ eR nRa;have FR1:=SX.fqs lst sx1 hFR;obtain⟨mb1,_⟩:=Ct (d:=(k0,(uN:Int),(vN:Int),p)) mb pt' hc gV iC;generalize hM1:en M (k0,(uN:Int),(vN:Int),p) c (1,1)=M1 at mx1 mb1;obtain⟨ac,hac⟩:∃ac,as[c]?=some ac:=⟨_,getElem?_eq_getElem (by rw[lam,mb.h];exact hc)⟩
 have atc:atI (as.map V.ref) (c:Int)=some (.ref ac):=bX (by rw[getElem?_map,hac];rfl);obtain⟨e1,m41,w1⟩:=mb1.row hc;obtain⟨_,l2,Y40.b⟩:=mb1.at hc (j:=uN) (by lia);obtain⟨xs,hxs,hF⟩:=mx1.r c ac _ hac e1;obtain⟨dx1,hx1⟩:=id rw1;refine⟨_,rfl,_,rfl,D,_,_,_,rfl,rfl,SqL.of mx1.d,atc,_,rfl,x,(kd3 Z.c_Piece Z.c_Push Z.c_Hold) _,_,_,_,rfl,hx1,T.cl _,T.nS _,dH _ _ _,ac,Z.aO,uN,xs,_,(1,1),n+2*1+4,1,rfl,hxs,hF,by rw[w1];lia,l2.pos,Y40.b,fO _,h11,iC,by lia,fun v1 H2 s2 f2=>?_⟩;obtain⟨mx3,sx3⟩:=mx1.set (j:=uN) hac e1 hxs hF s2 f2;have lst1:=mx1.lsts;generalize upd H2 ac (.lst (xs.set uN (.ref v1)))=H3 at mx3 sx3 ⊢;have mb3:=mb1.rz hc (j:=uN) (by lia) gV iC;have mx3:Mx Z.K H3 D as (rz M1 c uN (1,1)):=mx3;have rw3:=sx3.rw lst1 rw1;have fp3:Fq Z.K H3 zz p:=sx3.seqT lst1 fp1;have eR3:=sx3 _ _ eR1 nRa;have FR3:=SX.fqs lst1 sx3 FR1;generalize hM3:rz M1 c uN (1,1)=M3 at mx3 mb3;obtain⟨e3,m5,w3⟩:=mb3.row hc;obtain⟨_,l4,b4⟩:=mb3.at hc (j:=vN) (by lia);obtain⟨xs3,hxs3,hF3⟩:=mx3.r c ac _ hac e3;obtain⟨dx3,hx3⟩:=id rw3;refine⟨_,rfl,_,rfl,D,_,_,_,rfl,rfl,SqL.of mx3.d,atc,_,rfl,x,(kd3 Z.c_Piece Z.c_Push Z.c_Hold) _,_,_,_,rfl,hx3,T.cl _,T.nG _,dX _ _ _,Z.aN,Z.aO,(0,1),(1,1),1,1,rfl,fN _,fO _,by decide,h11,⟨show (0:Nat) < 2 ^ 1 by decide,show (1:Nat) < 2 ^ 1 by decide⟩,iC,by lia,fun v4 H4 s4 e4=>?_⟩;refine⟨ac,v4,vN,xs3,_,_,n+2*1+4+1+1,1+2,rfl,s4 _ _ hxs3,hF3.same s4,by rw[w3];lia,l4.pos,b4,Fq.of e4,ln.pos,bn,by lia,fun v5 H5 s5 f5=>?_⟩;obtain⟨mx6,sx6⟩:=(mx3.same s4).set (j:=vN) hac e3 (s4 _ _ hxs3) (hF3.same s4) s5 f5;have sx36:=(aZ.sx (as:=as) s4).trans sx6;have lst3:=mx3.lsts;generalize upd H5 ac (.lst (xs3.set vN (.ref v5)))=H6 at mx6 sx6 sx36 ⊢;have mx6:Mx Z.K H6 D as (rz M3 c vN (Mq.minus (0,1) (1,1))):=mx6;have rw6:=sx36.rw lst3 rw3;have fp6:Fq Z.K H6 zz p:=sx36.seqT lst3 fp3;have eR6:=sx36 _ _ eR3 nRa;have FR6:=SX.fqs lst3 sx36 FR3;obtain⟨dx6,hx6⟩:=id rw6;have ly:=FR6.length;refine⟨_,rfl,x,(kd3 Z.c_Piece Z.c_Push Z.c_Hold) _,_,_,_,rfl,hx6,T.cl _,T.nZ _,eY _ _ _,_,rfl,_,rfl,R,ys,_,c,rfl,rfl,eR6,kD (by lia),?_⟩;have eM:hM M (k0,(uN:Int),(vN:Int),p) c=rz M3 c vN (Mq.minus (0,1) (1,1)):=by rw[<- hM3,<- hM1];rfl
 have mx7:=mx6.other (o:=.lst (ys.set c (.ref zz))) eR6 nRD nRa;rw[<- eM] at mx7;refine q _ _ ?_ mx7 aD ((Fqs.set fp6 c FR6).upd eR6);refine SX.write (SX.mono (sx1.trans (sx3.trans sx36)) fun x hx=>mem_cons_of_mem _ hx) (by simp)
theorem Y45:DZ 7 Z.f45 Z.d45 ["net"] (uH Z.c_Net Z.K) "equations":=by
 refine⟨?_,F45.b1 _ (by intros;rfl),F45.kp,m45⟩
 refine F45.ok9 pW fun _ _ _ s H _ Q E hr h=>?_;obtain⟨n,l,m,kb,ds,rfl,nt,hK,hm1,hm20,h40,hbig,q⟩:=h;have r1:=hr.mono (show 1<=6 by lia);have r4:=hr.mono (show 4<=6 by lia);have r5:=hr.mono (show 5<=6 by lia);refine⟨_,(aB (aS (i:=1) pW.nd rfl (Or.inl rfl) (cA (pv 0) NTx.cl X3 R32 r4 b32 .nil aK))
  (aB (aS (i:=2) pW.nd rfl (Or.inl rfl) (cA (pv 0) NTx.cl X2 R28 r1 b28 .nil aK))
  (aB (aS (i:=3) pW.nd rfl (Or.inr rfl) (aX dU (pv 2) (bZ bL rfl n_len PySem.boot_len (aA (fH (nl:=1) (fr:=[]) (Nc:=["row"]) (cl:=[]) rfl ⟨rfl,rfl,by decide +kernel,by decide +kernel,fun x c h=>(by cases h),fG rfl,rfl,fun i n h=>(by simp at h)⟩
    (dG (pv 1)) (fun _ _ _ _ _=>(bH (i:=0) Mm rfl (Or.inl rfl))) (fun _ _ _ _ _=>(pS (bC eV (eJ (pv 0) T.cl mW GW r1 bW .nil aK) cF (bK _))))
    (fun _ _ _ _ _=>(pv 0))) aC))))
  (aB (tJ (i:=4) (nl:=1) (fr:=[3]) (Nc:=["line","width"]) (cl:=[("width",s.heap.objs.size+1)]) pW.nd rfl rfl rfl ⟨rfl,rfl,by decide +kernel,by decide +kernel,fun x c h=>h,fG rfl,rfl,fun i n h=>match i,h with | 0,h=>by cases h;exact⟨3,rfl,rfl,rfl,rfl,.inl rfl⟩ | k+1,h=>by rw[show 1+(k+1)=k+2 by lia] at h;cases h⟩
    (gU rfl n_range (aA (pv 3) aC)) (fun _ _ _ _ _=>(bH (i:=0) wI rfl (Or.inl rfl))) (fun _ _ _ _ _=>fU)
    (fun _ _ _ _ _=>(aX Aw (cZ (aA (cT (v:=.ref Z.aN) rfl mv_NOUGHT rfl) aC)) (pv 1))) rfl)
  (aB (aS (i:=5) pW.nd rfl (Or.inl rfl) (aX Aw (cZ (aA (cT (v:=.ref Z.aN) rfl mv_NOUGHT rfl) aC)) (pv 3)))
  (aB (aS (i:=6) pW.nd rfl (Or.inl rfl) (pv 2))
  (aB (fC PassesOwn.never rfl (dG (pv 1)) (bH (i:=7) pW.nd rfl (Or.inl rfl))
   (aF (cG (bC eV (eJ (pv 7) T.cl mW GW r1 bW .nil aK) cF (bK _)) (aF (bY (d9 Y42 hr rfl (aA (pv 4) (aA (pv 7) aC))))) (aF (cG (bC eV (eJ (pv 7) T.cl mW GW r1 bW .nil aK) cF (bK _)) (aF (bY (d9 Y43 r5 rfl (aA (pv 5) (aA (pv 7) aC))))) (aB (bY (d9 Y44 hr rfl (aA (pv 4) (aA (pv 5) (aA (pv 7) (aA (pv 6) aC))))))
  (aF (Hi (i:=6) pW.nd rfl (Or.inl rfl) aE Fc))))))))
  (aF (aW (dS (aA (fH (nl:=1) (fr:=[]) (Nc:=["line"]) (cl:=[]) rfl ⟨rfl,rfl,by decide +kernel,by decide +kernel,fun x c h=>(by cases h),fG rfl,rfl,fun i n h=>(by simp at h)⟩
    (dG (eO gK (pv 4) (dY aE) iF)) (fun _ _ _ _ _=>(bH (i:=0) Vi rfl (Or.inl rfl))) (fun _ _ _ _ _=>fU)
    (fun _ _ _ _ _=>(eO (Ki (K:=Z.K) rfl) (pv 0) (dY aE) iF))) (aA (eO gK (pv 5) (dY aE) iF) aC)))))))))))),?_⟩
 obtain⟨dx,hn⟩:=nt.ob;refine⟨_,rfl,n,dx,_,rfl,hn,dA _ _ (by decide +kernel) (by decide +kernel),n,l,_,ds,rfl,nt,by lia,fun a xs H1 s1 na ea Rb=>?_⟩;have lxs:=Rb.length;obtain⟨dx1,hn1⟩:=(nt.same s1).ob;refine⟨_,rfl,n,dx1,_,rfl,hn1,dA _ _ (by decide +kernel) (by decide +kernel),n,l,_,ds,rfl,nt.same s1,?_⟩;refine⟨_,rfl,_,rfl,a,rfl,⟨_,SqL.of ea⟩,fun C0 hC0=>?_⟩;have sC0:=aI hC0 (.lst []);refine fB (xs:=xs) (fun i zs H'=>aZ H1 H'/\H' C0=some (.lst zs)/\zs.length=bA (ds.take i)) ⟨sC0,aD,rfl⟩ (fun i zs H' h=>h.2.1) (fun i zs H' _ h=>h.1.seq (SqL.of ea)) ?_ ?_
 ·rintro i zs x H2 hx ⟨s2,e2,lz⟩ C hC;have hi:i < ds.length:=by
   have:=(List.getElem?_eq_some_iff.mp hx).1;lia
  obtain⟨⟨k0,u,v,p⟩,hd⟩:∃d,ds[i]?=some d:=⟨_,getElem?_eq_getElem hi⟩
  obtain⟨y,z,ey,rw,fz⟩:=Rb.at hd;have ex:x=.ref y:=by rw[ey] at hx;exact(Option.some.inj hx).symm
  subst ex;obtain⟨dr,hy⟩:=id (rw.same s2);have et:ds.take (i+1)=ds.take i++[(k0,u,v,p)]:=by rw[take_add_one,hd];rfl
  have lh:=Ek (ds:=ds) i;have lh2:bA ds<=ds.length:=length_filter_le _ _;refine⟨gF.1,gF.2,?_⟩;refine⟨_,rfl,k0,y,dr,_,rfl,hy,(cU _ _ _ (by decide +kernel) (by decide +kernel) (by decide +kernel)),_,rfl,rfl,_,rfl,?_⟩
  by_cases hk:k0=.ho
  ·refine ifT (by show decide (V.str k0.wd=V.str Kd.ho.wd)=true;rw[cP];exact decide_eq_true hk) ⟨_,rfl,e2,bO (by lia),hC _ _ ⟨s2.change hC0,aD,?_⟩⟩;rw[et,fY,List.length_append,lz];show _+1=_+bV k0;unfold bV;rw[if_pos hk]
  ·refine ifF (by show decide (V.str k0.wd=V.str Kd.ho.wd)=false;rw[cP];exact decide_eq_false hk) (hC _ _ ⟨s2,e2,?_⟩);rw[et,fY,lz];show _=_+bV k0;unfold bV;rw[if_neg hk];rfl
 rintro zs0 H2 ⟨s2,e2,lz0⟩;rw[lxs,take_length] at lz0;refine⟨C0,zs0,rfl,.inl (SqL.of e2),_,_,rfl,rfl,?_⟩;obtain⟨W,hW⟩:∃W:Nat,W=m+bA ds:=⟨_,rfl⟩
 have lh2:bA ds<=ds.length:=length_filter_le _ _;have eW:(m:Int)+(zs0.length:Int)=(W:Int):=by rw[lz0,hW];lia
 show jH _ _ _ [some (.ref n),some (.ref a),some (.int (m:Int)),some (.int ((m:Int)+(zs0.length:Int))),none,none,none,none] H2;rw[eW];have hW60:W<=60:=by lia
 have hmW:m<=W:=by lia
 have s12:=s2;clear e2 sC0;refine⟨_,rfl,(W:Int),rfl,by lia,by lia,fun D hD=>?_⟩;rw[Int.toNat_natCast];have sD:=aI hD (.lst []);refine uX (n:=W) (fun i zs H'=>aZ H2 H'/\H' D=some (.lst zs)/\∃as:List Addr,zs=as.map V.ref/\as.length=i/\as.Nodup/\D∉as/\(∀b∈as,H2 b=none)/\∀b∈as,H' b=some (.lst (replicate W (.ref Z.aN)))) ⟨sD,aD,[],rfl,rfl,nodup_nil,(by simp),(fun b hb=>by cases hb),(fun b hb=>by cases hb)⟩ (fun i zs H' h=>h.2.1) ?_ ?_
 ·rintro i zs H3 hi ⟨s3,e3,as,rfl,la,nd,nD,fr,al⟩ C hC;refine⟨gF.1,gF.2,hJ ?_⟩;refine⟨zl9 1,fun l1 hl1=>?_⟩;have s4:=aI hl1 (.lst [.ref Z.aN]);have e4:upd H3 l1 (.lst [.ref Z.aN]) l1=some (.lst [.ref Z.aN]):=aD;generalize upd H3 l1 (.lst [.ref Z.aN])=H4 at s4 e4 ⊢;refine⟨_,rfl,l1,(W:Int),[.ref Z.aN],rfl,rfl,e4,by lia,by lia,?_,fun b hb=>?_⟩
  ·rw[Int.toNat_natCast,sizeLine_eq];simp only[length_cons,length_nil];lia
  rw[Int.toNat_natCast,lT];have s5:=aI hb (.lst (replicate W (.ref Z.aN)));have e5:upd H4 b (.lst (replicate W (.ref Z.aN))) b=some (.lst (replicate W (.ref Z.aN))):=aD;generalize upd H4 b (.lst (replicate W (.ref Z.aN)))=H5 at s5 e5 ⊢;have s35:=s4.trans s5;have e35:=s35 _ _ e3;have nbD:b≠D:=Ne.symm (aU (s4 _ _ e3) hb);have nba:b∉as:=fun z=>by rw[s4 _ _ (al b z)] at hb;cases hb
  refine⟨e35,bO (by rw[length_map];lia),hC _ _ ⟨(s3.trans s35).change hD,aD,as++[b],by rw[map_append];rfl,by rw[List.length_append,la];rfl,?_,?_,fun c hc=>?_,fun c hc=>?_⟩⟩
  ·rw[nodup_append];refine⟨nd,by simp,fun x hx y hy z=>?_⟩;have:y=b:=by simpa using hy
   exact nba (by rw[<- this,<- z];exact hx)
  ·intro z;rcases mem_append.mp z with z | z
   ·exact nD z
   ·have:D=b:=by simpa using z
    exact nbD this.symm
  ·rcases mem_append.mp hc with z | z
   ·exact fr c z
   ·have:c=b:=by simpa using z
    rw[this];exact(s3.trans s4).free hb
  ·rcases mem_append.mp hc with z | z
   ·rw[aY (fun y=>nD (by rw[<- y];exact z))];exact s35 _ _ (al c z)
   ·have:c=b:=by simpa using z
    rw[this,aY nbD];exact e5
 rintro zs3 H3 ⟨s3,e3,as,rfl,la,nd,nD,fr,al⟩;have mx3:Mx Z.K H3 D as (replicate W (replicate W (0,1))):=⟨e3,nd,nD,by rw[la,length_replicate],fun i b ps h1 h2=>by
  rw[eq_of_mem_replicate (mem_of_getElem? h2)];exact⟨_,al b (mem_of_getElem? h1),kX (fN _) W⟩⟩
 have nDH:H2 D=none:=hD;refine⟨zl9 1,fun l1 hl1=>?_⟩;have s4:=aI hl1 (.lst [.ref Z.aN]);have e4:upd H3 l1 (.lst [.ref Z.aN]) l1=some (.lst [.ref Z.aN]):=aD;generalize upd H3 l1 (.lst [.ref Z.aN])=H4 at s4 e4 ⊢;refine⟨_,rfl,l1,(W:Int),[.ref Z.aN],rfl,rfl,e4,by lia,by lia,?_,fun R hR=>?_⟩
 ·rw[Int.toNat_natCast,sizeLine_eq];simp only[length_cons,length_nil];lia
 rw[Int.toNat_natCast,lT];have s5:=aI hR (.lst (replicate W (.ref Z.aN)));have e5:upd H4 R (.lst (replicate W (.ref Z.aN))) R=some (.lst (replicate W (.ref Z.aN))):=aD;generalize upd H4 R (.lst (replicate W (.ref Z.aN)))=H5 at s5 e5 ⊢;have s25:=s3.trans (s4.trans s5);have nRH:H2 R=none:=(s3.trans s4).free hR;have nRD:R≠D:=Ne.symm (aU ((s4) _ _ mx3.d) hR);have nRa:R∉as:=fun z=>by rw[s4 _ _ (al R z)] at hR;cases hR
 have mx5:=(mx3.same s4).same s5;have allN:∀b∈R :: as,H2 b=none:=fun b hb=>by
  rcases mem_cons.mp hb with z | z
  ·rw[z];exact nRH
  ·exact fr b z
 have F5:Fqs Z.K H5 (replicate W (.ref Z.aN)) (replicate W (0,1)):=kX (fN _) W;refine⟨_,rfl,?_⟩;have eaH:=s12 _ _ ea;have Rb2:=Rb.same s12;refine⟨_,rfl,a,rfl,⟨_,SqL.of (s25 _ _ eaH)⟩,?_⟩;refine gH (xs:=xs) (fun i σ H'=>aZ H2 H'/\∃(M:List (List Q2)) (ys:List V) (rs:List Q2) (z7:Option V),σ=[some (.ref n),some (.ref a),some (.int (m:Int)),some (.int (W:Int)),some (.ref D),some (.ref R),some (.int ((m+bA (ds.take i):Nat):Int)),z7]/\Mx Z.K H' D as M/\MxB M W W (kK kb i+1)/\H' R=some (.lst ys)/\Fqs Z.K H' ys rs/\LnB rs W (kK kb i+1)/\(∀x y,Mq.val (jO M x y)=eqM m (ds.take i) x y)/\∀x,Mq.val (rs.getD x (0,1))=eqR m (ds.take i) x) ⟨s25,_,_,_,none,rfl,mx5,Uw W,e5,F5,yK W,fun x y=>by rw[Qf,rM];rfl,fun x=>by rw[qR,rM];rfl⟩ (fun i σ H' _ h=>h.1.seq (SqL.of eaH)) ?_ ?_
 ·rintro i x σ H6 hx ⟨s6,M,ys,rs,z7,rfl,mx,mb,eR,FR,lb,vM,vR⟩;have hi:i < ds.length:=by
   have:=(List.getElem?_eq_some_iff.mp hx).1;lia
  obtain⟨⟨k0,u,v,p⟩,hd⟩:∃d,ds[i]?=some d:=⟨_,getElem?_eq_getElem hi⟩
  obtain⟨y,z,ey,rw0,fz0⟩:=Rb2.at hd;have ex:x=.ref y:=by rw[ey] at hx;exact(Option.some.inj hx).symm
  subst ex;obtain⟨rd,bp⟩:=hK i _ hd;have lp:Low p:=rd.2.2.2.2.1;have bp:Bd (kb i) p:=bp;have ptm:cX (m:Int) u v:=⟨rd.1,rd.2.1,rd.2.2.1,rd.2.2.2.1⟩
  have ptW:cX (W:Int) u v:=⟨rd.1,by have:=rd.2.1;show u < (W:Int);have h2:u < (m:Int):=this;lia,rd.2.2.1,by have h2:v < (m:Int):=rd.2.2.2.1;show v < (W:Int);lia⟩
  have rw6:=rw0.same s6;have fz6:Fq Z.K H6 z p:=s6.fq fz0;obtain⟨dr,hy⟩:=id rw6;have et:ds.take (i+1)=ds.take i++[(k0,u,v,p)]:=by rw[take_add_one,hd];rfl
  have hh:=Ek (ds:=ds) (i+1);rw[et,fY] at hh;have hh:bA (ds.take i)+bV k0<=bA ds:=hh;have eN:kK kb (i+1)+1=(kK kb i+1)+(4*kb i+20):=by show kK kb i+(4*kb i+20)+1=_;lia
  have leN:kK kb i+(4*kb i+20)<=kK kb ds.length:=wQ kb (i:=i+1) hi;have eM:∀x y,eqM m (ds.take (i+1)) x y=eqM m (ds.take i) x y+cM (k0,u,v,p) (m+bA (ds.take i)) x y:=fun x y=>by rw[et,Bk]
  have eRr:∀x,eqR m (ds.take (i+1)) x=eqR m (ds.take i) x+cR (k0,u,v,p) (m+bA (ds.take i)) x:=fun x=>by rw[et,Cg]
  have eH:bA (ds.take (i+1))=bA (ds.take i)+bV k0:=by rw[et,fY]
  rw[eN,eH];have lst:=mx.lsts
  cases k0 with
  |pc=>
   have p0:0 < p.1:=rd.2.2.2.2.2.1 rfl;refine⟨_,rfl,Kd.pc,y,dr,_,rfl,hy,(cU _ _ _ (by decide +kernel) (by decide +kernel) (by decide +kernel)),_,rfl,rfl,_,rfl,ifT (by show decide (V.str Kd.pc.wd=V.str Kd.pc.wd)=true;rw[cP];rfl) ?_⟩;refine⟨_,rfl,_,rfl,D,y,z,as,M,(.pc,u,v,p),W,kK kb i+1,kb i,rfl,mx,mb,rw6,fz6,ptW,lp,p0,bp,by lia,fun H7 sx7 mx7=>?_⟩;obtain⟨mb7,v7⟩:=qg3 (d:=(.pc,u,v,p)) (h:=m+bA (ds.take i)) mb ptm hmW rfl lp p0 bp;have eR7:=sx7 _ _ eR nRa;refine⟨SX.same s6 sx7 fr,_,ys,rs,_,rfl,mx7,mb7.mono (by lia),eR7,SX.fqs lst sx7 FR,lb.mono (by lia),fun x y=>by rw[v7,vM,eM],fun x=>?_⟩;rw[vR,eRr];show _=_+(0:Rat)
   rw[Rat.add_zero]
  |pu=>
   refine⟨_,rfl,Kd.pu,y,dr,_,rfl,hy,(cU _ _ _ (by decide +kernel) (by decide +kernel) (by decide +kernel)),_,rfl,rfl,_,rfl,ifF (by show decide (V.str Kd.pu.wd=V.str Kd.pc.wd)=false;rw[cP];rfl) ?_⟩;refine⟨_,rfl,Kd.pu,y,dr,_,rfl,hy,(cU _ _ _ (by decide +kernel) (by decide +kernel) (by decide +kernel)),_,rfl,rfl,_,rfl,ifT (by show decide (V.str Kd.pu.wd=V.str Kd.pu.wd)=true;rw[cP];rfl) ?_⟩;refine⟨_,rfl,_,rfl,R,y,z,ys,rs,(.pu,u,v,p),W,kK kb i+1,kb i,rfl,eR,FR,lb,rw6,fz6,ptW,lp,bp,by lia,fun ys' H7 sx7 eR7 F7=>?_⟩;obtain⟨lb7,v7⟩:=Wr (d:=(.pu,u,v,p)) (h:=m+bA (ds.take i)) lb ptm hmW rfl lp bp;have mx7:Mx Z.K H7 D as M:=⟨sx7 _ _ mx.d (by simp;exact Ne.symm nRD),mx.n,mx.nd,mx.la,fun i' b ps h1 h2=>by
    obtain⟨ws,h,f⟩:=mx.r i' b ps h1 h2;refine⟨ws,sx7 _ _ h (by simp;exact fun z=>nRa (by rw[<- z];exact mem_of_getElem? h1)),SX.fqs (as:=[R]) (fun c hc=>?_) sx7 f⟩;have:c=R:=by simpa using hc
    exact⟨ys,by rw[this];exact eR⟩⟩
   refine⟨SX.same s6 sx7 (fun c hc=>by have:c=R:=(by simpa using hc);rw[this];exact nRH),M,ys',_,_,rfl,mx7,mb.mono (by lia),eR7,F7,lb7.mono (by lia),fun x y=>?_,fun x=>by rw[v7,vR,eRr]⟩;rw[vM,eM];show _=_+(0:Rat)
   rw[Rat.add_zero]
  |ho=>
   have hc1:bV Kd.ho=1:=rfl;rw[hc1] at hh;have hcW:m+bA (ds.take i) < W:=by lia
   refine⟨_,rfl,Kd.ho,y,dr,_,rfl,hy,(cU _ _ _ (by decide +kernel) (by decide +kernel) (by decide +kernel)),_,rfl,rfl,_,rfl,ifF (by show decide (V.str Kd.ho.wd=V.str Kd.pc.wd)=false;rw[cP];rfl) ?_⟩;refine⟨_,rfl,Kd.ho,y,dr,_,rfl,hy,(cU _ _ _ (by decide +kernel) (by decide +kernel) (by decide +kernel)),_,rfl,rfl,_,rfl,ifF (by show decide (V.str Kd.ho.wd=V.str Kd.pu.wd)=false;rw[cP];rfl) ?_⟩;refine⟨_,rfl,_,rfl,_,rfl,_,rfl,D,R,y,z,as,M,ys,rs,(.ho,u,v,p),W,kK kb i+1,m+bA (ds.take i),rfl,mx,mb,eR,FR,lb.w,nRD,nRa,rw6,fz6,ptW,hcW,by lia,fun ys' H7 sx7 mx7 eR7 F7=>?_⟩;obtain⟨mb7,v7⟩:=qf3 (d:=(.ho,u,v,p)) mb ptm hmW hcW rfl;have z0:Mq.val (rs.getD (m+bA (ds.take i)) (0,1))=0:=by
    rw[vR];exact xH (m:=m) _ _ _ (fun d hd'=>by
     obtain⟨i1,hi1⟩:=getElem?_of_mem (mem_of_mem_take hd');have:=(hK i1 d hi1).1;exact⟨this.1,this.2.1,this.2.2.1,this.2.2.2.1⟩) (Nat.le_refl _) (Nat.le_refl _)
   obtain⟨lb7,w7⟩:=qg7 (m:=m) (d:=(.ho,u,v,p)) lb hcW rfl lp bp z0;refine⟨_,rfl,_,_,rfl,rfl,?_⟩;refine⟨SX.same s6 sx7 allN,_,ys',_,some (.ref y),?_,mx7,mb7.mono (by lia),eR7,F7,lb7.mono (by lia),fun x y=>by rw[v7,vM,eM],fun x=>by rw[w7,vR,eRr]⟩;have e1:((m+bA (ds.take i):Nat):Int)+1=((m+(bA (ds.take i)+bV Kd.ho):Nat):Int):=by rw[hc1];lia
   rw[<- e1];rfl
 rintro σ H6 ⟨s6,M,ys,rs,z7,rfl,mx,mb,eR,FR,lb,vM,vR⟩;rw[lxs] at mb lb vM vR;rw[take_length] at vM vR;refine⟨_,rfl,1,rfl,D,_,rfl,SqL.of mx.d,fun C hC=>?_⟩;rw[Ka];have s7:=aI hC (.lst ((as.map V.ref).drop 1));have e7:upd H6 C (.lst ((as.map V.ref).drop 1)) C=some (.lst ((as.map V.ref).drop 1)):=aD;generalize upd H6 C (.lst ((as.map V.ref).drop 1))=H7 at s7 e7 ⊢;have mx7:=mx.same s7;refine⟨C,rfl,⟨_,SqL.of e7⟩,fun P hP=>?_⟩;have sP:=aI hP (.lst []);refine fB (xs:=(as.map V.ref).drop 1) (fun i zs H'=>aZ H7 H'/\H' P=some (.lst zs)/\Fms Z.K H7 H' zs (((M.drop 1).map (List.drop 1)).take i)/\∀x∈zs,x≠.ref P) ⟨sP,aD,⟨rfl,fun i x ps h=>by simp at h⟩,fun x hx=>by cases hx⟩ (fun i zs H' h=>h.2.1) (fun i zs H' _ h=>h.1.seq (SqL.of e7)) ?_ ?_
 ·rintro i zs x H8 hx ⟨s8,e8,fm,nP⟩ C' hC';rw[getElem?_drop,getElem?_map] at hx;obtain⟨b,hb,rfl⟩:=Option.map_eq_some_iff.mp hx;have bl':=(List.getElem?_eq_some_iff.mp hb).1;have hM1:1+i < M.length:=by rw[<- mx.la];exact bl'
  obtain⟨ws,hws,fws⟩:=(mx7.same s8).r (1+i) b M[1+i] hb (getElem?_eq_getElem hM1);have lz:=fm.l;rw[length_take,length_map,length_drop] at lz;have hM60:M.length<=60:=by rw[mb.h];exact hW60
  refine⟨gF.1,gF.2,hJ ?_⟩;refine⟨_,rfl,1,rfl,b,_,rfl,SqL.of hws,fun c hc=>?_⟩;rw[Ka];have s9:=aI hc (.lst (ws.drop 1));have e9:upd H8 c (.lst (ws.drop 1)) c=some (.lst (ws.drop 1)):=aD;generalize upd H8 c (.lst (ws.drop 1))=H9 at s9 e9 ⊢;have e89:=s9 _ _ e8;have ncP:c≠P:=Ne.symm (aU e8 hc);refine⟨e89,bO (by lia),hC' _ _ ⟨(s8.trans s9).change hP,aD,⟨?_,fun j y ps h1 h2=>?_⟩,fun y hy=>?_⟩⟩
  ·rw[List.length_append,length_take,length_map,length_drop];simp only[length_cons,length_nil];lia
  ·have ee:((M.drop 1).map (List.drop 1))[i]?=some (M[1+i].drop 1):=by rw[getElem?_map,getElem?_drop,getElem?_eq_getElem hM1];rfl
   rw[take_add_one,ee] at h2
   by_cases hj:j < zs.length
   ·rw[getElem?_append_left hj] at h1;rw[getElem?_append_left (by rw[<- fm.l];exact hj)] at h2;obtain⟨a',xs',q1,q2,q3,q4⟩:=fm.r j y ps h1 h2;have na:a'≠P:=fun z=>nP y (mem_of_getElem? h1) (by rw[q1,z]);exact⟨a',xs',q1,q2,by rw[aY na];exact s9 _ _ q3,(q4.same s9).upd e89⟩
   ·rw[getElem?_append_right (by lia)] at h1;rw[getElem?_append_right (by rw[<- fm.l];lia),<- fm.l] at h2;have j0:j - zs.length=0:=by
     have:=(List.getElem?_eq_some_iff.mp h1).1;simp at this;lia
    rw[j0] at h1 h2;have h1:V.ref c=y:=by simpa using h1
    have h2:M[1+i].drop 1=ps:=by simpa using h2
    subst h1;rw[<- h2];exact⟨c,_,rfl,s8.free hc,by rw[aY ncP];exact e9,((Fqs.drop1 (fws.same s9))).upd e89⟩
  ·rcases mem_append.mp hy with z | z
   ·exact nP y z
   ·have:y=.ref c:=by simpa using z
    rw[this];exact fun z=>ncP (by injection z)
 rintro us H8 ⟨s8,e8,fm,nP⟩;rw[show ((as.map V.ref).drop 1).length=((M.drop 1).map (List.drop 1)).length by rw[length_drop,length_map,length_map,length_drop,mx.la],take_length] at fm;have s78:=s7.trans s8;have eR8:=s78 _ _ eR;refine⟨_,rfl,1,rfl,R,_,rfl,SqL.of eR8,fun r hr'=>?_⟩;rw[Ka];have s9:=aI hr' (.lst (ys.drop 1));have e9:upd H8 r (.lst (ys.drop 1)) r=some (.lst (ys.drop 1)):=aD;generalize upd H8 r (.lst (ys.drop 1))=H9 at s9 e9 ⊢;refine⟨zl9 2,fun t ht=>?_⟩;have sT:=aI ht (.tup [.ref P,.ref r]);have s9T:=s9.trans sT;have s0:aZ H (upd H9 t (.tup [.ref P,.ref r])):=s1.trans (s12.trans (s6.trans (s78.trans s9T)));have s07:aZ H H7:=s1.trans (s12.trans (s6.trans s7));have fl:∀c,H7 c=none->H c=none:=fun c h=>s07.free h;refine q t P r us (ys.drop 1) ((M.drop 1).map (List.drop 1)) (rs.drop 1) _ s0 aD (fl P hP) ((s07.trans s8).free hr') (s9T _ _ e8) (sT _ _ e9) ⟨fm.l,fun i x ps h1 h2=>?_⟩ (Fqs.drop1 (FR.same (s78.trans s9T))) (fun x hx=>⟨nP x hx,?_⟩) ⟨?_,?_,?_,?_⟩
 ·obtain⟨a',xs',q1,q2,q3,q4⟩:=fm.r i x ps h1 h2;exact⟨a',xs',q1,fl a' q2,s9T _ _ q3,q4.same s9T⟩
 ·intro z;obtain⟨i,hi⟩:=getElem?_of_mem hx;have il:i < ((M.drop 1).map (List.drop 1)).length:=by rw[<- fm.l];exact(List.getElem?_eq_some_iff.mp hi).1
  obtain⟨a',xs',q1,q2,q3,q4⟩:=fm.r i x _ hi (getElem?_eq_getElem il);rw[q1] at z;have:a'=r:=by injection z
  rw[<- this,q3] at hr'
  cases hr'
 ·have:=Rj mb
  rwa [show W - 1=m - 1+bA ds by lia] at this
 ·have:=Pk lb
  rwa [show W - 1=m - 1+bA ds by lia] at this
 ·intro i j;rw[Mb];exact vM _ _
 ·intro i;rw[uZ];exact vR _
theorem Y46:DZ 2 Z.f46 Z.d46 ["some"] (Shp.Jx Z.K) "in_wholes":=by
 refine⟨?_,F46.b1 _ (by intros;rfl),F46.kp,m46⟩
 refine F46.ok9 Up fun _ _ _ s H _ Q E hr h=>?_;obtain⟨a,xs,ps,n,rfl,hS,hF,hP,hB,h100,hn,q⟩:=h;refine⟨_,(aB (aS (i:=1) Up.nd rfl (Or.inr rfl) aE)
  (aB (fC PassesOwn.never rfl (dG (pv 0)) (bH (i:=2) Up.nd rfl (Or.inl rfl))
   (aF (aS (i:=1) Up.nd rfl (Or.inr rfl) (aX cI (aX jE (pv 1) (d9 Y2 hr rfl (aA (pv 1) (aA (aQ aT (pv 2) aE (fun _ _=>rfl)) aC)))) (aQ aT (pv 2) aE (fun _ _=>rfl))))))
  (aF (aW (dS (aA (fH (nl:=1) (fr:=[1]) (Nc:=["one","bottom"]) (cl:=[("bottom",s.heap.objs.size+1)]) rfl ⟨rfl,rfl,by decide +kernel,by decide +kernel,fun x c h=>h,fG rfl,rfl,fun i n h=>match i,h with | 0,h=>by cases h;exact⟨1,rfl,rfl,rfl,rfl,.inl rfl⟩ | k+1,h=>by rw[show 1+(k+1)=k+2 by lia] at h;cases h⟩
    (dG (pv 0)) (fun _ _ _ _ _=>(bH (i:=0) wG rfl (Or.inl rfl))) (fun _ _ _ _ _=>fU)
    (fun _ _ _ _ _=>(aX cI (aQ (pE (K:=Z.K) rfl) (pv 0) aE (fun _ _=>rfl)) (aX jE (pv 1) (aQ (pE (K:=Z.K) rfl) (pv 0) aE (fun _ _=>rfl)))))) (aA (pv 1) aC))))))),?_⟩
 have lx:=hF.length;refine⟨_,rfl,a,rfl,⟨_,hS⟩,?_⟩;refine gH (xs:=xs) (fun i σ H'=>H'=H/\i<=ps.length/\∃z,σ=[some (.ref a),some (.int (eQ (ps.take i))),z]) ⟨rfl,Nat.zero_le _,none,rfl⟩ (fun i σ H' _ h=>by rw[h.1];exact hS) ?_ ?_
 ·rintro i x σ H' hx ⟨rfl,hi,z,rfl⟩;obtain⟨u,p,rfl,ep,fu⟩:=hF.get hx;have hi':i < ps.length:=(List.getElem?_eq_some_iff.mp ep).1;obtain⟨f1,f2,_⟩:=nV hP hB i hi;have mono:=Nat.mul_le_mul_left n hi;have hp:=hP p (mem_of_getElem? ep);have pb:=(hB p (mem_of_getElem? ep)).b;have g0:gc (eQ (ps.take i)) p.2≠0:=by have:=Mq.vV (a:=eQ (ps.take i)) (show p.2≠0 by lia);lia
  have gb:Mq.B n (gc (eQ (ps.take i)) p.2):=by
   have:=Es (t:=eQ (ps.take i)) (show p.2≠0 by lia);rw[Vc (by lia)] at this;exact pb.le this
  have qb:Mq.B (1+n*i) (Int.fdiv (eQ (ps.take i)) (gc (eQ (ps.take i)) p.2)):=by
   have d1:gc (eQ (ps.take i)) p.2 ∣ eQ (ps.take i):=by unfold gc;exact Int.gcd_dvd_left ..
   obtain⟨k,hk⟩:=d1;have:=Mq.iW g0 hk;rw[gA g0 hk];exact f2.le this
  refine⟨_,rfl,_,rfl,cK rfl fu ⟨_,_,rfl,gB g0 gb (by lia) (cK rfl fu (cJ qb pb (by lia) (by lia) ?_))⟩⟩;refine⟨rfl,hi',some (.ref u),?_⟩;rw[Mq.mH ep];rfl
 rintro σ H' ⟨rfl,_,z,rfl⟩;rw[lx,take_length];obtain⟨f1,f2,f3⟩:=nV hP hB ps.length (Nat.le_refl _);rw[take_length] at f1 f2 f3;refine⟨_,rfl,a,rfl,⟨_,hS⟩,fun D hD=>?_⟩;have sD:=aI hD (.lst []);refine fB (xs:=xs) (fun i zs H1=>aZ H' H1/\H1 D=some (.lst zs)/\zs=((ps.take i).map (Cq (eQ ps))).map V.int) ⟨sD,aD,rfl⟩ (fun i zs H1 h=>h.2.1) (fun i zs H1 _ h=>h.1.seq hS) ?_ ?_
 ·rintro i zs x H1 hx ⟨s1,e1,rfl⟩ C hC;obtain⟨u,p,rfl,ep,fu⟩:=hF.get hx;have hi':i < ps.length:=(List.getElem?_eq_some_iff.mp ep).1;have mem:=mem_of_getElem? ep;have hp:=hP p mem;obtain⟨k,hk⟩:=f3 p mem;have fu1:=s1.fq fu;have kb:Mq.B (1+n*ps.length) (Int.fdiv (eQ ps) p.2):=by
   have e:=gA (show p.2≠0 by lia) (show eQ ps=p.2*k by rw[hk,Int.mul_comm]);rw[e];refine f2.le ?_;rw[hk,Int.natAbs_mul];exact Nat.le_mul_of_pos_right _ (by lia)
  refine⟨gF.1,gF.2,hJ ?_⟩;refine dQ rfl fu1 ⟨_,rfl,cK rfl fu1 (gB (show p.2≠0 by lia) (hB p mem).b (by lia) (cJ (hB p mem).a kb (by lia) (by lia) ?_))⟩;refine⟨e1,bO (by rw[length_map,length_map,length_take];lia),hC _ _ ⟨s1.change hD,aD,?_⟩⟩;rw[take_add_one,ep,map_append,map_append];rfl
 rintro zs H1 ⟨s1,e1,rfl⟩;rw[lx,take_length] at e1;refine⟨_,rfl,zl9 2,fun t ht=>?_⟩;have s2:=aI ht (.tup [.ref D,.int (eQ ps)]);exact q t D _ (s1.trans s2) hD (SqT.of aD) (s2 _ _ e1)
theorem Y47:DZ 1 Z.f47 Z.d47 ["rows","rank","column"] (Shp.Mn Z.K) "pivot_place":=by
 refine⟨?_,F47.b3 _ _ _ (by intros;rfl),F47.kp,m47⟩
 refine F47.ok9 Wt fun _ _ _ s H _ Q E hr h=>?_;obtain⟨l,D,zs,R,r,c,m,w',rfl,hS,hI,hm,hw,hc,hr',h100,q1,q2⟩:=h;refine⟨_,(aB (fC PassesOwn.never rfl (xM rfl n_range (aA (pv 1) (aA (bZ bL rfl n_len PySem.boot_len (aA (pv 0) aC)) aC))) (bH (i:=3) Wt.nd rfl (Or.inl rfl))
   (aF (cG (bC pY (aQ bG (aQ bG (pv 0) (pv 3) (fun _ _=>rfl)) (pv 2) (fun _ _=>rfl)) aE (bK _)) (aF (aW (pv 3))) bN)))
  (aF (aW qa1))),?_⟩
 have lz:=hI.length;obtain⟨k,hk⟩:∃k,m=r+k:=⟨m - r,by lia⟩
 refine⟨_,rfl,_,rfl,l,zs,rfl,.inl hS,(r:Int),(zs.length:Int),rfl,⟨by lia,by lia,by lia,by lia⟩,?_⟩;rw[show ((zs.length:Int) - (r:Int)).toNat=k by lia];refine iD (lo:=(r:Int)) (n:=k) (fun i σ H'=>H'=H/\(∀j,r<=j->j < r+i->ent R j c=0)/\∃z,σ=[some (.ref l),some (.int (r:Int)),some (.int (c:Int)),z]) ⟨rfl,fun j h1 h2=>absurd h1 (by lia),none,rfl⟩ ?_ ?_
 ·rintro i σ H' hi ⟨rfl,hz,z,rfl⟩;obtain⟨u,eu,nu,hu⟩:=hI.at (i:=r+i) (by lia);have eu':atI zs ((r:Int)+(i:Int))=some (.ref u):=by have:=bX eu;rwa [Int.natCast_add] at this
  have ec:=bX (kB (l:=R.getD (r+i) []) (i:=c) (by rw[hw _ (by lia)];exact hc));refine⟨_,rfl,_,rfl,l,zs,_,_,rfl,rfl,hS,eu',_,rfl,u,_,_,_,rfl,rfl,SqL.of hu,ec,rfl,_,rfl,qM (fun e=>?_) (fun e=>?_)⟩
  ·refine⟨_,rfl,?_⟩;have ne:ent R (r+i) c≠0:=fun z=>by
    have z':(R.getD (r+i) []).getD c 0=0:=z;rw[z'] at e;simp at e
   have:=q1 (r+i) (by lia) (by lia) ne
   rwa [Int.natCast_add] at this
  ·refine⟨rfl,fun j h1 h2=>?_,_,rfl⟩
   by_cases hj:j=r+i
   ·rw[hj];simp at e;exact e
   ·exact hz j h1 (by lia)
 ·rintro σ H' ⟨rfl,hz,z,rfl⟩;exact q2 fun i h1 h2=>hz i h1 (by lia)
theorem Y48:DZ 1 Z.f48 Z.d48 ["row","upper","column","divisor"] (Shp.rE Z.K) "cleared":=by
 refine⟨?_,F48.b4 _ _ _ _ (by intros;rfl),F48.kp,m48⟩
 refine F48.ok9 Si fun _ _ _ s H _ Q E hr h=>?_;obtain⟨u,v,row,upper,c,n,dv,rfl,hu,hv,hl,h100,hc,hd,b1,b2,bd,hn,q⟩:=h;refine⟨_,(aB (aS (i:=4) Si.nd rfl (Or.inr rfl) (aQ bG (pv 1) (pv 2) (fun _ _=>rfl)))
  (aB (aS (i:=5) Si.nd rfl (Or.inr rfl) (aQ bG (pv 0) (pv 2) (fun _ _=>rfl)))
  (aF (aW (fH (nl:=2) (fr:=[4,5,3]) (Nc:=["here","above","own","other","divisor"]) (cl:=[("own",s.heap.objs.size+2),("other",s.heap.objs.size+3),("divisor",s.heap.objs.size+1)]) (g:=(Ed Z.K 2 (jU (iX 0) (jU (iX 1) Gp)))) rfl ⟨rfl,rfl,by decide +kernel,by decide +kernel,(cY rfl (cY rfl (cY rfl (iS)))),fG rfl,rfl,fun i n h=>match i,h with | 0,h=>by cases h;exact⟨4,rfl,rfl,rfl,rfl,.inl rfl⟩ | 1,h=>by cases h;exact⟨5,rfl,rfl,rfl,rfl,.inl rfl⟩ | 2,h=>by cases h;exact⟨3,rfl,rfl,rfl,rfl,.inl rfl⟩ | k+3,h=>by rw[show 2+(k+3)=k+5 by lia] at h;cases h⟩
    (Pu rfl n_zip rfl (aA (pv 0) (aA (pv 1) aC))) (fun _ _ _ _ _=>(kF rfl (dB (bH (i:=0) eZ rfl (Or.inl rfl)) (dB (bH (i:=1) eZ rfl (Or.inl rfl)) iT)))) (fun _ _ _ _ _=>fU)
    (fun _ _ _ _ _=>(aX jE (aX iN (aX cI (pv 2) (pv 0)) (aX cI (pv 3) (pv 1))) (pv 4)))))))),?_⟩
 have e1:=bX (kB (l:=upper) (i:=c) (by lia));have e2:=bX (kB (l:=row) (i:=c) (by lia));refine⟨_,rfl,_,rfl,v,_,_,_,rfl,rfl,hv,e1,?_⟩;refine⟨_,rfl,_,rfl,u,_,_,_,rfl,rfl,hu,e2,?_⟩;refine⟨_,rfl,_,rfl,u,v,rfl,⟨_,hu⟩,⟨_,hv⟩,fun D hD=>?_⟩;have sD:=aI hD (.lst []);refine Be (xs:=row.map V.int) (ys:=upper.map V.int) (fun i zs H'=>aZ H H'/\H' D=some (.lst zs)/\zs=((gY upper row c dv).take i).map V.int) ⟨sD,aD,rfl⟩ (fun i zs H' h=>h.2.1) (fun i zs H' _ h=>⟨h.1.seq hu,h.1.seq hv⟩) ?_ ?_
 ·rintro i zs x y H1 T1 ex ey ⟨s1,e1',rfl⟩ hT C hC;have hi:i < row.length:=by have:=(List.getElem?_eq_some_iff.mp ex).1;simpa using this
  have ex':x=.int (row.getD i 0):=by rw[kB hi] at ex;cases ex;rfl
  have ey':y=.int (upper.getD i 0):=by rw[kB (by lia)] at ey;cases ey;rfl
  subst ex' ey';have sT:=aI hT (.tup [.int (row.getD i 0),.int (upper.getD i 0)]);refine⟨T1,_,rfl,SqT.of aD,rfl,_,_,rfl,_,_,rfl,rfl,kO.1,kO.2,hJ ?_⟩;have mm:Mq.B (n+n+1) (upper.getD c 0*row.getD i 0 - row.getD c 0*upper.getD i 0):=Mq.B.sub ((b2 c).mul (b1 i)) ((b1 c).mul (b2 i));refine⟨_,rfl,_,rfl,cJ (b2 c) (b1 i) (by lia) (by lia) ⟨_,rfl,_,rfl,cJ (b1 c) (b2 i) (by lia) (by lia) ⟨_,_,rfl,rfl,_,rfl,gB hd bd (by lia) ?_⟩⟩⟩;have ll:(gY upper row c dv).length=row.length:=by unfold gY;rw[length_zipWith];lia
  have eA:=sT _ _ e1';refine⟨eA,bO (by rw[length_map,length_take];lia),hC _ _ ⟨(s1.trans sT).change hD,aD,?_⟩⟩;have eg:(gY upper row c dv)[i]?=some (Int.fdiv (upper.getD c 0*row.getD i 0 - row.getD c 0*upper.getD i 0) dv):=by
   unfold gY;rw[getElem?_zipWith,lP hi,lP (show i < upper.length by lia)]
  rw[take_add_one,eg,map_append];rfl
 rintro zs H1 ⟨s1,e1',rfl⟩;have ll:(gY upper row c dv).length=row.length:=by unfold gY;rw[length_zipWith];lia
 rw[length_map,length_map,take_of_length_le (by rw[ll];lia)] at e1';exact q D H1 s1 hD e1'
theorem Y49:DZ 2 Z.f49 Z.d49 ["rows","rank","column","divisor"] (Shp.qC Z.K) "cleared_rows":=by
 refine⟨?_,F49.b4 _ _ _ _ (by intros;rfl),F49.kp,m49⟩
 refine F49.ok9 wS fun _ _ _ s H _ Q E hr h=>?_;obtain⟨l,D0,zs,R,r,c,m,w',n,dv,rfl,hS,hI,hm,hw,hc,hw100,hr',h100,hd,hB,bd,hn,q⟩:=h;refine⟨_,(aB (aS (i:=4) wS.nd rfl (Or.inr rfl) (aQ bG (pv 0) (pv 1) (fun _ _=>rfl)))
  (aF (aW (fH (nl:=2) (fr:=[4,1,3,2]) (Nc:=["place","row","upper","rank","divisor","column"]) (cl:=[("upper",s.heap.objs.size+4),("rank",s.heap.objs.size+1),("divisor",s.heap.objs.size+3),("column",s.heap.objs.size+2)]) (g:=(Ed Z.K 2 (jU (iX 0) (jU (iX 1) Gp)))) rfl ⟨rfl,rfl,by decide +kernel,by decide +kernel,(cY rfl (cY rfl (cY rfl (cY rfl (iS))))),fG rfl,rfl,fun i n h=>match i,h with | 0,h=>by cases h;exact⟨4,rfl,rfl,rfl,rfl,.inl rfl⟩ | 1,h=>by cases h;exact⟨1,rfl,rfl,rfl,rfl,.inl rfl⟩ | 2,h=>by cases h;exact⟨3,rfl,rfl,rfl,rfl,.inl rfl⟩ | 3,h=>by cases h;exact⟨2,rfl,rfl,rfl,rfl,.inl rfl⟩ | k+4,h=>by rw[show 2+(k+4)=k+6 by lia] at h;cases h⟩
    (pI rfl n_enumerate rfl (aA (pv 0) aC)) (fun _ _ _ _ _=>(kF rfl (dB (bH (i:=0) dI rfl (Or.inl rfl)) (dB (bH (i:=1) dI rfl (Or.inl rfl)) iT)))) (fun _ _ _ _ _=>fU)
    (fun _ _ _ _ _=>(kZ (bC eV (pv 0) (pv 3) (bK _)) (pv 1) (d9 Y48 hr rfl (aA (pv 1) (aA (pv 2) (aA (pv 5) (aA (pv 4) aC))))))))))),?_⟩
 have lz:=hI.length;obtain⟨v,ev,nv,hv⟩:=hI.at (i:=r) (by lia);refine⟨_,rfl,_,rfl,l,zs,_,_,rfl,rfl,hS,bX ev,?_⟩;refine⟨_,rfl,l,rfl,⟨_,hS⟩,fun D hD=>?_⟩;have sD:=aI hD (.lst []);have ll:=Mq.Hy R r c dv;refine qO (xs:=zs) (fun i ys H'=>aZ H H'/\H' D=some (.lst ys)/\Imx D H' ys ((cN R r c dv).take i)) ⟨sD,aD,.nil⟩ (fun i ys H' h=>h.2.1) (fun i ys H' _ h=>h.1.seq hS) ?_ ?_
 ·rintro i ys x H1 T1 ex ⟨s1,e1,I1⟩ hT C hC;have hi:i < m:=by have:=(List.getElem?_eq_some_iff.mp ex).1;lia
  obtain⟨u,eu,nu,hu⟩:=hI.at (i:=i) (by lia);have exu:x=.ref u:=by rw[eu] at ex;cases ex;rfl
  subst exu;have lI:=I1.length;rw[length_take] at lI;have cg:=oY (R:=R) (i:=i) (by lia) r c dv;have cs:(cN R r c dv).take (i+1)=(cN R r c dv).take i++[(cN R r c dv).getD i []]:=by
   rw[take_add_one,getD_eq_getElem?_getD,getElem?_eq_getElem (show i < (cN R r c dv).length by lia)];rfl
  have sT:=aI hT (.tup [.int (i:Int),.ref u]);have uD:∀{x:Addr} {o:HO},H x=some o->x≠D:=fun h z=>by rw[z,hD] at h;cases h
  refine⟨T1,_,rfl,SqT.of aD,rfl,_,_,rfl,_,_,rfl,rfl,kO.1,kO.2,hJ ?_⟩;generalize upd H1 T1 (.tup [.int (i:Int),.ref u])=H2 at sT ⊢;have sA:=s1.trans sT;have eA:=sT _ _ e1;refine⟨_,rfl,_,rfl,rfl,_,rfl,qM (fun e=>?_) (fun e=>?_)⟩
  ·have ei:i=r:=by simp at e;lia
   refine⟨_,rfl,eA,bO (by lia),hC _ _ ⟨sA.change hD,aD,?_⟩⟩;rw[cs,cg,if_pos ei];exact((I1.same sT).app (.cons (uD hu) (sA _ _ hu) .nil)).upd
  ·have ei:i≠r:=by simp at e;lia
   refine⟨_,rfl,_,rfl,_,rfl,_,rfl,u,v,R.getD i [],R.getD r [],c,n,dv,rfl,SqL.of (sA _ _ hu),SqL.of (sA _ _ hv),by rw[hw i hi,hw r hr'],by rw[hw i hi];exact hw100,by rw[hw i hi];exact hc,hd,fun j=>hB i j,fun j=>hB r j,bd,hn,fun l3 H3 s3 n3 e3=>?_⟩;have eB:=s3 _ _ eA;have n3':l3≠D:=fun z=>by rw[z,eA] at n3;cases n3
   refine⟨eB,bO (by lia),hC _ _ ⟨(sA.trans s3).change hD,aD,?_⟩⟩;rw[cs,cg,if_neg ei];exact((I1.same (sT.trans s3)).app (.cons n3' e3 .nil)).upd
 rintro ys H1 ⟨s1,e1,I1⟩;rw[lz,take_of_length_le (by lia)] at I1;exact q D ys H1 s1 hD e1 I1
theorem Y50:DZ 3 Z.f50 Z.d50 ["rows","width"] (Shp.rR Z.K) "eliminated":=by
 refine⟨?_,F50.b2 _ _ (by intros;rfl),F50.kp,m50⟩
 refine F50.ok9 iM fun _ _ _ s H _ Q E hr h=>?_;obtain⟨l,D0,zs,R,m,w',n,Pr,rfl,hS,hI,hm,hw,hmw,hw100,hB,hn1,hn,hm31,hPr,hSt,q⟩:=h;have r1:=hr.mono (show 1<=2 by lia);refine⟨_,(aB (aS (i:=0) iM.nd rfl (Or.inl rfl) (jW gW rfl n_list PyProof.Rows.boot_list (aA (pv 0) aC)))
  (aB (aS (i:=2) iM.nd rfl (Or.inl rfl) aE)
  (aB (aS (i:=3) iM.nd rfl (Or.inl rfl) aE)
  (aB (aS (i:=4) iM.nd rfl (Or.inl rfl) aE)
  (aB (fC PassesOwn.never rfl (gU rfl n_range (aA (pv 1) aC)) (bH (i:=5) iM.nd rfl (Or.inl rfl))
   (aB (aS (i:=6) iM.nd rfl (Or.inl rfl) (d9 Y47 r1 rfl (aA (pv 0) (aA (pv 2) (aA (pv 5) aC)))))
  (aB (cG (yP (Gd (pv 6))) (aF rF) bN)
  (aB (cG (bC pY (pv 6) (pv 2) (bK _)) (aB (aS (i:=7) iM.nd rfl (Or.inl rfl) (aQ bG (pv 0) (pv 6) (fun _ _=>rfl)))
  (aB (kW (aQ bG (pv 0) (pv 2) (fun _ _=>rfl)) (oF (pv 0) (pv 6) jC))
  (aB (kW (pv 7) (oF (pv 0) (pv 2) jC))
  (aF (aS (i:=4) iM.nd rfl (Or.inl rfl) (Md Ew (pv 4))))))) bN)
  (aB (aS (i:=0) iM.nd rfl (Or.inl rfl) (d9 Y49 hr rfl (aA (pv 0) (aA (pv 2) (aA (pv 5) (aA (pv 3) aC))))))
  (aB (aS (i:=3) iM.nd rfl (Or.inl rfl) (aQ bG (aQ bG (pv 0) (pv 2) (fun _ _=>rfl)) (pv 5) (fun _ _=>rfl)))
  (aF (Hi (i:=2) iM.nd rfl (Or.inl rfl) aE Fc))))))))
  (aF (aW (Ii (kY cF (pv 0) (kY cF (pv 2) (kY cF (pv 3) (kY cF (pv 4) Iq)))) rfl rfl (by simp) (by decide))))))))),?_⟩
 refine⟨_,rfl,l,zs,rfl,.inl hS,fun l0 hl0=>?_⟩;have s0:=aI hl0 (.lst zs);have e0:upd H l0 (.lst zs) l0=some (.lst zs):=aD;generalize upd H l0 (.lst zs)=H0 at s0 e0 ⊢;refine⟨_,rfl,(m:Int),rfl,by lia,by lia,?_⟩;rw[Int.toNat_natCast];have b1:Mq.B n 1:=by
  show 1 < 2 ^ n;exact Nat.one_lt_two_pow (by lia)
 refine iD (lo:=0) (n:=m) (fun i σ H'=>aZ H H'/\∃(lR:Addr) (zs':List V) (R':List (List Int)) (rank:Nat) (pivot sign:Int) (z5 z6 z7:Option V),σ=[some (.ref lR),some (.int (m:Int)),some (.int (rank:Int)),some (.int pivot),some (.int sign),z5,z6,z7]/\H lR=none/\H' lR=some (.lst zs')/\Imx lR H' zs' R'/\SI m w' (Mq.at2 R) R' rank i pivot sign/\Mq.SB n m R' rank i pivot/\Pr R') ⟨s0,l0,zs,R,0,1,1,none,none,none,rfl,hl0,e0,(hI.other hl0).same s0,.start hm hw,.start hB,hPr⟩ ?_ ?_
 ·rintro i σ H1 hi ⟨s1,lR,zs',R',rank,pivot,sign,z5,z6,z7,rfl,nR,eR,I1,S1,sb,p1⟩;rw[Int.zero_add];obtain⟨bR,bP⟩:=sb.bd5 S1 hm31;obtain⟨A1,c1,B1,_⟩:=S1.bar;have rm:=B1.rm;have rc:=B1.rc;have dn:pivot≠0:=fun z=>B1.dne (by rw[z];simp);clear B1;refine⟨_,rfl,_,rfl,_,rfl,lR,lR,zs',R',rank,i,m,w',rfl,SqL.of eR,I1,S1.len,S1.wid,by lia,rm,by lia,fun p h1 h2 ne=>?_,fun hz=>?_⟩
  ·refine⟨_,rfl,_,rfl,gL ?_⟩;have hrm:rank < m:=by lia
   refine(fun (hrest:∀(sg:Int) (z:Option V) (Hx:Hp) (zs2:List V) (R2:List (List Int)),aZ H Hx->Hx lR=some (.lst zs2)->Imx lR Hx zs2 R2->SI m w' (Mq.at2 R) R2 rank i pivot sg->ent R2 rank i≠0->Mq.SB n m R2 rank i pivot->Pr R2->W.KIN.Hid ((?T:Int->Option V->Hp->Prop) sg z Hx))=>?main) ?rest
   case main=>
    refine⟨_,rfl,_,rfl,rfl,_,rfl,qM (fun e=>?c1) (fun e=>?c2)⟩
    case c1=>
     have npr:p≠rank:=by simp at e;lia
     obtain⟨up,eup,nup,hup⟩:=I1.at (i:=p) (by rw[S1.len];lia);obtain⟨ur,eur,nur,hur⟩:=I1.at (i:=rank) (by rw[S1.len];lia);have lz:zs'.length=m:=I1.length.trans S1.len;refine⟨_,rfl,_,rfl,lR,zs',_,_,rfl,rfl,SqL.of eR,bX eup,?_⟩;refine⟨_,rfl,_,rfl,lR,zs',_,_,rfl,rfl,SqL.of eR,bX eur,_,rfl,_,rfl,lR,zs',_,p,rfl,rfl,eR,kD (by lia),?_⟩;have e2:upd H1 lR (.lst (zs'.set p (.ref ur))) lR=some (.lst (zs'.set p (.ref ur))):=aD;have I2:=(Imx.set nur hur p I1).upd (o:=.lst (zs'.set p (.ref ur)));have s2:aZ H (upd H1 lR (.lst (zs'.set p (.ref ur)))):=s1.change nR;have hup2:upd H1 lR (.lst (zs'.set p (.ref ur))) up=some (.lst ((R'.getD p []).map V.int)):=by rw[aY nup];exact hup
     generalize upd H1 lR (.lst (zs'.set p (.ref ur)))=H2 at e2 I2 s2 hup2 ⊢;refine⟨_,rfl,_,rfl,_,rfl,lR,_,_,rank,rfl,rfl,e2,kD (by rw[length_set];lia),?_⟩;have e3:upd H2 lR (.lst ((zs'.set p (.ref ur)).set rank (.ref up))) lR=some (.lst ((zs'.set p (.ref ur)).set rank (.ref up))):=aD;have I3:=(Imx.set nup hup2 rank I2).upd (o:=.lst ((zs'.set p (.ref ur)).set rank (.ref up)));have s3:aZ H (upd H2 lR (.lst ((zs'.set p (.ref ur)).set rank (.ref up)))):=s2.change nR;generalize upd H2 lR (.lst ((zs'.set p (.ref ur)).set rank (.ref up)))=H3 at e3 I3 s3 ⊢;refine⟨_,rfl,_,rfl,?_⟩;show jH _ _ _ [some (.ref lR),some (.int (m:Int)),some (.int (rank:Int)),some (.int pivot),some (.int (-sign)),some (.int (i:Int)),some (.int (p:Int)),some (.ref up)] H3;have S3:=S1.swap (p:=p) (by lia) h2;have bR3:=sb.swap S1 (p:=p) (by lia) h2;have ne3:ent (fQ R' p rank) rank i≠0:=by
      unfold ent;rw[An (by rw[S1.len];lia) (by rw[S1.len];lia)];have:Mq.sw p rank rank=p:=by unfold Mq.sw;rw[if_pos rfl]
      rw[this];exact ne
     have I3':Imx lR H3 ((zs'.set p (.ref ur)).set rank (.ref up)) (fQ R' p rank):=I3;clear I3 hup2;have p3:=hSt.sw _ _ _ _ _ _ S1 (show rank < p by lia) h2 p1;generalize -sign=sg at S3 ⊢;generalize some (V.ref up)=zz at ⊢;exact(hrest sg zz H3 _ _ s3 e3 I3' S3 ne3 bR3 p3).out
    case c2=>
     have epr:p=rank:=by simp at e;lia
     show jH _ _ _ [some (.ref lR),some (.int (m:Int)),some (.int (rank:Int)),some (.int pivot),some (.int sign),some (.int (i:Int)),some (.int (p:Int)),z7] H1;exact(hrest sign z7 H1 _ _ s1 eR I1 S1 (by rw[<- epr];exact ne) sb p1).out
   case rest=>
   intro sg z Hx zs2 R2 sx ex Ix Sx nx bx px;refine⟨?_⟩;have bxx:=bx.bd5 Sx hm31;refine⟨_,rfl,_,rfl,_,rfl,_,rfl,lR,lR,zs2,R2,rank,i,m,w',bw n m,pivot,rfl,SqL.of ex,Ix,Sx.len,Sx.wid,by lia,hw100,hrm,by lia,dn,bxx.1,bxx.2,hn,fun l3 zs3 H3 s3 n3 e3 I3=>?_⟩;have S3:=Sx.clear hrm (by lia) nx;have b3:=bx.clear Sx hrm (by lia) nx;obtain⟨u,eu,nu,hu⟩:=I3.at (i:=rank) (by rw[S3.len];lia);have ec:=bX (kB (l:=(cN R2 rank i pivot).getD rank []) (i:=i) (by rw[S3.wid _ hrm];lia));refine⟨_,rfl,_,rfl,l3,zs3,_,_,rfl,rfl,SqL.of e3,bX eu,_,rfl,u,_,_,_,rfl,rfl,SqL.of hu,ec,?_⟩;refine⟨_,rfl,_,_,rfl,rfl,?_⟩;have ev:((cN R2 rank i pivot).getD rank []).getD i 0=ent R2 rank i:=by rw[oY (by rw[Sx.len];lia),if_pos rfl];rfl
   refine⟨sx.trans s3,l3,zs3,_,rank+1,ent R2 rank i,sg,some (.int (i:Int)),some (.int (p:Int)),z,?_,sx.free n3,e3,I3,S3,b3,hSt.cl _ _ _ _ _ Sx hrm (by lia) nx px⟩;rw[ev];rfl
  ·refine⟨_,rfl,_,rfl,hJ ?_⟩;exact⟨s1,lR,zs',R',rank,pivot,sign,_,_,_,rfl,nR,eR,I1,S1.skip hz,sb.skip hz,p1⟩
 ·rintro σ H1 ⟨s1,lR,zs',R',rank,pivot,sign,z5,z6,z7,rfl,nR,eR,I1,S1,sb,p1⟩;obtain⟨bR,bP⟩:=sb.bd5 S1 hm31;obtain⟨A1,c1,B1,_⟩:=S1.bar;have rm:=B1.rm;intro d hd;have nd:lR≠d:=fun z=>by rw[z,hd] at eR;cases eR
  refine⟨_,rfl,_,rfl,_,rfl,_,rfl,aD,[(.inr "rows",.ref lR),(.inr "rank",.int (rank:Int)),(.inr "pivot",.int pivot),(.inr "sign",.int sign)],rfl,by show 4<=15;decide,?_⟩;have sd:aZ H1 (upd (upd H1 d (.dK [])) d (Rt lR rank pivot sign)):=(aI hd _).change hd;exact q d lR zs' R' rank pivot sign _ (s1.trans sd) (s1.free hd) nR aD (sd _ _ eR) (I1.same sd) S1 bR bP p1
theorem Y51:DZ 5 Z.f51 Z.d51 ["matrix","right"] (Shp.mO Z.K) "solved":=by
 refine⟨?_,F51.b2 _ _ (by intros;rfl),F51.kp,m51⟩
 refine F51.ok9 pV fun cdv A outer s H vs Q E hr h=>?_;obtain⟨g,bR,D0,H00,us,bs,X,qs,k,n,rfl,hU,hX,hB,hQ,ql,qL,qB,xP,xB,x4,hk,hBd,hn1,hnb,hz0,q⟩:=h;have hu:=xJ hr;have r3:=hr.mono (show 3<=4 by lia);have r2:=hr.mono (show 2<=4 by lia);refine⟨_,(aB (aS (i:=2) pV.nd rfl (Or.inr rfl) (bZ bL rfl n_len PySem.boot_len (aA (pv 0) aC)))
  (aB (tJ (i:=3) (nl:=2) (fr:=[]) (Nc:=["row","side"]) (cl:=[]) (g:=(Ed Z.K 2 (jU (iX 0) (jU (iX 1) Gp)))) pV.nd rfl rfl rfl ⟨rfl,rfl,by decide +kernel,by decide +kernel,fun x c h=>(by cases h),fG rfl,rfl,fun i n h=>(by simp at h)⟩
    (Pu rfl n_zip rfl (aA (pv 0) (aA (pv 1) aC))) (fun _ _ _ _ _=>(kF rfl (dB (bH (i:=0) rK rfl (Or.inl rfl)) (dB (bH (i:=1) rK rfl (Or.inl rfl)) iT)))) (fun _ _ _ _ _=>fU)
    (fun _ _ _ _ _=>(aQ (pE (K:=Z.K) rfl) (d9 Y46 r2 rfl (aA (aX qX (pv 0) (cZ (aA (pv 1) aC))) aC)) aE (fun _ _=>rfl))) rfl)
  (aB (aS (i:=4) pV.nd rfl (Or.inr rfl) (d9 Y50 r3 rfl (aA (pv 3) (aA (pv 2) aC))))
  (aB (cG (bC tP (kG hu (pv 4) cF (fun _ _=>rfl)) (pv 2) (bK _)) (aF fK) bN)
  (aF (aW (fH (nl:=1) (fr:=[2,4]) (Nc:=["row","many","end"]) (cl:=[("many",s.heap.objs.size+1),("end",s.heap.objs.size+2)]) rfl ⟨rfl,rfl,by decide +kernel,by decide +kernel,(cY rfl (cY rfl (iS))),fG rfl,rfl,fun i n h=>match i,h with | 0,h=>by cases h;exact⟨2,rfl,rfl,rfl,rfl,.inl rfl⟩ | 1,h=>by cases h;exact⟨4,rfl,rfl,rfl,rfl,.inl rfl⟩ | k+2,h=>by rw[show 1+(k+2)=k+3 by lia] at h;cases h⟩
    (dG (kG hu (pv 4) cF (fun _ _=>rfl))) (fun _ _ _ _ _=>(bH (i:=0) kN rfl (Or.inl rfl))) (fun _ _ _ _ _=>fU)
    (fun _ _ _ _ _=>(d9 Y4 r2 rfl (aA (aQ (jQ (K:=Z.K) rfl) (pv 0) (pv 1) (fun _ _=>rfl)) (aA (kG hu (pv 2) cF (fun _ _=>rfl)) aC))))))))))),?_⟩
 have lu:=hX.length;have lb:=hQ.length;have hw:∀row∈X,row.length=X.length:=fun row h=>(xB row h).2;have qP:=qL.pos;have lA:=Db ql;refine⟨_,rfl,g,us,rfl,.inl hU,?_⟩;refine⟨_,rfl,_,rfl,g,bR,rfl,⟨_,hU⟩,⟨_,hB⟩,fun D hD=>?_⟩;have sD:=aI hD (.lst []);refine Be (xs:=us) (ys:=bs) (fun i zs H'=>aZ H H'/\H' D=some (.lst zs)/\Imx D H' zs ((iL X qs).take i)) ⟨sD,aD,.nil⟩ (fun i zs H' h=>h.2.1) (fun i zs H' _ h=>⟨h.1.seq hU,h.1.seq hB⟩) ?_ ?_
 ·rintro i zs x y H1 T1 ex ey ⟨s1,e1,I1⟩ hT C hC;obtain⟨u,ys,row,rfl,er,_,_,hu',fu⟩:=hX.get ex;obtain⟨v,qv,rfl,eq,fv⟩:=hQ.get ey;have hi:i < X.length:=(List.getElem?_eq_some_iff.mp er).1;have mem:=mem_of_getElem? er;have memq:=mem_of_getElem? eq;obtain⟨rb,rl⟩:=xB row mem;have lys:=fu.length;have sT:=aI hT (.tup [.ref u,.ref v]);refine⟨T1,_,rfl,SqT.of aD,rfl,_,_,rfl,_,_,rfl,rfl,kO.1,kO.2,hJ ?_⟩;generalize upd H1 T1 (.tup [.ref u,.ref v])=H2 at sT ⊢;have s2:=s1.trans sT;refine⟨_,rfl,_,rfl,zl9 1,fun lo hlo=>?_⟩;have s3:=aI hlo (.lst [.ref v]);have e3:upd H2 lo (.lst [.ref v]) lo=some (.lst [.ref v]):=aD;generalize upd H2 lo (.lst [.ref v])=H3 at s3 e3 ⊢;have s03:=s2.trans s3;refine⟨u,lo,_,_,rfl,rfl,s03 _ _ hu',e3,Nat.le_of_lt (bO (by simp only[length_cons,length_nil];lia)),fun p hp=>?_⟩;have s4:=aI hp (.lst (ys++[.ref v]));have e4:upd H3 p (.lst (ys++[.ref v])) p=some (.lst (ys++[.ref v])):=aD;generalize upd H3 p (.lst (ys++[.ref v]))=H4 at s4 e4 ⊢;have s04:=s03.trans s4;have s14:=sT.trans (s3.trans s4);refine⟨p,_,row++[qv],k,rfl,SqL.of e4,(fu.same s04).app (.cons (s04.fq fv) .nil),fun z hz=>?_,fun z hz=>?_,by rw[List.length_append];simp only[length_cons,length_nil];lia,by rw[List.length_append,rl];simp only[length_cons,length_nil];rw[show X.length+(0+1)=X.length+1 by lia];lia,fun t l H5 s5 nl ht hl=>?_⟩
  ·rcases mem_append.mp hz with z1 | z1
   ·exact xP row mem z z1
   ·have:z=qv:=by simpa using z1
    rw[this];exact qP qv memq
  ·rcases mem_append.mp hz with z1 | z1
   ·exact rb z z1
   ·have:z=qv:=by simpa using z1
    rw[this];exact qB qv memq
  have s15:=s14.trans s5;have e5:=s15 _ _ e1;have ne:l≠D:=fun z=>by rw[z,s14 _ _ e1] at nl;cases nl
  have lz:=I1.length;rw[length_take,lA] at lz;refine⟨t,_,_,_,rfl,rfl,ht,rfl,e5,bO (by lia),hC _ _ ⟨(s1.trans s15).change hD,aD,?_⟩⟩;have ee:(iL X qs).take (i+1)=(iL X qs).take i++[iw (row++[qv])]:=by
   rw[take_add_one];unfold iL kU;rw[getElem?_map,getElem?_zipWith,er,eq];rfl
  rw[ee];exact((I1.same s15).app (.cons ne hl .nil)).upd
 rintro zs H1 ⟨s1,e1,I1⟩;rw[show min us.length bs.length=(iL X qs).length by lia,take_length] at I1;have bits4:bw n X.length<=9000:=Nat.le_trans hnb (by decide);have wA:∀i,i < X.length->((iL X qs).getD i []).length=X.length+1:=fun i hi=>by
  rw[uA ql hi,vH,List.length_append,hw _ (mem_of_getElem? (wJ hi))];rfl
 refine⟨_,rfl,_,rfl,D,D,zs,iL X qs,X.length,X.length+1,n,fun R=>Mq.KI X.length (Mq.at2 (iL X qs)) R/\Mq.KJ X.length (Mq.at2 (iL X qs)) R,by rw[lu];rfl,SqL.of e1,I1,lA,wA,by lia,by lia,hBd,hn1,by lia,by lia,⟨fun Φ _ hz=>hz,fun Φ _ hz=>hz⟩,Oa,fun d lE zE R' rank pivot sign H2 s2 nd nlE ed el IE SE bE bp LE=>?_⟩;obtain⟨g1',g2',g3',g4'⟩:=uW ed;have s02:=s1.trans s2;have wr:=Qe xP qP ql hw SE;refine⟨_,rfl,d,_,rfl,g2',_,rfl,_,_,rfl,rfl,_,rfl,qM (fun e=>?_) (fun e=>?_)⟩
 ·-- lame
  have hr':rank < X.length:=by simp at e;lia
  have hz:wgt X=0:=by
   rcases wr with z | z
   ·exact z.2
   ·lia
  exact absurd hz hz0
 ·-- whole
  have hr':rank=X.length:=by
   rcases wr with z | z
   ·simp at e;lia
   ·exact z.1
  have hz:wgt X≠0:=by
   rcases wr with z | z
   ·lia
   ·exact z.2
  subst hr';have dn:=SE.dne;have pn:pivot≠0:=fun z=>dn (by rw[z];simp);have lzE:=IE.length;rw[SE.len] at lzE;refine⟨_,rfl,d,_,rfl,g1',lE,rfl,⟨_,SqL.of el⟩,fun D2 hD2=>?_⟩;have sD2:=aI hD2 (.lst []);refine fB (xs:=zE) (fun i ws H'=>aZ H2 H'/\H' D2=some (.lst ws)/\Fqs Z.K H' ws ((List.range i).map fun i=>red (ent R' i X.length) pivot)) ⟨sD2,aD,.nil⟩ (fun i ws H' h=>h.2.1) (fun i ws H' _ h=>h.1.seq (SqL.of el)) ?_ ?_
  ·rintro i ws x H3 hx ⟨s3,e3,F3⟩ C hC;have hi:i < X.length:=by have:=(List.getElem?_eq_some_iff.mp hx).1;lia
   obtain⟨u,eu,nu,hu2⟩:=IE.at (i:=i) (by rw[SE.len];exact hi);have exu:x=.ref u:=by rw[eu] at hx;cases hx;rfl
   subst exu;have wid:=SE.wid i hi;have lz:=F3.length;rw[length_map,length_range] at lz;have ea:=bX (kB (l:=R'.getD i []) (i:=X.length) (by lia));rw[<- lu] at ea;refine⟨gF.1,gF.2,hJ ?_⟩;refine⟨_,rfl,_,rfl,u,_,_,_,rfl,rfl,SqL.of (s3 _ _ hu2),ea,?_⟩;rw[lu];refine⟨_,rfl,d,_,rfl,uW (s3 _ _ ed) |>.2.2.1,_,_,bw n X.length,rfl,pn,bp,bits4,fun r H4 s4 e4=>?_⟩;have eD:=s4 _ _ e3;refine⟨eD,bO (by lia),hC _ _ ⟨(s3.trans s4).change hD2,aD,?_⟩⟩;rw[range_succ,map_append];exact((F3.same s4).app (.cons (Fq.of e4) .nil)).upd eD
  rintro ws H3 ⟨s3,e3,F3⟩;rw[lzE] at F3;have gd:∀j,j < X.length->((List.range X.length).map fun i=>red (ent R' i X.length) pivot).getD j Mq.z0=red (ent R' j X.length) pivot:=fun j hj=>by
   rw[getD_eq_getElem?_getD,getElem?_map,getElem?_range hj];rfl
  refine q D2 ws _ H3 (s02.trans s3) (s02.free hD2) e3 F3 ⟨⟨by simp,fun p hp=>?_,fun p hp=>?_,fun i hi=>?_⟩,fun v hv j hj=>?_⟩ (Vb pn bp fun p hp=>by obtain⟨i,hi,rfl⟩:=mem_map.mp hp;exact⟨_,bE i X.length,rfl⟩)
  ·obtain⟨i,_,rfl⟩:=mem_map.mp hp;exact iE pn
  ·obtain⟨i,hi,rfl⟩:=mem_map.mp hp;have le:=mF (t:=ent R' i X.length) pn;exact⟨((bE i X.length).le le.1).mono bits4,(bp.le le.2).mono bits4⟩
  ·rw[<- Zd xP qP ql hw LE.1 SE hi];refine aP fun j hj=>?_;rw[gd j hj,kJ pn];rfl
  ·rw[gd j hj,kJ pn,<- qd3 xP qP ql hw LE.2 SE hv hj];rfl
theorem Y52:DZ 7 Z.f52 Z.d52 ["net"] (Jh Z.c_Net Z.K) "refuse_unanswered":=by
 refine⟨?_,F52.b1 _ (by intros;rfl),F52.kp,m52⟩
 refine F52.ok9 Me fun _ _ _ s H _ Q E hr h=>?_;obtain⟨n,l,m,ds,rfl,nt,pt,mo,m20,h40,hR,hF,q⟩:=h;have r5:=hr.mono (show 5<=6 by lia);refine⟨_,(aB (aS (i:=1) Me.nd rfl (Or.inl rfl) (d9 Y39 r5 rfl (aA (pv 0) (aA (cZ (aA cF aC)) aC))))
  (aB (cG (bC Ho (bZ bL rfl n_len PySem.boot_len (aA (pv 1) aC)) aE (bK _)) (aF fK) bN)
  (aB (aS (i:=2) Me.nd rfl (Or.inl rfl) (d9 Y36 hr rfl (aA (pv 0) aC)))
  (aF (cG (bC Ho (bZ bL rfl n_len PySem.boot_len (aA (pv 2) aC)) aE (bK _)) (aF fK) bN))))),?_⟩
 refine⟨_,rfl,zl9 1,fun L hL=>?_⟩;have s1:=aI hL (.lst [.str "hold"]);have e1:upd H L (.lst [.str "hold"]) L=some (.lst [.str "hold"]):=aD;generalize upd H L (.lst [.str "hold"])=H1 at s1 e1 ⊢;refine⟨n,l,.ref L,m,ds,wHo,rfl,nt.same s1,pt,m20,h40,.seq (SqL.of e1) rfl,fun r us H2 s2 nr er G nx=>?_⟩;rw[hR] at G;have lu:us=[]:=eq_nil_of_length_eq_zero (by have:=G.l;simpa using this);subst lu;refine⟨_,rfl,r,_,rfl,.inl (SqL.of er),_,_,rfl,rfl,_,rfl,L2.ifF rfl ?_⟩;have s02:=s1.trans s2;refine⟨_,rfl,n,l,m,ds,rfl,nt.same s02,pt,mo,m20,by lia,fun l' H3 s3 nl e3=>?_⟩;rw[hF] at e3;refine⟨_,rfl,l',_,rfl,.inl (SqL.of e3),_,_,rfl,rfl,_,rfl,L2.ifF rfl ?_⟩;exact q H3 (s02.trans s3)
theorem Y53:DZ 5 Z.f53 Z.d53 ["rows","levels","held"] (zG Z.K (kd3 Z.c_Piece Z.c_Push Z.c_Hold)) "flows_of":=by
 refine⟨?_,F53.b3 _ _ _ (by intros;rfl),F53.kp,m53⟩
 refine F53.ok9 mV fun _ _ _ s H _ Q E hr h=>?_;obtain⟨a,b,h,xs,ls,ys,ds,lv,hs,m,rfl,ea,Rb,SA,hS,hF,hlo,hK,hh,h40,q⟩:=h;have r1:=hr.mono (show 1<=4 by lia);refine⟨_,(aB (aS (i:=3) mV.nd rfl (Or.inl rfl) (cZ aC))
  (aB (aS (i:=4) mV.nd rfl (Or.inl rfl) aE)
  (aB (fC PassesOwn.never rfl (dG (pv 0)) (bH (i:=5) mV.nd rfl (Or.inl rfl))
   (aB (aS (i:=6) mV.nd rfl (Or.inl rfl) (d9 Y33 hr rfl (aA (pv 5) (aA (pv 1) aC))))
  (aF (cG (bC eV (eJ (pv 5) T.cl mW GW r1 bW .nil aK) cF (bK _)) (aB (bY (nT PySem.F.plainAttrs_list PySem.F.slot_list_append PySem.F.type_list_append fP (pv 3) (aA (Cd (pv 5) T.cl mS GS hr bS .nil aK (aA (pv 6) (aA (aQ bG (pv 2) (pv 4) (fun _ _=>rfl)) aC))) aC)))
  (aF (Hi (i:=4) mV.nd rfl (Or.inl rfl) aE Fc))) (aF (bY (nT PySem.F.plainAttrs_list PySem.F.slot_list_append PySem.F.type_list_append fP (pv 3) (aA (Cd (pv 5) T.cl mS GS hr bS .nil aK (aA (pv 6) (aA (cT (v:=.ref Z.aN) rfl mv_NOUGHT rfl) aC))) aC))))))))
  (aF (aW (pv 3)))))),?_⟩
 have lxs:=Rb.length;have lys:=hF.length;refine⟨zl9 0,fun l hl=>?_⟩;have s1:=aI hl (.lst []);have e1:upd H l (.lst []) l=some (.lst []):=aD;generalize upd H l (.lst [])=H1 at s1 e1 ⊢;refine⟨_,rfl,a,rfl,⟨_,SqL.of (s1 _ _ ea)⟩,?_⟩;refine gH (xs:=xs) (fun i σ H'=>aZ H H'/\∃(zs:List V) (ti:Int) (z5 z6:Option V),σ=[some (.ref a),some (.ref b),some (.ref h),some (.ref l),some (.int ti),z5,z6]/\ti=((bA (ds.take i):Nat):Int)/\H' l=some (.lst zs)/\Fqs Z.K H' zs (rD lv hs 0 (ds.take i))) ⟨s1,[],0,none,none,rfl,rfl,e1,.nil⟩ (fun i σ H' _ h=>h.1.seq (SqL.of ea)) ?_ ?_
 ·rintro i x σ H2 hx ⟨s2,zs,ti,z5,z6,rfl,hti,e2,F2⟩;have hi:i < ds.length:=by have:=(List.getElem?_eq_some_iff.mp hx).1;lia
  obtain⟨⟨k0,u,v,p⟩,hd⟩:∃d,ds[i]?=some d:=⟨_,getElem?_eq_getElem hi⟩
  obtain⟨y,z,ey,rw0,fz0⟩:=Rb.at hd;have ex:x=.ref y:=by rw[ey] at hx;exact(Option.some.inj hx).symm
  subst ex;have rd:=hK _ (mem_of_getElem? hd);have pt:cX (m:Int) u v:=⟨rd.1,rd.2.1,rd.2.2.1,rd.2.2.2.1⟩
  have lp:Low p:=rd.2.2.2.2.1;have p0:k0=.pc->0 < p.1:=rd.2.2.2.2.2.1;have bp:Bd 1000 p:=rd.2.2.2.2.2.2;have et:ds.take (i+1)=ds.take i++[(k0,u,v,p)]:=by rw[take_add_one,hd];rfl
  have hcnt:bA (ds.take i)+bV k0+bA (ds.drop (i+1))=bA ds:=by
   have h1:ds=ds.take (i+1)++ds.drop (i+1):=(take_append_drop _ _).symm;have h2:bA ds=bA (ds.take (i+1))+bA (ds.drop (i+1)):=by
    unfold bA iU;rw[<- List.length_append,<- filter_append,take_append_drop]
   rw[h2,et,fY]
  have rw2:=rw0.same s2;obtain⟨dr,hy⟩:=id rw2;refine⟨_,rfl,_,rfl,y,b,(k0,u,v,p),.ref z,ls,lv,m,rfl,rw2,SA.same s2,pt,fun fa H3 s3 e3=>?_⟩;have flow:Low (flF lv (k0,u,v,p))/\Bd 7801 (flF lv (k0,u,v,p)):=by
   have hb:=SA.b;have hn:=SA.l;have Z.f33:lv.getD u.toNat (0,1)∈lv:=mem_of_getElem? (Mq.My (by have:=pt.1;have:=pt.2.1;lia));have g2:lv.getD v.toNat (0,1)∈lv:=mem_of_getElem? (Mq.My (by have:=pt.2.2.1;have:=pt.2.2.2;lia));exact⟨dD (hb _ Z.f33).1.pos (hb _ g2).1.pos,(iI (hb _ Z.f33).2 (hb _ g2).2 (hb _ Z.f33).1.pos (hb _ g2).1.pos).mono (by lia)⟩
  have fa3:Fq Z.K H3 fa (flF lv (k0,u,v,p)):=Fq.of e3;have s23:=s2.trans s3;have rw3:=rw0.same s23;obtain⟨dr3,hy3⟩:=id rw3;have fz3:=s23.fq fz0;have e23:=s3 _ _ e2;have lzs:=F2.length;rw[vJ,length_take] at lzs;rw[et,xC,Nat.zero_add];refine⟨_,rfl,k0,y,dr3,_,rfl,hy3,(cU _ _ _ (by decide +kernel) (by decide +kernel) (by decide +kernel)),_,rfl,rfl,_,rfl,?_⟩
  by_cases hk:k0=.ho
  ·refine L2.ifT (by show decide (V.str k0.wd=V.str Kd.ho.wd)=true;rw[cP];exact decide_eq_true hk) ?_;have hc:bV k0=1:=by unfold bV;rw[if_pos hk]
   obtain⟨w1,ew,fw⟩:=hF.at (Mq.My (show bA (ds.take i) < hs.length by lia));refine⟨_,rfl,.inl ⟨rfl,_,SqL.of e23⟩,_,rfl,k0,y,dr3,_,rfl,hy3,(cU _ _ _ (by decide +kernel) (by decide +kernel) (by decide +kernel)),?_⟩;refine⟨_,rfl,_,rfl,_,rfl,h,ys,_,_,rfl,rfl,s23.seq hS,by rw[hti];exact bX ew,y,z,fa,w1,.int u,.int v,p,_,_,1000,7801,rfl,rw3,fz3,fa3,s23.fq fw,lp.pos,flow.1.pos,bp,flow.2,by lia,p0,fun r H4 s4 f4=>?_⟩;have e4:=s4 _ _ e23;refine⟨l,_,_,rfl,rfl,e4,bO (by lia),?_⟩;refine⟨_,rfl,_,_,rfl,rfl,?_⟩;refine⟨(s23.trans s4).change hl,_,ti+1,_,_,rfl,by rw[fY,hti,hc];lia,aD,?_⟩;have fl:Ec lv hs (bA (ds.take i)) (k0,u,v,p)=Ko k0 (flF lv (k0,u,v,p)) (hs.getD (bA (ds.take i)) Mq.z0) p:=by
    show Ko k0 _ (if k0=.ho then _ else _) _=_;rw[if_pos hk]
   rw[fl];exact((F2.same (s3.trans s4)).app (.cons f4 .nil)).upd e4
  ·refine L2.ifF (by show decide (V.str k0.wd=V.str Kd.ho.wd)=false;rw[cP];exact decide_eq_false hk) ?_;have hc:bV k0=0:=by unfold bV;rw[if_neg hk]
   refine⟨_,rfl,.inl ⟨rfl,_,SqL.of e23⟩,_,rfl,k0,y,dr3,_,rfl,hy3,(cU _ _ _ (by decide +kernel) (by decide +kernel) (by decide +kernel)),_,rfl,y,z,fa,Z.aN,.int u,.int v,p,_,(0,1),1000,7801,rfl,rw3,fz3,fa3,fN _,lp.pos,flow.1.pos,bp,flow.2,by lia,p0,fun r H4 s4 f4=>?_⟩;have e4:=s4 _ _ e23;refine⟨l,_,_,rfl,rfl,e4,bO (by lia),?_⟩;refine⟨(s23.trans s4).change hl,_,ti,_,_,rfl,by rw[fY,hti,hc];rfl,aD,?_⟩;have fl:Ec lv hs (bA (ds.take i)) (k0,u,v,p)=Ko k0 (flF lv (k0,u,v,p)) (0,1) p:=by
    show Ko k0 _ (if k0=.ho then _ else _) _=_;rw[if_neg hk]
   rw[fl];exact((F2.same (s3.trans s4)).app (.cons f4 .nil)).upd e4
 rintro σ H2 ⟨s2,zs,ti,z5,z6,rfl,hti,e2,F2⟩;rw[lxs,take_length] at F2;exact⟨_,rfl,q l zs H2 s2 hl e2 F2⟩
theorem R54:FZ CX0 8 Z.f54 Z.d54 ["self","net"] (pP Z.c_Net Z.c_Answer Z.K):=by
 refine F54.ok9 rS fun _ _ _ s H _ Q E hr h=>?_;obtain⟨x,dx,n,l,m,b,kb,L,ds,rfl,hx,NB,hw39,h01,hR,hF,q⟩:=h;have r1:=hr.mono (show 1<=7 by lia);have r4:=hr.mono (show 4<=7 by lia);have r5:=hr.mono (show 5<=7 by lia);have r7:=hr;refine⟨_,(aB (bY (d9 Y52 r7 rfl (aA (pv 1) aC)))
  (aB (aS (i:=2) rS.nd rfl (Or.inl rfl) (d9 Y45 r7 rfl (aA (pv 1) aC)))
  (aB (aS (i:=3) rS.nd rfl (Or.inl rfl) (d9 Y51 r5 rfl (aA (aQ aT (pv 2) aE (fun _ _=>rfl)) (aA (aQ aT (pv 2) aE (fun _ _=>rfl)) aC))))
  (aB (aS (i:=4) rS.nd rfl (Or.inl rfl) (aX iN (cA (pv 1) NTx.cl X2 R28 r1 b28 .nil aK) aE))
  (aB (iB (pv 0) (aQ aT (pv 2) aE (fun _ _=>rfl)) rfl)
  (aB (iB (pv 0) (aX qX (cZ (aA (cT (v:=.ref Z.aN) rfl mv_NOUGHT rfl) aC)) (eO gK (pv 3) iF (dY (pv 4)))) rfl)
  (aF (iB (pv 0) (d9 Y53 r5 rfl (aA (cA (pv 1) NTx.cl X3 R32 r4 b32 .nil aK) (aA (bU (pv 0) rfl) (aA (eO gK (pv 3) (dY (pv 4)) iF) aC)))) rfl)))))))),?_⟩
 have nt:=NB.nt;have hK:=NB.ok;have m20:=NB.m20;have h40:=NB.h40;have hbig:=NB.cu;have EB:=NB.eb;have mo:=EB.o.m1;refine⟨_,rfl,n,l,m,ds,rfl,nt,EB.o.pt,mo,m20,h40,hR,hF,fun H1 s1=>?_⟩;refine⟨_,rfl,n,l,m,kb,ds,rfl,nt.same s1,hK,mo,m20,h40,hbig,fun tt p r us ys X Y H2 s2 et np nr ep er FM FY nx EO=>?_⟩;have s02:=s1.trans s2;have lX:X.length=m - 1+bA ds:=EO.x.h;have lY:Y.length=X.length:=by rw[EO.y.w,lX]
 have w26:=EB.w26;have lw:wd m ds=m - 1+bA ds:=rfl;have yq:∀p∈Y,(Bd b p/\p.2 ∣ L)/\∃a:Int,Mq.B b a/\Mq.val p=(a:Rat) / (L:Rat):=fun p hp=>by
  obtain⟨i,hi⟩:=getElem?_of_mem hp;have ep:p=Y.getD i (0,1):=by rw[getD_eq_getElem?_getD,hi];rfl
  obtain⟨z,hz,ez⟩:=h01 i;have hv:Mq.val p=(z:Rat) / (L:Rat):=by rw[ep,EO.vy,ez]
  exact⟨uE (EO.y.l p hp).1 EB.L1 EB.LB hz hv,z,hz,hv⟩
 refine⟨_,rfl,tt,_,0,_,rfl,rfl,SqT.of et,rfl,_,rfl,tt,_,1,_,rfl,rfl,SqT.of et,rfl,?_⟩;refine⟨p,r,p,H1,us,ys,X,Y,b,b,rfl,SqL.of ep,tE FM (fun x hx=>(nx x hx).1),SqL.of er,FY,lY,fun p hp=>(EO.y.l p hp).1,fun p hp=>(yq p hp).1.1,EqB.pos EO,fun row hr=>⟨fun p hp=>((EB.cell EO row hr).1 p hp).1,(EB.cell EO row hr).2⟩,by lia,by rw[lX];exact EB.hb,Jf (EqB.pos EO) (fun p hp=>(EO.y.l p hp).1.pos) lY (fun row hr p hp=>((EB.cell EO row hr).1 p hp).2) (fun p hp=>⟨(yq p hp).1.2,(yq p hp).2⟩) EB.L1,EB.b1,by rw[lX];exact Nat.le_trans EB.hbw (by decide),EB.wgt EO,fun kn zk ps H3 s3 nkn ekn Fk SU OV=>?_⟩;rw[lX] at OV;have lps:ps.length=wd m ds:=by rw[SU.len,lX]
 have lo:=SU.low;have b39:=Dr (n:=bw b (wd m ds)) OV lo hw39;have s03:=s02.trans s3;obtain⟨dn,hn⟩:=(nt.same s03).ob;refine⟨_,rfl,n,dn,_,rfl,hn,dA _ _ (by decide +kernel) (by decide +kernel),n,l,_,ds,rfl,nt.same s03,_,_,rfl,rfl,?_⟩;have et3:=s3 _ _ et;have hx3:=s03 _ _ hx;have em:(m:Int) - 1=((m - 1:Nat):Int):=by lia
 show jH _ _ _ [some (.ref x),some (.ref n),some (.ref tt),some (.ref kn),some (.int ((m:Int) - 1))] H3;rw[em];refine⟨_,rfl,tt,_,0,_,rfl,rfl,SqT.of et3,rfl,_,rfl,x,Z.c_Answer,dx,[],rfl,hx3,ABx.cl,ABx.nI,(by show 0 < 1000;decide),?_⟩;have x4:bQ x H (upd H3 x (.ins Z.c_Answer dx (cQ "lines" (.ref p) []))):=fun b o h nb=>by rw[aY nb];exact s03 _ _ h
 have x34:bQ x H3 (upd H3 x (.ins Z.c_Answer dx (cQ "lines" (.ref p) []))):=fun b o h nb=>by rw[aY nb];exact h
 have hx4:upd H3 x (.ins Z.c_Answer dx (cQ "lines" (.ref p) [])) x=some (.ins Z.c_Answer dx (cQ "lines" (.ref p) [])):=aD;have ek4:=bQ.seqI hx3 x34 (SqL.of (K:=Z.K) ekn);have Fk4:=bQ.fqsI hx3 x34 Fk;generalize upd H3 x (.ins Z.c_Answer dx (cQ "lines" (.ref p) []))=H4 at x4 x34 hx4 ek4 Fk4 ⊢;refine⟨zl9 1,fun L1 hL1=>?_⟩;have s5:=aI hL1 (.lst [.ref Z.aN]);have e5:upd H4 L1 (.lst [.ref Z.aN]) L1=some (.lst [.ref Z.aN]):=aD;generalize upd H4 L1 (.lst [.ref Z.aN])=H5 at s5 e5 ⊢;refine⟨_,rfl,_,rfl,_,rfl,kn,zk,rfl,s5.seq ek4,fun S hS=>?_⟩;rw[Ge];have s6:=aI hS (.lst (zk.take (m - 1)));have e6:upd H5 S (.lst (zk.take (m - 1))) S=some (.lst (zk.take (m - 1))):=aD;generalize upd H5 S (.lst (zk.take (m - 1)))=H6 at s6 e6 ⊢;have lzk:=Fk.length;refine⟨L1,S,_,_,rfl,rfl,s6 _ _ e5,e6,Nat.le_of_lt (bO (by rw[length_take];simp only[length_cons,length_nil];lia)),fun V1 hV1=>?_⟩;have s7:=aI hV1 (.lst ([.ref Z.aN]++zk.take (m - 1)));have e7:upd H6 V1 (.lst ([.ref Z.aN]++zk.take (m - 1))) V1=some (.lst ([.ref Z.aN]++zk.take (m - 1))):=aD;generalize upd H6 V1 (.lst ([.ref Z.aN]++zk.take (m - 1)))=H7 at s7 e7 ⊢;have s47:=s5.trans (s6.trans s7);have hx7:=s47 _ _ hx4;refine⟨_,rfl,x,Z.c_Answer,dx,_,rfl,hx7,ABx.cl,ABx.nE,(by have:=dR ("lines":Str) (.ref p) [];simp only[length_nil] at this;lia),?_⟩;have x78:bQ x H7 (upd H7 x (.ins Z.c_Answer dx (cQ "levels" (.ref V1) (cQ "lines" (.ref p) [])))):=fun b o h nb=>by rw[aY nb];exact h
 have hx8:upd H7 x (.ins Z.c_Answer dx (cQ "levels" (.ref V1) (cQ "lines" (.ref p) []))) x=some (.ins Z.c_Answer dx (cQ "levels" (.ref V1) (cQ "lines" (.ref p) []))):=aD;generalize upd H7 x (.ins Z.c_Answer dx (cQ "levels" (.ref V1) (cQ "lines" (.ref p) [])))=H8 at x78 hx8 ⊢;have nn:=Zh hx nt;have nt4:=dF.xI hx3 x34 nn (nt.same s03);have nt8:=dF.xI hx7 x78 nn (nt4.same s47);have ek8:=bQ.seqI hx7 x78 (s47.seq ek4);have Fk8:=bQ.fqsI hx7 x78 (Fk4.same s47);have nV1x:V1≠x:=dL e7 hx7 (fun z=>by cases z);have ev8:=bQ.seqI hx7 x78 (SqL.of (K:=Z.K) e7);have Fv8:Fqs Z.K H8 ([.ref Z.aN]++zk.take (m - 1)) (lvS m ps):=.cons (fN _) (Fqs.take _ Fk8);obtain⟨dn8,hn8⟩:=nt8.ob;refine⟨_,rfl,n,dn8,_,rfl,hn8,dA _ _ (by decide +kernel) (by decide +kernel),n,l,_,ds,rfl,nt8,by lia,fun ro xr H9 s9 nro ero Rb=>?_⟩;have hx9:=s9 _ _ hx8;have ek9:=s9.seq ek8;refine⟨_,rfl,x,Z.c_Answer,dx,_,_,rfl,hx9,ABx.cl,ABx.nE,(by rw[bF,if_pos rfl]),_,rfl,_,rfl,_,rfl,kn,zk,rfl,ek9,fun S2 hS2=>?_⟩;rw[xU];have s10:=aI hS2 (.lst (zk.drop (m - 1)));have e10:upd H9 S2 (.lst (zk.drop (m - 1))) S2=some (.lst (zk.drop (m - 1))):=aD;generalize upd H9 S2 (.lst (zk.drop (m - 1)))=H10 at s10 e10 ⊢;have s80:=s9.trans s10;have lLv:(lvS m ps).length=m:=by
  unfold lvS;rw[length_cons,length_take];lia
 refine⟨ro,V1,S2,xr,_,_,ds,lvS m ps,ps.drop (m - 1),m,rfl,s10 _ _ ero,Rb.same s10,⟨s80.seq ev8,Fv8.same s80,lLv,fun s hs=>?_⟩,SqL.of e10,Fqs.drop _ (Fk8.same s80),fun p hp=>lo p (mem_of_mem_drop hp),fun d hd=>?_,by rw[length_drop];lia,h40,fun fo zf H11 s11 nfo efo Ffo=>?_⟩
 ·rcases mem_cons.mp hs with z | z
  ·rw[z];exact⟨⟨by decide,by decide⟩,Ya (n:=3899)⟩
  ·exact b39 s (mem_of_mem_take z)
 ·obtain⟨i,hi⟩:=getElem?_of_mem hd;exact(hK i d hi).1
 have s81:=s80.trans s11;have hx11:=s81 _ _ hx8;refine⟨_,rfl,x,Z.c_Answer,dx,_,rfl,hx11,ABx.cl,ABx.nO,(by have:=dR ("lines":Str) (.ref p) [];have:=dR ("levels":Str) (.ref V1) (cQ "lines" (.ref p) []);simp only[length_nil] at *;lia),?_⟩;have x12:bQ x H11 (upd H11 x (.ins Z.c_Answer dx (iA p V1 fo))):=fun b o h nb=>by rw[aY nb];exact h
 have hx12:upd H11 x (.ins Z.c_Answer dx (iA p V1 fo)) x=some (.ins Z.c_Answer dx (iA p V1 fo)):=aD;show Q .non (upd H11 x (.ins Z.c_Answer dx (iA p V1 fo)));generalize upd H11 x (.ins Z.c_Answer dx (iA p V1 fo))=H12 at x12 hx12 ⊢;refine q ps H12 (fun b o h nb=>x12 _ _ (s81 _ _ (x78 _ _ (s47 _ _ (x4 _ _ h nb)) nb)) nb) ⟨dx,p,V1,fo,_,zf,hx12,x12 _ _ (s81 _ _ (x78 _ _ e7 nV1x)) nV1x,bQ.fqsI hx11 x12 (Fv8.same s81),x12 _ _ efo (dL efo hx11 (fun z=>by cases z)),bQ.fqsI hx11 x12 Ffo,fun l0 o0 h0 n0=>⟨fun z=>?_,fun z=>?_⟩⟩ lps lo OV (EqB.sol EO SU fun i _=>EO.vy i) (fun w0=>⟨dx,p,V1,fo,hx12,by
  have lX:X.length=0:=(Nw EO).trans w0;have lu:us=[]:=eq_nil_of_length_eq_zero (by have:=FM.l;lia);have ep3:=s3 _ _ ep;have px:p≠x:=dL ep3 hx3 (fun z=>by cases z);rw[<- lu];exact x12 _ _ (s81 _ _ (x78 _ _ (s47 _ _ (x34 _ _ ep3 px)) px)) px⟩)
 ·rw[z,(s5.trans s6) _ _ (x4 _ _ h0 n0)] at hV1;cases hV1
 ·rw[z,s80 _ _ (x78 _ _ (s47 _ _ (x4 _ _ h0 n0)) n0)] at nfo;cases nfo
theorem R55:FZ CX0 1 Z.f55 Z.d55 ["self"] (mI Z.c_Answer Z.K):=by
 refine F55.ok9 Yp fun _ _ _ s H _ Q E hr h=>?_;obtain⟨a,lv,fl,rfl,⟨⟨dx,li,le,fo,xs,ys,ha,hle,Fle,hfo,Ffo⟩⟩,q⟩:=h;refine⟨_,(aF (aW (jW gW rfl n_list PyProof.Rows.boot_list (aA (bU (pv 0) rfl) aC)))),?_⟩;refine⟨_,rfl,a,Z.c_Answer,_,_,_,rfl,ha,ABx.cl,ABx.nE,Ve _ _ _,le,_,rfl,.inl hle,fun l hl=>?_⟩;have sl:=aI hl (.lst xs);exact q l _ _ sl hl aD (Fle.same sl)
theorem R56:FZ CX0 1 Z.f56 Z.d56 ["self"] (qF Z.c_Answer Z.K):=by
 refine F56.ok9 Xv fun cdv A outer s H vs Q E hr h=>?_;obtain⟨a,lv,fl,rfl,⟨⟨dx,li,le,fo,xs,ys,ha,hle,Fle,hfo,Ffo⟩⟩,q⟩:=h;refine⟨_,(aF (aW (jW gW rfl n_list PyProof.Rows.boot_list (aA (bU (pv 0) rfl) aC)))),?_⟩;refine⟨_,rfl,a,Z.c_Answer,_,_,_,rfl,ha,ABx.cl,ABx.nO,We _ _ _,fo,_,rfl,.inl hfo,fun l hl=>?_⟩;have sl:=aI hl (.lst ys);exact q l _ _ sl hl aD (Ffo.same sl)
theorem R57:FZ CX0 4 Z.f57 Z.d57 ["self"] (Ap Z.c_Net Z.K):=by
 refine F57.ok9 Pp fun _ _ _ s H _ Q E hr h=>?_;obtain⟨n,l,m,ds,rfl,⟨⟨dx,hn⟩,ts,hl,hR⟩,h1,h20,q⟩:=h;refine⟨_,(aB (aS (i:=1) Pp.nd rfl (Or.inl rfl) (iV MN R27 hr rfl NTx.mN b27 .nil aK (aA (bU (pv 0) rfl) aC)))
  (aB (iB (pv 1) (jW gW rfl n_list PyProof.Rows.boot_list (aA (bU (pv 0) rfl) aC)) rfl)
  (aF (aW (pv 1))))),?_⟩
 refine⟨_,rfl,n,Z.c_Net,dx,_,_,rfl,hn,NTx.cl,NTx.nP,uY _ _,fun x ex hx1 hx2 ne=>⟨x,ex,m,rfl,aD,h1,h20,fun l0 H1 nl0 keep hx hl0=>⟨rfl,?_⟩⟩⟩;have s1:aZ H H1:=fun b o e=>keep b o (by rw[aY (aU e hx1),aY (aU e hx2)];exact e) (aU e hx1);have hn1:=s1 _ _ hn;have hl1:=s1 _ _ hl;refine⟨_,rfl,n,Z.c_Net,dx,_,_,rfl,hn1,NTx.cl,NTx.nK,eX _ _,l,ts,rfl,.inl (SqL.of hl1),fun l2 hl2=>?_⟩;have s2:=aI hl2 (.lst ts);have el2:upd H1 l2 (.lst ts) l2=some (.lst ts):=aD;generalize upd H1 l2 (.lst ts)=H2 at s2 el2 ⊢;have hx2':=s2 _ _ hx;refine⟨_,rfl,x,Z.c_Net,ex,_,rfl,hx2',NTx.cl,NTx.nK,Nat.lt_of_le_of_lt (Kr _ _) (by decide),?_⟩;have s12:=s1.trans s2;have sF:aZ H (upd H2 x (.ins Z.c_Net ex (cQ "kept" (.ref l2) (gR m l0)))):=s12.change hx1;have nx:l2≠x:=dL el2 hx2' (fun z=>by cases z);refine⟨_,rfl,q x l2 _ sF hx1 (s1.free hl2) ⟨⟨ex,by rw[aD,La]⟩,ts,by rw[aY nx];exact el2,hR.same sF⟩⟩
theorem R58:FZ CX0 1 Z.f58 Z.d58 ["self"] (sZ Z.c_Net Z.K):=by
 refine F58.ok9 Vr fun _ _ _ s H _ Q E hr h=>?_;obtain⟨n,l,m,ds,rfl,⟨⟨dx,hn⟩,ts,hl,hr'⟩,q⟩:=h;refine⟨_,(aF (aW (bZ bL rfl n_len PySem.boot_len (aA (bU (pv 0) rfl) aC)))),_,rfl,n,Z.c_Net,dx,_,_,rfl,hn,NTx.cl,NTx.nK,eX _ _,l,ts,rfl,.inl (SqL.of hl),?_⟩;rw[hr'.length];exact q
theorem Y59:DZ 6 Z.f59 Z.d59 ["net","matrix","right"] (zF Z.c_Net Z.K) "heights_by":=by
 refine⟨?_,F59.b3 _ _ _ (by intros;rfl),F59.kp,m59⟩
 refine F59.ok9 qf6 fun _ _ _ s H _ Q E hr h=>?_;obtain⟨n,l,g,r,D,H0,m,b,N,L,ds,us,ys,X,Y,qs,rfl,nt,hg,FX,EO,EB,hr0,FQ,lq,h01,q⟩:=h;have r1:=hr.mono (show 1<=5 by lia);refine⟨_,(aF (aW (aX qX (cZ (aA (cT (v:=.ref Z.aN) rfl mv_NOUGHT rfl) aC)) (eO gK (d9 Y51 hr rfl (aA (pv 1) (aA (pv 2) aC))) iF (dY (aX iN (cA (pv 0) NTx.cl X2 R28 r1 b28 .nil aK) aE)))))),?_⟩;have lX:X.length=wd m ds:=EO.x.h;have lw:wd m ds=m - 1+bA ds:=rfl;have mo:=EB.o.m1;have w26:=EB.w26;refine⟨zl9 1,fun L1 hL1=>?_⟩;have s1:=aI hL1 (.lst [.ref Z.aN]);have e1:upd H L1 (.lst [.ref Z.aN]) L1=some (.lst [.ref Z.aN]):=aD;generalize upd H L1 (.lst [.ref Z.aN])=H1 at s1 e1 ⊢;refine⟨_,rfl,_,rfl,g,r,D,H0,us,ys,X,qs,b,b,rfl,s1.seq hg,FX.same s1,s1.seq hr0,FQ.same s1,lq,fun p hp=>(h01 p hp).1,fun p hp=>(h01 p hp).bd EB.b1,EqB.pos EO,fun row hr=>⟨fun p hp=>((EB.cell EO row hr).1 p hp).1,(EB.cell EO row hr).2⟩,by lia,by rw[lX];exact EB.hb,Jf (EqB.pos EO) (fun p hp=>(h01 p hp).1.pos) lq (fun row hr p hp=>((EB.cell EO row hr).1 p hp).2) (fun p hp=>(h01 p hp).ov EB.L1 EB.LB) EB.L1,EB.b1,by rw[lX];exact Nat.le_trans EB.hbw (by decide),EB.wgt EO,fun kn zk ps H2 s2 nkn ekn Fk SU OV=>?_⟩;rw[lX] at OV;have s02:=s1.trans s2;obtain⟨dn,hn⟩:=(nt.same s02).ob;have lps:ps.length=X.length:=SU.len;have lzk:=Fk.length;refine⟨_,rfl,n,dn,_,rfl,hn,dA _ _ (by decide +kernel) (by decide +kernel),n,l,_,ds,rfl,nt.same s02,_,_,rfl,rfl,?_⟩;have em:(m:Int) - 1=((m - 1:Nat):Int):=by lia
 refine⟨_,rfl,kn,zk,rfl,SqL.of ekn,fun S hS=>?_⟩;rw[em,Ge];have s3:=aI hS (.lst (zk.take (m - 1)));have e3:upd H2 S (.lst (zk.take (m - 1))) S=some (.lst (zk.take (m - 1))):=aD;generalize upd H2 S (.lst (zk.take (m - 1)))=H3 at s3 e3 ⊢;refine⟨L1,S,_,_,rfl,rfl,(s2.trans s3) _ _ e1,e3,Nat.le_of_lt (bO (by rw[length_take];simp only[length_cons,length_nil];lia)),fun V1 hV1=>?_⟩;have s4:=aI hV1 (.lst ([.ref Z.aN]++zk.take (m - 1)));have e4:upd H3 V1 (.lst ([.ref Z.aN]++zk.take (m - 1))) V1=some (.lst ([.ref Z.aN]++zk.take (m - 1))):=aD;generalize upd H3 V1 (.lst ([.ref Z.aN]++zk.take (m - 1)))=H4 at s4 e4 ⊢;exact q V1 _ ps H4 ((s02.trans s3).free hV1) (s02.trans (s3.trans s4)) e4 (.cons (fN _) (Fqs.take _ (Fk.same (s3.trans s4)))) SU OV
theorem Y60:DZ 8 Z.f60 Z.d60 ["net","start","goal"] (Hd Z.c_Net Z.K) "pushed_heights":=by
 refine⟨?_,F60.b3 _ _ _ (by intros;rfl),F60.kp,m60⟩
 refine F60.ok9 Qw fun cdv A outer s H vs Q E hr h=>?_;obtain⟨n,l,m,b,kb,L,ds,s,g,rfl,NB,hs,hg,q⟩:=h;have r2:=hr.mono (show 2<=7 by lia);have r5:=hr.mono (show 5<=7 by lia);have r6:=hr.mono (show 6<=7 by lia);have r7:=hr;refine⟨_,(aB (aS (i:=3) Qw.nd rfl (Or.inl rfl) (aQ aT (d9 Y45 r7 rfl (aA (pv 0) aC)) aE (fun _ _=>rfl)))
  (aB (aS (i:=4) Qw.nd rfl (Or.inl rfl) (aX Aw (cZ (aA (cT (v:=.ref Z.aN) rfl mv_NOUGHT rfl) aC)) (aX dU (bZ bL rfl n_len PySem.boot_len (aA (pv 3) aC)) aE)))
  (aB (bY (d9 Y43 r5 rfl (aA (pv 4) (aA (iV (MK .pu) R10 r2 rfl (T.mK .pu) b10 .nil aK (aA (pv 1) (aA (pv 2) (aA (cT (v:=.ref Z.aO) rfl mv_ONE rfl) aC)))) aC))))
  (aF (aW (d9 Y59 r6 rfl (aA (pv 0) (aA (pv 3) (aA (eO gK (pv 4) (dY aE) iF) aC))))))))),?_⟩
 have EB:=NB.eb;have mo:=EB.o.m1;have w26:=EB.w26;refine⟨_,rfl,n,l,m,kb,ds,rfl,NB.nt,NB.ok,mo,NB.m20,NB.h40,NB.cu,fun tt p r us ys X Y H1 s1 et np nr ep er FM FY nx EO=>?_⟩;have lX:X.length=wd m ds:=EO.x.h;have lus:=FM.l;refine⟨tt,_,0,_,rfl,rfl,SqT.of et,rfl,?_⟩;obtain⟨W,hW⟩:∃W,W=wd m ds:=⟨_,rfl⟩
 rw[<- hW] at w26;have lusW:us.length=W:=by rw[lus,lX,hW]
 refine⟨zl9 1,fun l1 hl1=>?_⟩;have s2:=aI hl1 (.lst [.ref Z.aN]);have e2:upd H1 l1 (.lst [.ref Z.aN]) l1=some (.lst [.ref Z.aN]):=aD;generalize upd H1 l1 (.lst [.ref Z.aN])=H2 at s2 e2 ⊢;have eW:(us.length:Int)+1=((W+1:Nat):Int):=by lia
 refine⟨_,rfl,p,us,rfl,.inl (SqL.of (s2 _ _ ep)),_,_,rfl,rfl,l1,_,[.ref Z.aN],rfl,rfl,e2,by lia,by lia,?_,fun Rr hR=>?_⟩
 ·rw[eW,Int.toNat_natCast,sizeLine_eq];simp only[length_cons,length_nil];lia
 rw[eW,Int.toNat_natCast,lT];have nR1:H1 Rr=none:=s2.free hR;have s3:=aI hR (.lst (replicate (W+1) (.ref Z.aN)));have e3:upd H2 Rr (.lst (replicate (W+1) (.ref Z.aN))) Rr=some (.lst (replicate (W+1) (.ref Z.aN))):=aD;generalize upd H2 Rr (.lst (replicate (W+1) (.ref Z.aN)))=H3 at s3 e3 ⊢;refine⟨_,rfl,_,rfl,_,rfl,fun x dx hx hdx nxd=>?_⟩;refine⟨x,dx,.pu,_,_,_,rfl,aD,rfl,?_⟩;have s4:aZ H3 (upd (upd (upd H3 dx (.own x)) x (.ins ((kd3 Z.c_Piece Z.c_Push Z.c_Hold) .pu) dx [])) x (.ins ((kd3 Z.c_Piece Z.c_Push Z.c_Hold) .pu) dx (jZ (.int (s:Int)) (.int (g:Int)) (.ref Z.aO)))):=(oU (C:=(kd3 Z.c_Piece Z.c_Push Z.c_Hold) .pu) hx hdx).change hx;have rw4:Rw (kd3 Z.c_Piece Z.c_Push Z.c_Hold) (upd (upd (upd H3 dx (.own x)) x (.ins ((kd3 Z.c_Piece Z.c_Push Z.c_Hold) .pu) dx [])) x (.ins ((kd3 Z.c_Piece Z.c_Push Z.c_Hold) .pu) dx (jZ (.int (s:Int)) (.int (g:Int)) (.ref Z.aO)))) x .pu (.int (s:Int)) (.int (g:Int)) (.ref Z.aO):=⟨dx,aD⟩
 generalize upd (upd (upd H3 dx (.own x)) x (.ins ((kd3 Z.c_Piece Z.c_Push Z.c_Hold) .pu) dx [])) x (.ins ((kd3 Z.c_Piece Z.c_Push Z.c_Hold) .pu) dx (jZ (.int (s:Int)) (.int (g:Int)) (.ref Z.aO)))=H4 at s4 rw4 ⊢;have ptW:cX ((W+1:Nat):Int) (s:Int) (g:Int):=by
  unfold wd at hW;exact⟨by lia,by lia,by lia,by lia⟩
 have ptm:cX (m:Int) (s:Int) (g:Int):=⟨by lia,by lia,by lia,by lia⟩
 refine⟨Rr,x,Z.aO,_,replicate (W+1) (0,1),(.pu,(s:Int),(g:Int),(1,1)),W+1,1,1,rfl,s4 _ _ e3,kX (fN _) (W+1),yK (W+1),rw4,fO _,ptW,gV,iC,by lia,fun ys' H5 sx5 eR5 F5=>?_⟩;obtain⟨lb5,v5⟩:=Wr (d:=(.pu,(s:Int),(g:Int),(1,1))) (h:=0) (m:=m) (yK (W+1)) ptm (by unfold wd at hW;lia) rfl gV iC;have s15:aZ H1 H5:=SX.same (s2.trans (s3.trans s4)) sx5 (fun c hc=>by rw[mem_singleton.mp hc];exact nR1);generalize pR (replicate (W+1) (0,1)) (.pu,(s:Int),(g:Int),(1,1))=rs at F5 lb5 v5;have v6:∀k,Mq.val (rs.getD k (0,1))=un g k - un s k:=fun k=>by
  rw[v5,qR,rM,<- qj1 s g k];show 0 + - dl ((s:Int)).toNat ((g:Int)).toNat k*Mq.val (1,1)=_;rw[Int.toNat_natCast,Int.toNat_natCast];grind
 have lrs:=lb5.w;refine⟨_,rfl,_,rfl,_,rfl,1,rfl,Rr,_,rfl,SqL.of eR5,fun S hS=>?_⟩;rw[Ka];have s6:=aI hS (.lst (ys'.drop 1));have e6:upd H5 S (.lst (ys'.drop 1)) S=some (.lst (ys'.drop 1)):=aD;generalize upd H5 S (.lst (ys'.drop 1))=H6 at s6 e6 ⊢;have s16:=s15.trans s6;have s06:=s1.trans s16;have gd:∀k,(rs.drop 1).getD k (0,1)=rs.getD (k+1) (0,1):=fun k=>by rw[getD_eq_getElem?_getD,getElem?_drop,Nat.add_comm,<- getD_eq_getElem?_getD]
 refine⟨n,l,p,S,p,H,m,b,_,L,ds,us,_,X,Y,rs.drop 1,rfl,NB.nt.same s06,SqL.of (s16 _ _ ep),(tE FM (fun x hx=>(nx x hx).1)).same s16,EO,EB,SqL.of e6,Fqs.drop1 (F5.same s6),by rw[length_drop,lrs,lX,<- hW];lia,fun pq hpq=>?_,fun t zs ps H7 nt7 s7 e7 F7 SU OV=>?_⟩
 ·obtain⟨k,hk⟩:=getElem?_of_mem hpq;rw[getElem?_drop] at hk;have lo:=(lb5.l pq (mem_of_getElem? hk)).1;have ev:=v6 (1+k);rw[getD_eq_getElem?_getD,hk] at ev;obtain⟨a0,ha0,ea⟩:=Zp g s (1+k);obtain⟨d1,t1⟩:=Dg lo (show (1:Int)<=1 by decide) (ev.trans ea);have:=Int.le_of_dvd (by decide) d1;have:=lo.pos;exact⟨lo,by lia,by lia⟩
 ·have lps:ps.length=X.length:=SU.len;have lm:m - 1<=ps.length:=by rw[lps,lX];unfold wd;lia
  refine q t zs (lvS m ps) (uP ps) H7 (s06.free nt7) (s06.trans s7) e7 F7 (sS mo lm) (tF SU.low) (yV OV) (EqB.sol EO SU fun i hi=>?_) (fun k hk=>Hq lm hk);show Mq.val ((rs.drop 1).getD i (0,1))=_;rw[gd,v6]
theorem Y61:DZ 8 Z.f61 Z.d61 ["net","k"] (Ss Z.c_Net Z.K) "held_heights":=by
 refine⟨?_,F61.b2 _ _ (by intros;rfl),F61.kp,m61⟩
 refine F61.ok9 Hu fun _ _ _ s H _ Q E hr h=>?_;obtain⟨n,l,m,b,kb,L,ds,k,d0,rfl,NB,hk,hd0,q⟩:=h;have r1:=hr.mono (show 1<=7 by lia);have r4:=hr.mono (show 4<=7 by lia);have r6:=hr.mono (show 6<=7 by lia);have r7:=hr;refine⟨_,(aB (aS (i:=2) Hu.nd rfl (Or.inl rfl) (aQ aT (d9 Y45 r7 rfl (aA (pv 0) aC)) aE (fun _ _=>rfl)))
  (aB (aS (i:=3) Hu.nd rfl (Or.inl rfl) (aX Aw (cZ (aA (cT (v:=.ref Z.aN) rfl mv_NOUGHT rfl) aC)) (bZ bL rfl n_len PySem.boot_len (aA (pv 2) aC))))
  (aB (tJ (i:=4) (nl:=1) (fr:=[]) (Nc:=["row"]) (cl:=[]) Hu.nd rfl rfl rfl ⟨rfl,rfl,by decide +kernel,by decide +kernel,fun x c h=>(by cases h),fG rfl,rfl,fun i n h=>(by simp at h)⟩
    (dG (eO gK (cA (pv 0) NTx.cl X3 R32 r4 b32 .nil aK) iF (dY (pv 1)))) (fun _ _ _ _ _=>(bH (i:=0) Mm rfl (Or.inl rfl))) (fun _ _ _ _ _=>(pS (bC eV (eJ (pv 0) T.cl mW GW r1 bW .nil aK) cF (bK _))))
    (fun _ _ _ _ _=>(pv 0)) rfl)
  (aB (kW (cT (v:=.ref Z.aO) rfl mv_ONE rfl) (oF (pv 3) (aX dU (aX iN (cA (pv 0) NTx.cl X2 R28 r1 b28 .nil aK) aE) (bZ bL rfl n_len PySem.boot_len (aA (pv 4) aC))) jC))
  (aF (aW (d9 Y59 r6 rfl (aA (pv 0) (aA (pv 2) (aA (pv 3) aC)))))))))),?_⟩
 have EB:=NB.eb;have mo:=EB.o.m1;have w26:=EB.w26;have h40:=NB.h40;have hkl:=(List.getElem?_eq_some_iff.mp hk).1;have hcl:=vI hk hd0;refine⟨_,rfl,n,l,m,kb,ds,rfl,NB.nt,NB.ok,mo,NB.m20,NB.h40,NB.cu,fun tt p r us ys X Y H1 s1 et np nr ep er FM FY nx EO=>?_⟩;have lX:X.length=wd m ds:=EO.x.h;have lus:=FM.l;refine⟨tt,_,0,_,rfl,rfl,SqT.of et,rfl,?_⟩;obtain⟨W,hW⟩:∃W,W=wd m ds:=⟨_,rfl⟩
 rw[<- hW] at w26;have lusW:us.length=W:=by rw[lus,lX,hW]
 refine⟨zl9 1,fun l1 hl1=>?_⟩;have s2:=aI hl1 (.lst [.ref Z.aN]);have e2:upd H1 l1 (.lst [.ref Z.aN]) l1=some (.lst [.ref Z.aN]):=aD;generalize upd H1 l1 (.lst [.ref Z.aN])=H2 at s2 e2 ⊢;have eW:(us.length:Int)=((W:Nat):Int):=by lia
 refine⟨_,rfl,p,us,rfl,.inl (SqL.of (s2 _ _ ep)),l1,_,[.ref Z.aN],rfl,rfl,e2,by lia,by lia,?_,fun Rr hR=>?_⟩
 ·rw[eW,Int.toNat_natCast,sizeLine_eq];simp only[length_cons,length_nil];lia
 rw[eW,Int.toNat_natCast,lT];have nR1:H1 Rr=none:=s2.free hR;have s3:=aI hR (.lst (replicate W (.ref Z.aN)));have e3:upd H2 Rr (.lst (replicate W (.ref Z.aN))) Rr=some (.lst (replicate W (.ref Z.aN))):=aD;generalize upd H2 Rr (.lst (replicate W (.ref Z.aN)))=H3 at s3 e3 ⊢;have s13:=s2.trans s3;have s03:=s1.trans s13;obtain⟨dn,hn⟩:=(NB.nt.same s03).ob;refine⟨_,rfl,n,dn,_,rfl,hn,dA _ _ (by decide +kernel) (by decide +kernel),n,l,_,ds,rfl,NB.nt.same s03,by lia,fun ra xs H4 s4 na ea Rb=>?_⟩;have lxs:=Rb.length;refine⟨_,rfl,(k:Int),rfl,ra,xs,rfl,SqL.of ea,fun S hS=>?_⟩;rw[Ge];have s5:=aI hS (.lst (xs.take k));have e5:upd H4 S (.lst (xs.take k)) S=some (.lst (xs.take k)):=aD;generalize upd H4 S (.lst (xs.take k))=H5 at s5 e5 ⊢;refine⟨S,rfl,⟨_,SqL.of e5⟩,fun C0 hC0=>?_⟩;have sC0:=aI hC0 (.lst []);refine fB (xs:=xs.take k) (fun i zs H'=>aZ H5 H'/\H' C0=some (.lst zs)/\zs.length=bA (ds.take i)) ⟨sC0,aD,rfl⟩ (fun i zs H' h=>h.2.1) (fun i zs H' _ h=>h.1.seq (SqL.of e5)) ?_ ?_
 ·rintro i zs x H6 hx ⟨s6,e6,lz⟩ C hC;have hi:i < ds.length:=by
   have:=(List.getElem?_eq_some_iff.mp hx).1;rw[length_take] at this;lia
  have ik:i < k:=by
   have:=(List.getElem?_eq_some_iff.mp hx).1;rw[length_take] at this;lia
  rw[getElem?_take_of_lt ik] at hx;obtain⟨⟨k0,u,v,p⟩,hd⟩:∃d,ds[i]?=some d:=⟨_,getElem?_eq_getElem hi⟩
  obtain⟨y,z,ey,rw,fz⟩:=Rb.at hd;have ex:x=.ref y:=by rw[ey] at hx;exact(Option.some.inj hx).symm
  subst ex;obtain⟨dr,hy⟩:=id (rw.same (s5.trans s6));have et:ds.take (i+1)=ds.take i++[(k0,u,v,p)]:=by rw[take_add_one,hd];rfl
  have lh:=Ek (ds:=ds) i;have lh2:bA ds<=ds.length:=length_filter_le _ _;refine⟨gF.1,gF.2,?_⟩;refine⟨_,rfl,k0,y,dr,_,rfl,hy,(cU _ _ _ (by decide +kernel) (by decide +kernel) (by decide +kernel)),_,rfl,rfl,_,rfl,?_⟩
  by_cases hk:k0=.ho
  ·refine L2.ifT (by show decide (V.str k0.wd=V.str Kd.ho.wd)=true;rw[cP];exact decide_eq_true hk) ⟨_,rfl,e6,bO (by lia),hC _ _ ⟨s6.change hC0,aD,?_⟩⟩;rw[et,fY,List.length_append,lz];show _+1=_+bV k0;unfold bV;rw[if_pos hk]
  ·refine L2.ifF (by show decide (V.str k0.wd=V.str Kd.ho.wd)=false;rw[cP];exact decide_eq_false hk) (hC _ _ ⟨s6,e6,?_⟩);rw[et,fY,lz];show _=_+bV k0;unfold bV;rw[if_neg hk];rfl
 ·rintro zs H6 ⟨s6,e6,lz⟩;have lz:zs.length=bA (ds.take k):=by rw[lz,length_take,show min k xs.length=k by lia]
  have s36:=s4.trans (s5.trans s6);have s06:=s03.trans s36;obtain⟨dn6,hn6⟩:=(NB.nt.same s06).ob;obtain⟨ix,hix⟩:∃ix,ix=m - 1+bA (ds.take k):=⟨_,rfl⟩
  have ixW:ix < W:=by unfold wd at hW;lia
  have eR6:=s36 _ _ e3;have eix:(m:Int) - 1+(zs.length:Int)=(ix:Int):=by lia
  refine⟨_,rfl,_,rfl,n,dn6,_,rfl,hn6,dA _ _ (by decide +kernel) (by decide +kernel),n,l,_,ds,rfl,NB.nt.same s06,_,_,rfl,rfl,_,rfl,C0,zs,rfl,.inl (SqL.of e6),_,_,rfl,rfl,?_⟩;refine⟨Rr,_,(ix:Int),ix,rfl,congrArg V.int eix,eR6,kD (by rw[length_replicate];exact ixW),?_⟩;have s17:aZ H1 (upd H6 Rr (.lst ((replicate W (V.ref Z.aN)).set ix (.ref Z.aO)))):=(s13.trans s36).change nR1;have F6:Fqs Z.K H6 ((replicate W (V.ref Z.aN)).set ix (.ref Z.aO)) ((replicate W (0,1)).set ix (1,1)):=Fqs.set (fO _) ix (kX (fN _) W);have F7:=Fqs.upd (o:=.lst ((replicate W (V.ref Z.aN)).set ix (.ref Z.aO))) eR6 F6;have e7:upd H6 Rr (.lst ((replicate W (V.ref Z.aN)).set ix (.ref Z.aO))) Rr=some (.lst ((replicate W (V.ref Z.aN)).set ix (.ref Z.aO))):=aD;generalize upd H6 Rr (.lst ((replicate W (V.ref Z.aN)).set ix (.ref Z.aO)))=H7 at s17 F7 e7 ⊢;have s07:=s1.trans s17;refine⟨_,rfl,_,rfl,_,rfl,n,l,p,Rr,p,H,m,b,_,L,ds,us,_,X,Y,(replicate W (0,1)).set ix (1,1),rfl,NB.nt.same s07,SqL.of (s17 _ _ ep),(tE FM (fun x hx=>(nx x hx).1)).same s17,EO,EB,SqL.of e7,F7,by rw[length_set,length_replicate,lX,hW],fun pq hpq=>?_,fun t zs ps H8 nt8 s8 e8 F8 SU OV=>?_⟩
  ·rcases mem_or_eq_of_mem_set hpq with z | z
   ·rw[eq_of_mem_replicate z];exact⟨⟨by decide,by decide⟩,rfl,by decide⟩
   ·rw[z];exact⟨gV,rfl,by decide⟩
  ·have lps:ps.length=X.length:=SU.len;have lm:m - 1<=ps.length:=by rw[lps,lX];unfold wd;lia
   refine q t zs (lvS m ps) (uP ps) H8 (s07.free nt8) (s07.trans s8) e8 F8 (sS mo lm) (tF SU.low) (yV OV) (EqB.sol EO SU fun i hi=>?_) (fun k hk=>Hq lm hk);unfold un;rw[getD_eq_getElem?_getD,getElem?_set]
   by_cases c:ix=i
   ·rw[if_pos c,if_pos (by rw[length_replicate];exact ixW),if_pos (by lia)];exact Mq.rL
   ·rw[if_neg c,if_neg (by lia),getElem?_replicate,if_pos (by lia)];exact rM
theorem X4:eI Z.K Z.c_Net "count" Z.f58:=⟨a58_0,i58,F58.kp⟩
theorem Y62:DZ 9 Z.f62 Z.d62 ["net","k"] (tN Z.c_Net Z.K) "shape_of":=by
 refine⟨?_,F62.b2 _ _ (by intros;rfl),F62.kp,m62⟩
 refine F62.ok9 Kb fun cdv A outer s H vs Q E hr h=>?_;obtain⟨n,l,m,b,kb,L,ds,k,⟨kd,u,v,p⟩,rfl,NB,hk,q⟩:=h;have r1:=hr.mono (show 1<=8 by lia);have r3:=hr.mono (show 3<=8 by lia);have r4:=hr.mono (show 4<=8 by lia);have r7:=hr.mono (show 7<=8 by lia);refine⟨_,(aB (bY (d9 Y26 r3 rfl (aA (pv 1) (aA (cA (pv 0) NTx.cl X4 R58 r1 b58 .nil aK) aC))))
  (aB (bY (d9 Y52 r7 rfl (aA (pv 0) aC)))
  (aB (aS (i:=2) Kb.nd rfl (Or.inl rfl) (aQ bG (cA (pv 0) NTx.cl X3 R32 r4 b32 .nil aK) (pv 1) (fun _ _=>rfl)))
  (aB (cG (bC eV (eJ (pv 2) T.cl mW GW r1 bW .nil aK) cF (bK _)) (aF (aW (d9 Y61 hr rfl (aA (pv 0) (aA (pv 1) aC))))) bN)
  (aF (aW (d9 Y60 hr rfl (aA (pv 0) (aA (bU (pv 2) rfl) (aA (bU (pv 2) rfl) aC)))))))))),?_⟩
 have EB:=NB.eb;have mo:=EB.o.m1;have m20:=NB.m20;have h40:=NB.h40;have hkl:=(List.getElem?_eq_some_iff.mp hk).1;obtain⟨u0,u1,v0,v1⟩:cX (m:Int) u v:=EB.o.pt _ (mem_of_getElem? hk);obtain⟨uN,rfl⟩:∃uN:Nat,u=(uN:Int):=⟨u.toNat,by lia⟩
 obtain⟨vN,rfl⟩:∃vN:Nat,v=(vN:Int):=⟨v.toNat,by lia⟩
 obtain⟨dn,hn⟩:=NB.nt.ob;refine⟨_,rfl,_,rfl,n,dn,_,rfl,hn,dA _ _ (by decide +kernel) (by decide +kernel),n,l,_,ds,rfl,NB.nt,(k:Int),(ds.length:Int),rfl,by lia,by lia,?_⟩;refine⟨_,rfl,n,l,m,ds,rfl,NB.nt,EB.o.pt,mo,m20,NB.h40,mM yY EB.o.pt m20 EB.o.fr _ (Nat.le_refl _),Au EB.o,fun H1 s1=>?_⟩;obtain⟨dn1,hn1⟩:=(NB.nt.same s1).ob;refine⟨_,rfl,n,dn1,_,rfl,hn1,dA _ _ (by decide +kernel) (by decide +kernel),n,l,_,ds,rfl,NB.nt.same s1,by lia,fun ra xs H2 s2 na ea Rb=>?_⟩;have s02:=s1.trans s2;obtain⟨y,z,ey,rw,fz⟩:=Rb.at hk;refine⟨_,rfl,ra,xs,_,_,rfl,rfl,SqL.of ea,bX ey,?_⟩;obtain⟨dy,hy⟩:=rw
 by_cases hh:kd=.ho
 ·refine⟨_,rfl,kd,y,dy,_,rfl,hy,(cU _ _ _ (by decide +kernel) (by decide +kernel) (by decide +kernel)),_,rfl,rfl,_,rfl,L2.ifT (by show decide (V.str kd.wd=V.str Kd.ho.wd)=true;rw[cP];exact decide_eq_true hh) ?_⟩;refine⟨_,rfl,_,rfl,n,l,m,b,kb,L,ds,k,_,rfl,NB.same s02,hk,hh,fun t zs hp v H3 nt3 s3 e3 F3 lh lo OV SV hv=>?_⟩;exact q t zs hp v H3 (s02.free nt3) (s02.trans s3) e3 F3 lh lo OV (by rw[show shR m ds k (kd,(uN:Int),(vN:Int),p)=un (m+bA (ds.take k)) from funext fun x=>if_pos hh];exact SV) hv
 ·refine⟨_,rfl,kd,y,dy,_,rfl,hy,(cU _ _ _ (by decide +kernel) (by decide +kernel) (by decide +kernel)),_,rfl,rfl,_,rfl,L2.ifF (by show decide (V.str kd.wd=V.str Kd.ho.wd)=false;rw[cP];exact decide_eq_false hh) ?_⟩;refine⟨_,rfl,_,rfl,y,(kd3 Z.c_Piece Z.c_Push Z.c_Hold) _,_,_,_,rfl,hy,T.cl _,T.nG _,dX _ _ _,_,rfl,y,(kd3 Z.c_Piece Z.c_Push Z.c_Hold) _,_,_,_,rfl,hy,T.cl _,T.nS _,dH _ _ _,?_⟩;refine⟨n,l,m,b,kb,L,ds,vN,uN,rfl,NB.same s02,by lia,by lia,fun t zs hp v H3 nt3 s3 e3 F3 lh lo OV SV hv=>?_⟩;exact q t zs hp v H3 (s02.free nt3) (s02.trans s3) e3 F3 lh lo OV (by rw[show shR m ds k (kd,(uN:Int),(vN:Int),p)=fun x=>un uN x - un vN x from funext fun x=>if_neg hh];exact SV) hv
theorem X5:eI Z.K Z.c_Answer "heights" Z.f55:=⟨a55_0,i55,F55.kp⟩
theorem Y63:DZ 10 Z.f63 Z.d63 ["net","answer","k","size"] (Og Z.c_Net Z.c_Answer Z.K) "factor_of":=by
 refine⟨?_,F63.b4 _ _ _ _ (by intros;rfl),F63.kp,m63⟩
 refine F63.ok9 Az fun _ _ _ s H _ Q E hr h=>?_;obtain⟨n,l,a,z,m,k,L,ds,⟨kd,u,v,s0⟩,p,lv,fl,rfl,nt,DW,an,av,hk,fz,sz,q⟩:=h;have r1:=hr.mono (show 1<=9 by lia);have r3:=hr.mono (show 3<=9 by lia);have r4:=hr.mono (show 4<=9 by lia);refine⟨_,(aB (aS (i:=4) Az.nd rfl (Or.inl rfl) (aQ bG (cA (pv 0) NTx.cl X3 R32 r4 b32 .nil aK) (pv 2) (fun _ _=>rfl)))
  (aB (cG (bC eV (eJ (pv 4) T.cl mW GW r1 bW .nil aK) cF (bK _)) (aF (aW (aG Y5.G r3 rfl m5 F5.kp Y5.b .nil aK (aA (bU (pv 4) rfl) (aA (pv 3) aC))))) bN)
  (aB (cG (bC eV (eJ (pv 4) T.cl mW GW r1 bW .nil aK) cF (bK _)) (aF (aW (aG Y5.G r3 rfl m5 F5.kp Y5.b .nil aK (aA (pv 3) (aA (bU (pv 4) rfl) aC))))) bN)
  (aB (aS (i:=5) Az.nd rfl (Or.inl rfl) (aG Y5.G r3 rfl m5 F5.kp Y5.b .nil aK (aA (aG Y7.G r3 rfl m7 F7.kp Y7.b .nil aK (aA (cT (v:=.ref Z.aO) rfl mv_ONE rfl) (aA (pv 3) aC))) (aA (aG Y7.G r3 rfl m7 F7.kp Y7.b .nil aK (aA (cT (v:=.ref Z.aO) rfl mv_ONE rfl) (aA (bU (pv 4) rfl) aC))) aC))))
  (aB (aS (i:=6) Az.nd rfl (Or.inl rfl) (aG Y33.G r4 rfl m33 F33.kp Y33.b .nil aK (aA (pv 4) (aA (cA (pv 1) ABx.cl X5 R55 r1 b55 .nil aK) aC))))
  (aB (aS (i:=7) Az.nd rfl (Or.inl rfl) (aG Y33.G r4 rfl m33 F33.kp Y33.b .nil aK (aA (pv 4) (aA (aG Y62.G hr rfl m62 F62.kp Y62.b .nil aK (aA (pv 0) (aA (pv 2) aC))) aC))))
  (aF (aW (aG Y7.G r3 rfl m7 F7.kp Y7.b .nil aK (aA (aG Y5.G r3 rfl m5 F5.kp Y5.b .nil aK (aA (cT (v:=.ref Z.aN) rfl mv_NOUGHT rfl) (aA (aG Y8.G r3 rfl m8 F8.kp Y8.b .nil aK (aA (pv 5) (aA (pv 6) aC))) aC))) (aA (aG Y6.G r3 rfl m6 F6.kp Y6.b .nil aK (aA (cT (v:=.ref Z.aO) rfl mv_ONE rfl) (aA (aG Y8.G r3 rfl m8 F8.kp Y8.b .nil aK (aA (pv 5) (aA (pv 7) aC))) aC))) aC))))))))))),?_⟩
 have o:=DW.o;have m8:=DW.m5;have md:=mem_of_getElem? hk;obtain⟨ro,so⟩:=DW.ok _ md;have ls:Low s0:=so.lo;have bs:Bd 31 s0:=so.bd;have sz':SzW L kd p:=sz;obtain⟨u0,u1,v0,v1⟩:cX (m:Int) u v:=o.pt _ md;obtain⟨dn,hn⟩:=nt.ob;have len:=DW.len;refine⟨_,rfl,n,dn,_,rfl,hn,dA _ _ (by decide +kernel) (by decide +kernel),n,l,_,ds,rfl,nt,by lia,fun ra xs H1 s1 na ea Rb=>?_⟩;obtain⟨y,zs,ey,rw,fzs⟩:=Rb.at hk;refine⟨_,rfl,ra,xs,_,_,rfl,rfl,SqL.of ea,bX ey,?_⟩;have rw0:=rw;obtain⟨dy,hy⟩:=rw;have fz1:=s1.fq fz
 by_cases hp:kd=.pu
 ·refine⟨_,rfl,kd,y,dy,_,rfl,hy,(cU _ _ _ (by decide +kernel) (by decide +kernel) (by decide +kernel)),_,rfl,rfl,_,rfl,L2.ifT (by show decide (V.str kd.wd=V.str Kd.pu.wd)=true;rw[cP];exact decide_eq_true hp) ?_⟩;refine⟨_,rfl,y,(kd3 Z.c_Piece Z.c_Push Z.c_Hold) _,_,_,_,rfl,hy,T.cl _,T.nZ _,eY _ _ _,_,rfl,zs,z,s0,p,31,31,rfl,fzs,fz1,ls.pos,sz'.lo.pos,bs,sz'.bd,by lia,fun r H2 s2 e2=>?_⟩;exact q r _ H2 (s1.trans s2) (Fq.of e2) ⟨fun c=>absurd (hp.symm.trans c) (by decide),fun c=>absurd (hp.symm.trans c) (by decide)⟩
 refine⟨_,rfl,kd,y,dy,_,rfl,hy,(cU _ _ _ (by decide +kernel) (by decide +kernel) (by decide +kernel)),_,rfl,rfl,_,rfl,L2.ifF (by show decide (V.str kd.wd=V.str Kd.pu.wd)=false;rw[cP];exact decide_eq_false hp) ?_⟩
 by_cases hh:kd=.ho
 ·refine⟨_,rfl,kd,y,dy,_,rfl,hy,(cU _ _ _ (by decide +kernel) (by decide +kernel) (by decide +kernel)),_,rfl,rfl,_,rfl,L2.ifT (by show decide (V.str kd.wd=V.str Kd.ho.wd)=true;rw[cP];exact decide_eq_true hh) ?_⟩;refine⟨_,rfl,_,rfl,y,(kd3 Z.c_Piece Z.c_Push Z.c_Hold) _,_,_,_,rfl,hy,T.cl _,T.nZ _,eY _ _ _,z,zs,p,s0,31,31,rfl,fz1,fzs,sz'.lo.pos,ls.pos,sz'.bd,bs,by lia,fun r H2 s2 e2=>?_⟩;exact q r _ H2 (s1.trans s2) (Fq.of e2) ⟨fun _=>rfl,fun c=>absurd (hh.symm.trans c) (by decide)⟩
 refine⟨_,rfl,kd,y,dy,_,rfl,hy,(cU _ _ _ (by decide +kernel) (by decide +kernel) (by decide +kernel)),_,rfl,rfl,_,rfl,L2.ifF (by show decide (V.str kd.wd=V.str Kd.ho.wd)=false;rw[cP];exact decide_eq_false hh) ?_⟩;have hc:kd=.pc:=by cases kd<;>first | rfl | exact absurd rfl hp | exact absurd rfl hh
 subst hc;obtain⟨p0,_,_⟩:=sz'.pc rfl;obtain⟨q0,_,_⟩:0 < s0.1/\s0.1 ∣ L/\s0.2.natAbs<=128:=so.pc rfl;have l11:(1:Int)<=((1,1):Q2).2:=by show (1:Int)<=1;decide
 refine⟨_,rfl,Z.aO,z,(1,1),p,1,31,rfl,fO _,fz1,l11,sz'.lo.pos,p0,rQ,sz'.bd,by lia,fun w1 H2 s2 e2=>?_⟩;refine⟨_,rfl,y,(kd3 Z.c_Piece Z.c_Push Z.c_Hold) _,_,_,_,rfl,s2 _ _ hy,T.cl _,T.nZ _,eY _ _ _,Z.aO,zs,(1,1),s0,1,31,rfl,fO _,s2.fq fzs,l11,ls.pos,q0,rQ,bs,by lia,fun w2 H3 s3 e3=>?_⟩;have lo1:=iH (p:=(1,1)) (q:=p) l11 (by lia);have lo2:=iH (p:=(1,1)) (q:=s0) l11 (by lia);have bo1:=oS (n:=1) (m:=31) (p:=(1,1)) (q:=p) rQ sz'.bd l11 (by lia);have bo2:=oS (n:=1) (m:=31) (p:=(1,1)) (q:=s0) rQ bs l11 (by lia);have vo1:=jV (p:=(1,1)) (q:=p) l11 sz'.lo.pos (by lia);have vo2:=jV (p:=(1,1)) (q:=s0) l11 ls.pos (by lia);rw[rL] at vo1 vo2;have fw1:Fq Z.K H2 w1 (fI (1,1) p):=Fq.of e2;have fw2:Fq Z.K H3 w2 (fI (1,1) s0):=Fq.of e3;generalize gO1:fI (1,1) p=O1 at lo1 bo1 vo1 fw1;generalize gO2:fI (1,1) s0=O2 at lo2 bo2 vo2 fw2;refine⟨w1,w2,O1,O2,32,32,rfl,s3.fq fw1,fw2,lo1.pos,lo2.pos,bo1,bo2,by lia,fun w3 H4 s4 e4=>?_⟩;have lM:=dD lo1.pos lo2.pos;have bM:=iI bo1 bo2 lo1.pos lo2.pos;have vM:=gE lo1.pos lo2.pos;rw[vo1,vo2] at vM;have fM:Fq Z.K H4 w3 (Mq.minus O1 O2):=Fq.of e4;generalize gM:Mq.minus O1 O2=M at lM bM vM fM;have s24:=s2.trans (s3.trans s4);have s04:=s1.trans s24;obtain⟨ps,elv,_,lps,lops,OV,_⟩:=av.e;have bwl:=DW.bwle;have m5:=o.m1;have wl:wd m ds=m - 1+bA ds:=rfl;have lvl:lv.length=m:=by rw[elv];exact sS m5 (by lia)
 have lvo:fE lv:=by rw[elv];exact tF lops
 have OVl:Ovr (bw 190 (wd m ds)) lv:=by rw[elv];exact yV OV
 have b39:=Dr OVl lvo (by lia);have flk:∀{hp:List Q2},hp.length=m->fE hp->Ovr (bw 190 (wd m ds)) hp->Low (flF hp (.pc,u,v,s0))/\Bd 1764 (flF hp (.pc,u,v,s0))/\Mq.val (flF hp (.pc,u,v,s0))=Mq.val (hp.getD u.toNat (0,1)) - Mq.val (hp.getD v.toNat (0,1)):=fun {hp} lh lo OV=>by
  have m5:=mem_of_getElem? (uT (ps:=hp) (j:=u.toNat) (by lia));have m7:=mem_of_getElem? (uT (ps:=hp) (j:=v.toNat) (by lia));obtain⟨Y5.b,_,_⟩:=Ovr.minus OV lo m5 m7;exact⟨dD (lo _ m5).pos (lo _ m7).pos,Y5.b.mono (by lia),gE (lo _ m5).pos (lo _ m7).pos⟩
 obtain⟨dxa,li,le,fo,_,_,ha,_⟩:=(an.same s04).e;refine⟨_,rfl,_,rfl,a,dxa,_,rfl,ha,oP _ _ _ (by decide +kernel) (by decide +kernel) (by decide +kernel),a,lv,fl,rfl,an.same s04,fun lh xh H5 s5 nlh elh Fh=>?_⟩;refine⟨y,lh,(.pc,u,v,s0),_,xh,lv,m,rfl,⟨dy,(s24.trans s5) _ _ hy⟩,⟨SqL.of elh,Fh,lvl,b39⟩,⟨u0,u1,v0,v1⟩,fun f1 H6 s6 e6=>?_⟩;have ff1:Fq Z.K H6 f1 (flF lv (.pc,u,v,s0)):=Fq.of e6;obtain⟨lf1,bf1,_⟩:=flk lvl lvo OVl;generalize gf1:flF lv (.pc,u,v,s0)=f1q at ff1 lf1 bf1;have s46:=s5.trans s6;have s06:=s04.trans s46;refine⟨_,rfl,_,rfl,_,rfl,n,l,m,190,_,L,ds,k,_,rfl,DW.net (nt.same s06),hk,fun t7 zs7 hp7 vv H7 nt7 s7 e7 F7 lh7 lo7 OV7 SV7 hv7=>?_⟩;refine⟨y,t7,(.pc,u,v,s0),_,zs7,hp7,m,rfl,⟨dy,(s24.trans (s46.trans s7)) _ _ hy⟩,⟨SqL.of e7,F7,lh7,Dr OV7 lo7 (by lia)⟩,⟨u0,u1,v0,v1⟩,fun f2 H8 s8 e8=>?_⟩;have ff2:Fq Z.K H8 f2 (flF hp7 (.pc,u,v,s0)):=Fq.of e8;obtain⟨lf2,bf2,vf2⟩:=flk lh7 lo7 OV7;rw[hv7 _ (by lia),hv7 _ (by lia)] at vf2;generalize gf2:flF hp7 (.pc,u,v,s0)=f2q at ff2 lf2 bf2 vf2;have s68:=s7.trans s8;have s48:=s46.trans s68;refine⟨_,rfl,_,rfl,w3,f1,M,f1q,65,1764,rfl,s48.fq fM,s68.fq ff1,lM.pos,lf1.pos,bM,bf1,by lia,fun g1 H9 s9 e9=>?_⟩;have lt1:=jX lM.pos lf1.pos;have bt1:=oT bM bf1 lM.pos lf1.pos;have fg1:Fq Z.K H9 g1 (gC M f1q):=Fq.of e9;generalize gt1:gC M f1q=t1q at lt1 bt1 fg1;have b01:Bd 1 (0,1):=Ya (n:=0);have l01:(1:Int)<=((0,1):Q2).2:=by show (1:Int)<=1;decide
 refine⟨Z.aN,g1,(0,1),t1q,1,1829,rfl,fN _,fg1,l01,lt1.pos,b01,bt1,by lia,fun g2 HA sA eA=>?_⟩;have lt2:=dD (p:=(0,1)) (q:=t1q) l01 lt1.pos;have bt2:=iI (n:=1) (m:=1829) (p:=(0,1)) (q:=t1q) b01 bt1 l01 lt1.pos;have fg2:Fq Z.K HA g2 (Mq.minus (0,1) t1q):=Fq.of eA;generalize gt2:Mq.minus (0,1) t1q=t2q at lt2 bt2 fg2;have s8A:=s9.trans sA;refine⟨_,rfl,_,rfl,w3,f2,M,f2q,65,1764,rfl,(s48.trans s8A).fq fM,s8A.fq ff2,lM.pos,lf2.pos,bM,bf2,by lia,fun g3 HB sB eB=>?_⟩;have lt3:=jX lM.pos lf2.pos;have bt3:=oT bM bf2 lM.pos lf2.pos;have vt3:=yD lM.pos lf2.pos;have fg3:Fq Z.K HB g3 (gC M f2q):=Fq.of eB;generalize gt3:gC M f2q=t3q at lt3 bt3 vt3 fg3;refine⟨Z.aO,g3,(1,1),t3q,1,1829,rfl,fO _,fg3,l11,lt3.pos,rQ,bt3,by lia,fun g4 HC sC eC=>?_⟩;have lt4:=lW (p:=(1,1)) (q:=t3q) l11 lt3.pos;have bt4:=sU (n:=1) (m:=1829) (p:=(1,1)) (q:=t3q) rQ bt3 l11 lt3.pos;have vt4:=pL (p:=(1,1)) (q:=t3q) l11 lt3.pos;have fg4:Fq Z.K HC g4 (iZ (1,1) t3q):=Fq.of eC;generalize gt4:iZ (1,1) t3q=t4q at lt4 bt4 vt4 fg4;have po:=Ij o hk rfl SV7 (Id sz'.lo.pos p0);have vt4:0 < Mq.val t4q:=by
  rw[vt4,vt3,rL,vM,vf2];exact po
 refine⟨g2,g4,t2q,t4q,1831,1831,rfl,(sB.trans sC).fq fg2,fg4,lt2.pos,lt4.pos,Ry lt4.pos vt4,bt2,bt4,by lia,fun r HD sD eD=>?_⟩;exact q r _ HD (s04.trans (s48.trans (s8A.trans (sB.trans (sC.trans sD))))) (Fq.of eD) ⟨fun c=>(by cases c),fun _=>⟨hp7,⟨lh7,lo7,vv,SV7,hv7⟩,by unfold Sf;dsimp only;rw[gO1,gO2,gM,gf1,gf2,gt1,gt2,gt3,gt4]⟩⟩
theorem X6:eI Z.K Z.c_Net "copy" Z.f57:=⟨a57_0,i57,F57.kp⟩
theorem R64:FZ CX0 10 Z.f64 Z.d64 ["self","net"] (Dv Z.c_Net Z.c_Answer Z.c_Watch Z.K):=by
 refine F64.ok9 Zo fun _ _ _ s H _ Q E hr h=>?_;obtain⟨x,dx,n,l,m,L,ds,rfl,hx,nt,DW,q⟩:=h;have r4:=hr.mono (show 4<=9 by lia);have r9:=hr;refine⟨_,(aB (iB (pv 0) (iV MA R54 r9 rfl ABx.mA b54 .nil aK (aA (pv 1) aC)) rfl)
  (aF (iB (pv 0) (cA (pv 1) NTx.cl X6 R57 r4 b57 .nil aK) rfl))),?_⟩
 have o:=DW.o;have m5:=DW.m5;have m1:=o.m1;refine⟨_,rfl,fun xa dxa hx0 hdx nxd=>?_⟩;have sm:=oU (C:=Z.c_Answer) hx0 hdx;refine⟨xa,dxa,n,l,m,190,_,L,ds,rfl,aD,DW.net (nt.same sm),Nat.le_trans DW.bwle (by decide),DW.eR,mM yY o.pt (by lia) o.fr _ (Nat.le_refl _),Au o,fun ps H2 sx2 an lps lo OV SV LE=>⟨rfl,?_⟩⟩;have s2:=uO hx0 hdx sx2;obtain⟨dxa',li,le,fo,xs,ys,ha,hle,Fle,hfo,Ffo,nw⟩:=an.e;have hx2:=s2 _ _ hx;have nxa:xa≠x:=Ne.symm (aU hx hx0);refine⟨_,rfl,x,Z.c_Watch,dx,[],rfl,hx2,WBx.cl,WBx.nC,by show 0 < 1000;decide,?_⟩;have x3:bQ x H2 (upd H2 x (.ins Z.c_Watch dx (cQ "current" (.ref xa) []))):=fun b o h nb=>by rw[aY nb];exact h
 have hx3:upd H2 x (.ins Z.c_Watch dx (cQ "current" (.ref xa) [])) x=some (.ins Z.c_Watch dx [(("current":Str),V.ref xa)]):=by rw[aD,Zi]
 try dsimp only
 generalize upd H2 x (.ins Z.c_Watch dx (cQ "current" (.ref xa) []))=H3 at x3 hx3 ⊢;have nx:n≠x:=fun z=>by
  obtain⟨dn,a⟩:=nt.ob;rw[z,hx] at a;injection a with a
  injection a with _ _ a
  unfold gR at a;have:=bF ("kept":Str) "kept" (.ref l) (cQ "point_count" (.int (m:Int)) []);rw[<- a,if_pos rfl] at this
  cases this
 have nt3:dF Z.c_Net Z.K H3 n l (m:Int) ds:=by
  obtain⟨⟨dn,hn⟩,ts,hl,hR⟩:=nt.same s2;exact⟨⟨dn,x3 _ _ hn nx⟩,ts,x3 _ _ hl (dL hl hx2 (fun z=>by cases z)),Am hx2 x3 hR⟩
 obtain⟨dn,hn3⟩:=nt3.ob;refine⟨_,rfl,n,dn,_,rfl,hn3,dA _ _ (by decide +kernel) (by decide +kernel),n,l,_,ds,rfl,nt3,by lia,by lia,fun n1 l1 H4 s4 nn1 nl1 nt4=>?_⟩;have hx4:=s4 _ _ hx3;refine⟨_,rfl,x,Z.c_Watch,dx,_,rfl,hx4,WBx.cl,WBx.nF,by show 1 < 1000;decide,?_⟩;have x5:bQ x H4 (upd H4 x (.ins Z.c_Watch dx (cQ "followed" (.ref n1) [(("current":Str),V.ref xa)]))):=fun b o h nb=>by rw[aY nb];exact h
 have hx5:upd H4 x (.ins Z.c_Watch dx (cQ "followed" (.ref n1) [(("current":Str),V.ref xa)])) x=some (.ins Z.c_Watch dx (fD xa n1)):=by rw[aD,Yr]
 show Q .non (upd H4 x (.ins Z.c_Watch dx (cQ "followed" (.ref n1) [(("current":Str),V.ref xa)])));generalize upd H4 x (.ins Z.c_Watch dx (cQ "followed" (.ref n1) [(("current":Str),V.ref xa)]))=H5 at x5 hx5 ⊢;have sx25:bQ x H2 H5:=x3.trans (s4.x.trans x5);have nn1x:n1≠x:=Ne.symm (aU hx3 nn1);obtain⟨⟨dn1,hn1⟩,ts1,hl1,hR1⟩:=nt4;have h03:∀{y:Addr} {o:HO},H y=some o->∃o',H3 y=some o':=fun {y o} ho=>by
  by_cases c:y=x
  ·rw[c];exact⟨_,hx3⟩
  ·exact⟨o,x3 _ _ (s2 _ _ ho) c⟩
 refine q H5 (fun b o h nb=>sx25 b o (s2 b o h) nb) (Nr hx2 sx25 hx5 nxa ha hle Fle hfo Ffo ⟨ps,rfl,rfl,lps,lo,OV,SV⟩ nn1x (x5 _ _ hn1 nn1x) (x5 _ _ hl1 (dL hl1 hx4 (fun z=>by cases z))) (Am hx4 x5 hR1) fun y oy hy=>?_) (fun w0=>by
  obtain⟨dq,li,le,fo,e1,e2⟩:=LE w0;exact⟨dx,xa,n1,hx5,dq,li,le,fo,sx25 _ _ e1 nxa,sx25 _ _ e2 (dL e2 hx2 (fun z=>by cases z))⟩)
 obtain⟨o3,h3⟩:=h03 hy;have nya:y≠xa:=aU hy hx0;obtain⟨c1,c2⟩:=nw y oy (sm _ _ hy) nya;exact⟨Ne.symm nya,c1,c2,Ne.symm (aU h3 nn1),Ne.symm (aU h3 nl1)⟩
theorem X7:eI Z.K Z.c_Net "change" Z.f31:=⟨a31_0,i31,F31.kp⟩
theorem R65:FZ CX0 11 Z.f65 Z.d65 ["self","k","size"] (Ha Z.c_Net Z.c_Answer Z.c_Watch Z.K):=by
 refine F65.ok9 Ff fun _ _ _ s H _ Q E hr h=>?_;obtain⟨x,z,m,k,L,ds,d,p,rfl,WA,DW,hk,fz,sz,q⟩:=h;have r4:=hr.mono (show 4<=10 by lia);have r5:=hr.mono (show 5<=10 by lia);have r9:=hr.mono (show 9<=10 by lia);refine⟨_,(aB (aS (i:=3) Ff.nd rfl (Or.inl rfl) (cA (bU (pv 0) rfl) NTx.cl X6 R57 r4 b57 .nil aK))
  (aB (bY (Ae (pv 3) NTx.cl X7 R31 r5 b31 .nil aK (aA (pv 1) (aA (pv 2) aC))))
  (aB (aS (i:=4) Ff.nd rfl (Or.inl rfl) (aG Y63.G hr rfl m63 F63.kp Y63.b .nil aK (aA (bU (pv 0) rfl) (aA (bU (pv 0) rfl) (aA (pv 1) (aA (pv 2) aC))))))
  (aB (iB (pv 0) (iV MA R54 r9 rfl ABx.mA b54 .nil aK (aA (pv 3) aC)) rfl)
  (aB (iB (pv 0) (pv 3) rfl)
  (aF (aW (pv 4)))))))),?_⟩
 have o:=DW.o;have m5:=DW.m5;have m63:=o.m1;have DW':=DW.set hk sz;have o':=DW'.o;obtain⟨dx,a,n,l,dxa,li,le,fo,dn,xs,ys,ts,lv,fl,hw,ha,hle,Fle,hfo,Ffo,AV,hn,hl,hRt,naw,nnw,_⟩:=WA.e;refine⟨_,rfl,x,Z.c_Watch,_,_,_,rfl,hw,WBx.cl,WBx.nF,Jp _ _,n,dn,_,rfl,hn,dA _ _ (by decide +kernel) (by decide +kernel),n,l,_,ds,rfl,⟨⟨dn,hn⟩,ts,hl,hRt⟩,by lia,by lia,fun n1 l1 H1 s1 nn1 nl1 nt1=>?_⟩;obtain⟨dn1,hn1⟩:=nt1.ob;refine⟨_,rfl,n1,dn1,_,rfl,hn1,dA _ _ (by decide +kernel) (by decide +kernel),_,rfl,_,rfl,n1,l1,z,(m:Int),(k:Int),ds,d.1,d.2.1,d.2.2.1,d.2.2.2,p,rfl,nt1,by lia,by rw[Int.toNat_natCast];exact hk,s1.fq fz,sz.lo,fun c=>(sz.pc c).1,sz.bd.mono (by lia),fun H2 sx2 nt2=>?_⟩;rw[Int.toNat_natCast,<- qW hk] at nt2;have s2:aZ H H2:=fun b ob h=>sx2 b ob (s1 b ob h) (aU h nl1);have hw2:=s2 _ _ hw;refine⟨_,rfl,x,Z.c_Watch,_,_,_,rfl,hw2,WBx.cl,WBx.nF,Jp _ _,_,rfl,x,Z.c_Watch,_,_,_,rfl,hw2,WBx.cl,WBx.nC,tG _ _,_,rfl,_,rfl,n,l,a,z,m,k,L,ds,d,p,lv,fl,rfl,⟨⟨dn,s2 _ _ hn⟩,ts,s2 _ _ hl,hRt.same s2⟩,DW,⟨dxa,li,le,fo,xs,ys,s2 _ _ ha,SqL.of (s2 _ _ hle),Fle.same s2,SqL.of (s2 _ _ hfo),Ffo.same s2⟩,AV,hk,s2.fq fz,sz,fun rf qf H3 s3 frf eqf=>?_⟩;have s03:=s2.trans s3;have hw3:=s03 _ _ hw;have nt3:=nt2.same s3
 try dsimp only
 refine⟨_,rfl,fun xa dxa' hx0 hdx nxd=>?_⟩;have sm:=oU (C:=Z.c_Answer) hx0 hdx;refine⟨xa,dxa',n1,l1,m,190,_,L,szS ds k p,rfl,aD,DW'.net (nt3.same sm),Nat.le_trans DW'.bwle (by decide),DW'.eR,mM yY o'.pt (by lia) o'.fr _ (Nat.le_refl _),Au o',fun ps H4 sx4 an lps lo OV SV _=>⟨rfl,?_⟩⟩;have s4:=uO hx0 hdx sx4;obtain⟨dxb,li',le',fo',xs',ys',ha',hle',Fle',hfo',Ffo',nw⟩:=an.e;have hw4:=s4 _ _ hw3;refine⟨_,rfl,x,Z.c_Watch,dx,_,rfl,hw4,WBx.cl,WBx.nC,by show 2 < 1000;decide,?_⟩;have x5:bQ x H4 (upd H4 x (.ins Z.c_Watch dx (cQ "current" (.ref xa) (fD a n)))):=fun b o h nb=>by rw[aY nb];exact h
 have hx5:upd H4 x (.ins Z.c_Watch dx (cQ "current" (.ref xa) (fD a n))) x=some (.ins Z.c_Watch dx (fD xa n)):=by rw[aD,Xj]
 show jH _ _ _ _ (upd H4 x (.ins Z.c_Watch dx (cQ "current" (.ref xa) (fD a n))));generalize upd H4 x (.ins Z.c_Watch dx (cQ "current" (.ref xa) (fD a n)))=H5 at x5 hx5 ⊢;refine⟨_,rfl,_,rfl,x,Z.c_Watch,dx,_,rfl,hx5,WBx.cl,WBx.nF,by show 2 < 1000;decide,?_⟩;have x6:bQ x H5 (upd H5 x (.ins Z.c_Watch dx (cQ "followed" (.ref n1) (fD xa n)))):=fun b o h nb=>by rw[aY nb];exact h
 have hx6:upd H5 x (.ins Z.c_Watch dx (cQ "followed" (.ref n1) (fD xa n))) x=some (.ins Z.c_Watch dx (fD xa n1)):=by rw[aD,Xt]
 refine⟨_,rfl,?_⟩;show Q (.ref rf) (upd H5 x (.ins Z.c_Watch dx (cQ "followed" (.ref n1) (fD xa n))));generalize upd H5 x (.ins Z.c_Watch dx (cQ "followed" (.ref n1) (fD xa n)))=H6 at x6 hx6 ⊢;have sx46:bQ x H4 H6:=x5.trans x6;have nn1x:n1≠x:=Ne.symm (aU hw nn1);have nxa:xa≠x:=Ne.symm (aU hw3 hx0);obtain⟨⟨dn4,hn4⟩,ts4,hl4,hR4⟩:=nt3.same s4;refine q rf qf H6 (fun b ob h nb=>sx46 b ob (s4 b ob (s03 b ob h)) nb) (bQ.seqTI hw4 sx46 (s4.fq frf)) ⟨lv,fl,AV,eqf⟩ (Nr hw4 sx46 hx6 nxa ha' hle' Fle' hfo' Ffo' ⟨ps,rfl,rfl,lps,lo,OV,SV⟩ nn1x (sx46 _ _ hn4 nn1x) (sx46 _ _ hl4 (dL hl4 hw4 (fun z=>by cases z))) (Am hw4 sx46 hR4) fun y oy hy=>?_);have h3:=s03 _ _ hy;have nya:y≠xa:=aU h3 hx0;obtain⟨c1,c2⟩:=nw y oy (sm _ _ h3) nya;exact⟨Ne.symm nya,c1,c2,Ne.symm (aU hy nn1),Ne.symm (aU hy nl1)⟩
theorem R66:FZ CX0 2 Z.f66 Z.d66 ["self"] (Fp Z.c_Net Z.c_Answer Z.c_Watch Z.K):=by
 refine F66.ok9 qd8 fun _ _ _ s H _ Q E hr h=>?_;obtain⟨w,m,ds,rfl,WA,q⟩:=h;have r1:=hr;refine⟨_,(aF (aW (cA (bU (pv 0) rfl) ABx.cl X5 R55 r1 b55 .nil aK))),?_⟩;obtain⟨dx,a,n,l,dxa,li,le,fo,dn,xs,ys,ts,lv,fl,hw,ha,hle,Fle,hfo,Ffo,AV,hn,hl,hRt,naw,nnw,_⟩:=WA.e;refine⟨_,rfl,w,Z.c_Watch,_,_,_,rfl,hw,WBx.cl,WBx.nC,tG _ _,a,dxa,_,rfl,ha,oP _ _ _ (by decide +kernel) (by decide +kernel) (by decide +kernel),a,lv,fl,rfl,⟨dxa,li,le,fo,xs,ys,ha,SqL.of hle,Fle,SqL.of hfo,Ffo⟩,fun l1 xs1 H1 s1 n1 e1 F1=>?_⟩;exact q lv fl AV l1 xs1 H1 s1 n1 e1 F1
theorem X8:eI Z.K Z.c_Answer "streams" Z.f56:=⟨a56_0,i56,F56.kp⟩
theorem R67:FZ CX0 2 Z.f67 Z.d67 ["self"] (Do Z.c_Net Z.c_Answer Z.c_Watch Z.K):=by
 refine F67.ok9 qd2 fun _ _ _ s H _ Q E hr h=>?_;obtain⟨w,m,ds,rfl,WA,q⟩:=h;have r1:=hr;refine⟨_,(aF (aW (cA (bU (pv 0) rfl) ABx.cl X8 R56 r1 b56 .nil aK))),?_⟩;obtain⟨dx,a,n,l,dxa,li,le,fo,dn,xs,ys,ts,lv,fl,hw,ha,hle,Fle,hfo,Ffo,AV,hn,hl,hRt,naw,nnw,_⟩:=WA.e;refine⟨_,rfl,w,Z.c_Watch,_,_,_,rfl,hw,WBx.cl,WBx.nC,tG _ _,a,dxa,_,rfl,ha,oP _ _ _ (by decide +kernel) (by decide +kernel) (by decide +kernel),a,lv,fl,rfl,⟨dxa,li,le,fo,xs,ys,ha,SqL.of hle,Fle,SqL.of hfo,Ffo⟩,fun l1 xs1 H1 s1 n1 e1 F1=>?_⟩;exact q lv fl AV l1 xs1 H1 s1 n1 e1 F1
theorem X9:cC [.non] [.none]:=.cons rfl .nil
theorem Y68:DZ 6 Z.f68 Z.d68 ["net","k"] (Nb Z.c_Net Z.K) "block_of":=by
 refine⟨?_,F68.b2 _ _ (by intros;rfl),F68.kp,m68⟩
 refine F68.ok9 Cp fun _ _ _ s H _ Q E hr h=>?_;obtain⟨n,l,m,k,ds,rfl,nt,pt,m20,h40,hk,q⟩:=h;have r1:=hr.mono (show 1<=5 by lia);have r3:=hr.mono (show 3<=5 by lia);refine⟨_,(aB (bY (aG Y26.G r3 rfl m26 F26.kp Y26.b .nil aK (aA (pv 1) (aA (cA (pv 0) NTx.cl X4 R58 r1 b58 .nil aK) aC))))
  (aB (aS (i:=2) Cp.nd rfl (Or.inr rfl) (pO rfl rfl n_list rfl n_range (aA (cA (pv 0) NTx.cl X4 R58 r1 b58 .nil aK) aC)))
  (aB (fC PassesOwn.never rfl (dG (aG Y39.G hr rfl m39 F39.kp bd39 X9 aK (aA (pv 0) aC))) (bH (i:=3) Cp.nd rfl (Or.inl rfl))
   (aB (aS (i:=4) Cp.nd rfl (Or.inr rfl) (fH (nl:=2) (fr:=[2]) (Nc:=["number","way","marks"]) (cl:=[("marks",s.heap.objs.size+2)]) (g:=(Ed Z.K 2 (jU (iX 0) (jU (iX 1) Gp)))) rfl ⟨rfl,rfl,by decide +kernel,by decide +kernel,(cY rfl (iS)),fG rfl,rfl,fun i n h=>match i,h with | 0,h=>by cases h;exact⟨2,rfl,rfl,rfl,rfl,.inl rfl⟩ | k+1,h=>by rw[show 2+(k+1)=k+3 by lia] at h;cases h⟩
    (dG (pv 3)) (fun _ _ _ _ _=>(kF rfl (dB (bH (i:=0) iP rfl (Or.inl rfl)) (dB (bH (i:=1) iP rfl (Or.inl rfl)) iT)))) (fun _ _ _ _ _=>fU)
    (fun _ _ _ _ _=>(aQ (jQ (K:=Z.K) rfl) (pv 2) (pv 0) (fun _ _=>rfl)))))
  (aF (aS (i:=2) Cp.nd rfl (Or.inr rfl) (fH (nl:=1) (fr:=[4]) (Nc:=["mark","met"]) (cl:=[("met",s.heap.objs.size+3)]) rfl ⟨rfl,rfl,by decide +kernel,by decide +kernel,(cY rfl (iS)),fG rfl,rfl,fun i n h=>match i,h with | 0,h=>by cases h;exact⟨4,rfl,rfl,rfl,rfl,.inl rfl⟩ | k+1,h=>by rw[show 1+(k+1)=k+2 by lia] at h;cases h⟩
    (dG (pv 2)) (fun _ _ _ _ _=>(bH (i:=0) Ca rfl (Or.inl rfl))) (fun _ _ _ _ _=>fU)
    (fun _ _ _ _ _=>(kZ (bC (Gq (K:=Z.K) rfl) (pv 0) (pv 1) rfl) (aQ (jQ (K:=Z.K) rfl) (pv 1) aE (fun _ _=>rfl)) (pv 0))))))))
  (aF (aW (fH (nl:=2) (fr:=[2,1]) (Nc:=["number","mark","marks","k"]) (cl:=[("marks",s.heap.objs.size+2),("k",s.heap.objs.size+1)]) (g:=(Ed Z.K 2 (jU (iX 0) (jU (iX 1) Gp)))) rfl ⟨rfl,rfl,by decide +kernel,by decide +kernel,(cY rfl (cY rfl (iS))),fG rfl,rfl,fun i n h=>match i,h with | 0,h=>by cases h;exact⟨2,rfl,rfl,rfl,rfl,.inl rfl⟩ | 1,h=>by cases h;exact⟨1,rfl,rfl,rfl,rfl,.inl rfl⟩ | k+2,h=>by rw[show 2+(k+2)=k+4 by lia] at h;cases h⟩
    (pI rfl n_enumerate rfl (aA (pv 2) aC)) (fun _ _ _ _ _=>(kF rfl (dB (bH (i:=0) gZ rfl (Or.inl rfl)) (dB (bH (i:=1) gZ rfl (Or.inl rfl)) iT)))) (fun _ _ _ _ _=>(pS (bC eV (pv 1) (aQ (jQ (K:=Z.K) rfl) (pv 2) (pv 3) (fun _ _=>rfl)) (bK _))))
    (fun _ _ _ _ _=>(pv 0)))))))),?_⟩
 have skn:=Ez ds;obtain⟨dn,hn⟩:=nt.ob;refine⟨_,rfl,_,rfl,n,dn,_,rfl,hn,dA _ _ (by decide +kernel) (by decide +kernel),n,l,_,ds,rfl,nt,?_⟩;refine⟨(k:Int),_,rfl,by lia,by lia,?_⟩;refine⟨_,rfl,n,dn,_,rfl,hn,dA _ _ (by decide +kernel) (by decide +kernel),n,l,_,ds,rfl,nt,?_⟩;refine⟨ds.length,rfl,by lia,fun M hM=>?_⟩;have s1:=aI hM (.lst ((List.range ds.length).map fun (i:Nat)=>V.int (i:Int)));have e1:upd H M (.lst ((List.range ds.length).map fun (i:Nat)=>V.int (i:Int))) M=some (.lst ((List.range ds.length).map fun (i:Nat)=>V.int (i:Int))):=aD;generalize upd H M (.lst ((List.range ds.length).map fun (i:Nat)=>V.int (i:Int)))=H1 at s1 e1 ⊢
 try dsimp only
 refine pX (fun σ' H'=>aZ H H'/\∃(M:Addr) (z3 z4:Option V),σ'=[some (.ref n),some (.int (k:Int)),some (.ref M),z3,z4]/\H' M=some (.lst ((Blk.bmk ds.length (Blk.rgs (skl ds))).map V.int))) (fun X hX=>?_) ?_
 ·refine⟨_,rfl,n,l,.non,m,ds,_,rfl,nt.same s1,pt,m20,h40,.non,fun r us H2 s2 nr er hG _=>?_⟩;refine⟨r,rfl,⟨_,SqL.of er⟩,?_⟩;have lX:us.length=(Blk.rgs (skl ds)).length:=by rw[hG.l];unfold Blk.rgs;rw[length_map,length_map,skn];rfl
  refine gH (xs:=us) (fun i σ H'=>aZ H2 H'/\∃(M:Addr) (z3 z4:Option V),σ=[some (.ref n),some (.int (k:Int)),some (.ref M),z3,z4]/\H' M=some (.lst ((Blk.bmk ds.length ((Blk.rgs (skl ds)).take i)).map V.int))) ⟨aZ.refl _,M,none,none,rfl,by rw[take_zero,Po];exact s2 _ _ e1⟩ (fun i σ H' _ h=>SqL.of (h.1 _ _ er)) ?_ ?_
  rotate_left
  ·rintro σ H' ⟨s3,M',z3,z4,rfl,eM⟩;rw[lX,take_length] at eM;exact hX _ _ ⟨s1.trans (s2.trans s3),M',z3,z4,rfl,eM⟩
  rintro i x σ H3 hx ⟨s3,M',z3,z4,rfl,eM⟩;have hi:i < us.length:=(List.getElem?_eq_some_iff.mp hx).1;have lX0:=hG.l;obtain⟨st,hst⟩:∃st,((dE Blk.joinsW (skl ds) (skl ds).length).2.map (·.2))[i]?=some st:=⟨_,getElem?_eq_getElem (by unfold Blk.rgs at lX;rw[length_map] at lX ⊢;lia)⟩
  obtain⟨rg,rlt,rne,rle⟩:=Zz (Wu pt) hst;obtain⟨a,ws,rfl,na,ea,sw⟩:=hG.r i x st hx (by rw[skn] at hst;exact hst);have sw3:=sw.same s3;have ea3:=s3 _ _ ea;have lms:=Blk.bmk_len ds.length ((Blk.rgs (skl ds)).take i);rw[Mo rg];rw[skn] at rlt;generalize Blk.bmk ds.length ((Blk.rgs (skl ds)).take i)=ms at eM lms;have lsw:=sw3.length;refine⟨_,rfl,a,rfl,⟨_,SqL.of ea3⟩,fun D hD=>?_⟩;have sD:=aI hD (.lst []);refine fB (xs:=ws) (fun j zs H'=>aZ H3 H'/\H' D=some (.lst zs)/\zs=((st.take j).map fun s=>V.int (ms.getD s.1 0))) ⟨sD,aD,rfl⟩ (fun j zs H' h=>h.2.1) (fun j zs H' _ h=>SqL.of (h.1 _ _ ea3)) ?_ ?_
  ·rintro j zs x H4 hx' ⟨s4,e4,rfl⟩ C hC;obtain⟨tt,s',rfl,hs',hT⟩:=(sw3.same s4).get hx';have lt:s'.1 < ds.length:=rlt s'.1 (mem_map.mpr ⟨s',mem_of_getElem? hs',rfl⟩);refine⟨tt,_,rfl,hT,rfl,_,_,rfl,_,_,rfl,rfl,kO.1,kO.2,hJ ?_⟩;refine⟨_,rfl,_,rfl,M',_,_,_,rfl,rfl,SqL.of (s4 _ _ eM),bX (Qc (by lia)),e4,?_,hC _ _ ⟨s4.change hD,aD,?_⟩⟩
   ·refine bO ?_;rw[length_map,length_take];lia
   ·rw[take_add_one,hs',map_append];rfl
  rintro zs H4 ⟨s4,e4,rfl⟩;have emet:(st.take ws.length).map (fun s=>V.int (ms.getD s.1 0))=((st.map (·.1)).map fun i=>ms.getD i 0).map V.int:=by
   rw[lsw,take_length,map_map,map_map];rfl
  rw[emet] at e4;generalize hr2:st.map (·.1)=r2 at rg rlt e4;have r2ne:r2≠[]:=fun z=>rne (by rw[z] at hr2;exact map_eq_nil_iff.mp hr2);have eM4:=s4 _ _ eM;refine⟨_,rfl,M',rfl,⟨_,SqL.of eM4⟩,fun N hN=>?_⟩;have sN:=aI hN (.lst []);refine fB (xs:=ms.map V.int) (fun j zs H'=>aZ H4 H'/\H' N=some (.lst zs)/\zs=((Blk.mst ms r2).take j).map V.int) ⟨sN,aD,rfl⟩ (fun j zs H' h=>h.2.1) (fun j zs H' _ h=>SqL.of (h.1 _ _ eM4)) ?_ ?_
  ·rintro j zs x H5 hx' ⟨s5,e5,rfl⟩ C hC;rw[getElem?_map] at hx';obtain⟨c,hc,rfl⟩:=Option.map_eq_some_iff.mp hx';have hj:j < ms.length:=(List.getElem?_eq_some_iff.mp hc).1;have e45:=s5 _ _ e4;have tk:=Tj (r:=r2) hc;have ll:(((Blk.mst ms r2).take j).map V.int).length<=1000:=by rw[length_map,length_take];lia
   refine⟨gF.1,gF.2,hJ ?_⟩;refine⟨_,rfl,_,rfl,D,_,rfl,.inl (SqL.of e45),rfl,wM _,_,rfl,?_⟩;rw[uG]
   by_cases cm:c∈r2.map (fun i=>ms.getD i 0)
   ·refine L2.ifT (decide_eq_true cm) ?_;rw[if_pos cm] at tk;have h0:atI ((r2.map fun i=>ms.getD i 0).map V.int) 0=some (.int ((r2.map fun i=>ms.getD i 0).headD 0)):=by
     cases r2 with
     |nil=>exact absurd rfl r2ne
     |cons y ys=>exact bX (j:=0) rfl
    refine⟨_,rfl,D,_,_,_,rfl,rfl,SqL.of e45,h0,e5,bO ll,hC _ _ ⟨s5.change hN,aD,?_⟩⟩;rw[take_add_one,tk,map_append];rfl
   ·refine L2.ifF (decide_eq_false cm) ?_;rw[if_neg cm] at tk;refine⟨_,rfl,e5,bO ll,hC _ _ ⟨s5.change hN,aD,?_⟩⟩;rw[take_add_one,tk,map_append];rfl
  rintro zs H5 ⟨s5,e5,rfl⟩;rw[length_map,<- Blk.mst_len ms r2,take_length] at e5;exact⟨s3.trans (s4.trans s5),N,_,_,rfl,e5⟩
 rintro σ9 H9 ⟨s9,M',z3,z4,rfl,eM⟩;have lms:=Blk.bmk_len ds.length (Blk.rgs (skl ds));have mke:∀j,(Blk.bmk ds.length (Blk.rgs (skl ds))).getD j 0=Blk.mkb (skl ds) j:=fun j=>by unfold Blk.mkb;rw[skn]
 refine⟨_,rfl,M',rfl,⟨_,SqL.of eM⟩,fun D hD=>?_⟩;have sD:=aI hD (.lst []);refine qO (xs:=(Blk.bmk ds.length (Blk.rgs (skl ds))).map V.int) (fun i zs H'=>aZ H9 H'/\H' D=some (.lst zs)/\zs=(((List.range i).filter fun j=>decide (Blk.mkb (skl ds) j=Blk.mkb (skl ds) k)).map fun (p:Nat)=>V.int (p:Int))) ⟨sD,aD,rfl⟩ (fun i zs H' h=>h.2.1) (fun i zs H' _ h=>SqL.of (h.1 _ _ eM)) ?_ ?_
 ·rintro i zs x H2 T2 hx ⟨s2,e2,rfl⟩ hT C hC;rw[getElem?_map] at hx;obtain⟨c,hc,rfl⟩:=Option.map_eq_some_iff.mp hx;have hi:i < ds.length:=by have:=(List.getElem?_eq_some_iff.mp hc).1;lia
  have ec:c=Blk.mkb (skl ds) i:=by rw[<- mke,getD_eq_getElem?_getD,hc];rfl
  have gk:atI ((Blk.bmk ds.length (Blk.rgs (skl ds))).map V.int) (k:Int)=some (.int (Blk.mkb (skl ds) k)):=by rw[<- mke];exact bX (Qc (by lia))
  have ll:(((List.range i).filter fun j=>decide (Blk.mkb (skl ds) j=Blk.mkb (skl ds) k)).map fun (p:Nat)=>V.int (p:Int)).length<=40:=by
   rw[length_map];have:=length_filter_le (fun j=>decide (Blk.mkb (skl ds) j=Blk.mkb (skl ds) k)) (List.range i);rw[length_range] at this;lia
  have sT:=aI hT (.tup [.int (i:Int),.int c]);refine⟨T2,_,rfl,SqT.of aD,rfl,_,_,rfl,_,_,rfl,rfl,kO.1,kO.2,?_⟩;generalize upd H2 T2 (.tup [.int (i:Int),.int c])=H3 at sT ⊢;have s3:=s2.trans sT;have e3:=sT _ _ e2;subst ec;refine⟨_,rfl,_,rfl,_,rfl,M',_,_,_,rfl,rfl,SqL.of (s3 _ _ eM),gk,rfl,_,rfl,?_⟩
  by_cases h:Blk.mkb (skl ds) i=Blk.mkb (skl ds) k
  ·refine L2.ifT (by rw[h];simp) ⟨_,rfl,e3,bO (by lia),hC _ _ ⟨s3.change hD,aD,?_⟩⟩;rw[range_succ,filter_append,filter_cons_of_pos (by simp[h]),map_append];rfl
  ·refine L2.ifF (by simp[h]) (hC _ _ ⟨s3,e3,?_⟩);rw[range_succ,filter_append,filter_cons_of_neg (by simp[h])];simp
 ·rintro zs H2 ⟨s2,e2,rfl⟩;rw[length_map,lms] at e2;exact q D H2 (s9.trans s2) (s9.free hD) e2
theorem Y69:DZ 3 Z.f69 Z.d69 ["matrix"] (tU Z.K) "beside_unit":=by
 refine⟨?_,F69.b1 _ (by intros;rfl),F69.kp,m69⟩
 refine F69.ok9 tY fun _ _ _ s H _ Q E hr h=>?_;obtain⟨g,rfl,hU,q⟩:=h;refine⟨_,(aB (aS (i:=1) tY.nd rfl (Or.inl rfl) (cZ aC))
  (aB (fC PassesOwn.never rfl (pI rfl n_enumerate rfl (aA (pv 0) aC)) (kF rfl (dB (bH (i:=2) tY.nd rfl (Or.inr rfl)) (dB (bH (i:=3) tY.nd rfl (Or.inl rfl)) iT)))
   (aB (aS (i:=4) tY.nd rfl (Or.inr rfl) (d9 Y46 hr rfl (aA (pv 3) aC)))
  (aF (bY (nT PySem.F.plainAttrs_list PySem.F.slot_list_append PySem.F.type_list_append fP (pv 1) (aA (aX qX (aQ aT (pv 4) aE (fun _ _=>rfl)) (fH (nl:=1) (fr:=[4,2]) (Nc:=["column","whole","place"]) (cl:=[("whole",s.heap.objs.size+2),("place",s.heap.objs.size+1)]) rfl ⟨rfl,rfl,by decide +kernel,by decide +kernel,(cY rfl (cY rfl (iS))),fG rfl,rfl,fun i n h=>match i,h with | 0,h=>by cases h;exact⟨4,rfl,rfl,rfl,rfl,.inl rfl⟩ | 1,h=>by cases h;exact⟨2,rfl,rfl,rfl,rfl,.inl rfl⟩ | k+2,h=>by rw[show 1+(k+2)=k+3 by lia] at h;cases h⟩
    (gU rfl n_range (aA (bZ bL rfl n_len PySem.boot_len (aA (pv 0) aC)) aC)) (fun _ _ _ _ _=>(bH (i:=0) kR rfl (Or.inl rfl))) (fun _ _ _ _ _=>fU)
    (fun _ _ _ _ _=>(kZ (bC eV (pv 0) (pv 2) (bK _)) (aQ (pE (K:=Z.K) rfl) (pv 1) aE (fun _ _=>rfl)) aE)))) aC))))))
  (aF (aW (pv 1))))),?_⟩
 refine⟨zl9 0,fun l0 hl0=>?_⟩;have s0:=aI hl0 (.lst []);have e0:upd H l0 (.lst []) l0=some (.lst []):=aD;generalize upd H l0 (.lst [])=H0 at s0 e0 ⊢;refine⟨_,rfl,g,rfl,⟨_,s0.seq hU⟩,?_⟩;refine Bm (xs:=[]) (fun i σ H'=>aZ H H'/\H' l0=some (.lst [])/\σ=[some (.ref g),some (.ref l0),none,none,none]) ⟨s0,e0,rfl⟩ (fun i σ H' _ h=>h.1.seq hU) ?_ ?_
 ·rintro i x σ H1 T1 hx _;simp at hx
 ·rintro σ H1 ⟨s1,e1,rfl⟩;exact⟨_,rfl,q l0 H1 s1 hl0 e1⟩
theorem Y70:DZ 3 Z.f70 Z.d70 ["tops","pivot"] qg8 "over_pivot":=⟨F70.ok qh1 (fun vs H Q E h=>h.elim) (fun cdv A outer s H vs Q E hr h=>h.elim),F70.b2 _ _ (by intros;rfl),F70.kp,m70⟩
theorem Y71:DZ 4 Z.f71 Z.d71 ["matrix"] (tU Z.K) "multiples":=by
 refine⟨?_,F71.b1 _ (by intros;rfl),F71.kp,m71⟩
 refine F71.ok9 Gc fun _ _ _ s H _ Q E hr h=>?_;obtain⟨g,rfl,hU,q⟩:=h;have r3:=hr;have hu:=xJ hr;refine⟨_,(aB (aS (i:=1) Gc.nd rfl (Or.inr rfl) (bZ bL rfl n_len PySem.boot_len (aA (pv 0) aC)))
  (aB (aS (i:=2) Gc.nd rfl (Or.inr rfl) (d9 Y50 r3 rfl (aA (d9 Y69 r3 rfl (aA (pv 0) aC)) (aA (pv 1) aC))))
  (aB (cG (bC tP (kG hu (pv 2) cF (fun _ _=>rfl)) (pv 1) (bK _)) (aF fK) bN)
  (aF (aW (fH (nl:=1) (fr:=[1,2]) (Nc:=["row","many","end"]) (cl:=[("many",s.heap.objs.size+1),("end",s.heap.objs.size+2)]) rfl ⟨rfl,rfl,by decide +kernel,by decide +kernel,(cY rfl (cY rfl (iS))),fG rfl,rfl,fun i n h=>match i,h with | 0,h=>by cases h;exact⟨1,rfl,rfl,rfl,rfl,.inl rfl⟩ | 1,h=>by cases h;exact⟨2,rfl,rfl,rfl,rfl,.inl rfl⟩ | k+2,h=>by rw[show 1+(k+2)=k+3 by lia] at h;cases h⟩
    (dG (kG hu (pv 2) cF (fun _ _=>rfl))) (fun _ _ _ _ _=>(bH (i:=0) kN rfl (Or.inl rfl))) (fun _ _ _ _ _=>fU)
    (fun _ _ _ _ _=>(d9 Y70 r3 rfl (aA (eO (Rl (K:=Z.K) rfl) (pv 0) (dY (pv 1)) iF) (aA (kG hu (pv 2) cF (fun _ _=>rfl)) aC)))))))))),?_⟩
 refine⟨_,rfl,g,[],rfl,.inl hU,?_⟩;refine⟨_,rfl,g,rfl,hU,fun r H1 s1 nr er=>?_⟩;refine⟨_,rfl,r,r,[],[],0,0,1,fun _=>True,rfl,SqL.of er,.nil,rfl,fun i hi=>absurd hi (by lia),by lia,by lia,fun i x=>by show (ent [] i x).natAbs < 2 ^ 1;unfold ent;simp,by lia,by decide,by lia,trivial,⟨fun _ _ _ _ _ _ _ _ _ _=>trivial,fun _ _ _ _ _ _ _ _ _ _=>trivial⟩,fun d lE zE R' rank pivot sign H2 s2 nd nlE ed el IE SE bE bp _=>?_⟩;obtain⟨g1',g2',g3',g4'⟩:=uW ed;have s02:=s1.trans s2;have lzE:=IE.length;rw[SE.len] at lzE;obtain rfl:zE=[]:=eq_nil_of_length_eq_zero lzE;refine⟨_,rfl,d,_,rfl,g2',_,rfl,_,_,rfl,rfl,_,rfl,qM (fun e=>absurd e (by simp)) (fun e=>?_)⟩;refine⟨_,rfl,d,_,rfl,g1',lE,rfl,⟨_,SqL.of el⟩,fun D2 hD2=>?_⟩;have sD2:=aI hD2 (.lst []);refine fB (xs:=[]) (fun i ws H'=>aZ H2 H'/\H' D2=some (.lst ws)/\ws=[]) ⟨sD2,aD,rfl⟩ (fun i ws H' h=>h.2.1) (fun i ws H' _ h=>h.1.seq (SqL.of el)) ?_ ?_
 ·rintro i ws x H3 hx _;simp at hx
 ·rintro ws H3 ⟨s3,e3,rfl⟩;exact q D2 H3 (s02.trans s3) (s02.free hD2) e3
theorem R72:FZ CX0 5 Z.f72 Z.d72 ["self"] (Ei Z.c_Answer):=by
 refine F72.ok9 qa7 fun _ _ _ s H _ Q E hr h=>?_;obtain⟨a,rfl,⟨dx,li,le,fo,ha,hl⟩,q⟩:=h;refine⟨_,(aF (aW (d9 Y71 hr rfl (aA (bU (pv 0) rfl) aC)))),?_⟩;exact⟨_,rfl,a,Z.c_Answer,dx,_,_,rfl,ha,ABx.cl,ABx.nI,Ti _ _ _,li,rfl,SqL.of hl,q⟩
theorem X10:eI Z.K Z.c_Answer "paper" Z.f72:=⟨a72_0,i72,F72.kp⟩
theorem R73:FZ CX0 6 Z.f73 Z.d73 ["self"] (El Z.c_Answer Z.c_Watch):=by
 refine F73.ok9 qd9 fun _ _ _ s H _ Q E hr h=>?_;obtain⟨w,rfl,⟨dx,a,n,hw,LE⟩,q⟩:=h;refine⟨_,(aF (aW (cA (bU (pv 0) rfl) ABx.cl X10 R72 hr b72 .nil aK))),?_⟩;have LE1:=LE;obtain⟨dxa,li,le,fo,ha,hl⟩:=LE;exact⟨_,rfl,w,Z.c_Watch,_,_,_,rfl,hw,WBx.cl,WBx.nC,tG _ _,a,dxa,_,rfl,ha,oP _ _ _ (by decide +kernel) (by decide +kernel) (by decide +kernel),a,rfl,LE1,q⟩
theorem Y74:DZ 1 Z.f74 Z.d74 ["_law_script","_law_k"] (Ar Z.K) "_law_draw":=by
 refine⟨?_,F74.b2 _ _ (by intros;rfl),F74.kp,m74⟩
 refine F74.ok9 Pj fun _ _ _ s H _ Q E hr h=>?_;obtain⟨a,ns,j,k,rfl,hj,hS,h63,q⟩:=h;have hu:=hr.units;refine⟨_,(aB (aS (i:=2) Pj.nd rfl (Or.inl rfl) (eO gK (pv 0) (dY (pv 1)) (dY (aX dU (pv 1) aE))))
  (aB (cG (bC (vD hu) (pv 2) (cZ aC) (bK _)) (aF (aW aE)) bN)
  (aF (aW (aQ bG (pv 2) aE (fun _ _=>rfl)))))),?_⟩
 refine⟨_,rfl,_,rfl,j,rfl,_,rfl,_,_,rfl,rfl,j+1,rfl,a,_,rfl,hS,fun l hl=>?_⟩;have s1:=aI hl (.lst (iR (ns.map V.int) (some j) (some (j+1))));have e1:upd H l (.lst (iR (ns.map V.int) (some j) (some (j+1)))) l=some (.lst (iR (ns.map V.int) (some j) (some (j+1)))):=aD;obtain⟨ms,em,lm⟩:=Bc ns (some j) (some (j+1));rw[em] at e1 s1 ⊢;generalize upd H l (.lst (ms.map V.int))=H1 at e1 s1 ⊢;refine⟨_,rfl,zl9 0,fun e he=>?_⟩;have s2:=aI he (.lst []);refine Bz (s2.seq (SqL.of e1)) (SqL.of aD) ⟨_,rfl,?_⟩;rcases ms with _ | ⟨m,ms⟩
 ·exact hJ (q 0 _ (s1.trans s2))
 ·refine gL ⟨_,rfl,l,_,_,_,rfl,rfl,s2.seq (SqL.of e1),bX (j:=0) rfl,q m _ (s1.trans s2)⟩
theorem Y75:DZ 1 Z.f75 Z.d75 ["_law_cell","_law_turn","_law_many"] uV "_law_mix":=by
 refine⟨?_,F75.b3 _ _ _ (by intros;rfl),F75.kp,m75⟩
 refine F75.ok9 vC fun _ _ _ s H _ Q E hr h=>?_;obtain⟨c,t,m,rfl,h0,h9,hm,q⟩:=h;rw[qf5];obtain⟨q1,q2,q3,q4,q5,l1,e1,eo1⟩:=Yi;obtain⟨r1,r2,r3,r4,r5,l2,e2,eo2⟩:=qc3;rw[e1,e2];refine⟨_,(aB (cG (bC eV (aX lF (pv 0) aE) aE (bK _)) (aB (aS (i:=3) vC.nd rfl (Or.inl rfl) (aX pU (pv 0) aE))
  (aB (fC PassesOwn.never rfl (gU rfl n_range (aA (pv 1) aC)) (bH (i:=4) vC.nd rfl (Or.inl rfl))
   (aF (aS (i:=3) vC.nd rfl (Or.inl rfl) (aX pU (pv 3) (aX lU aE aE)))))
  (aF (aW (aX kH (pv 3) (pv 2)))))) bN)
  (aB (aS (i:=5) vC.nd rfl (Or.inl rfl) (aQ bG (cZ (yO _ l1)) (pv 1) (fun _ _=>rfl)))
  (aB (aS (i:=6) vC.nd rfl (Or.inl rfl) (aQ bG (cZ (yO _ l2)) (pv 1) (fun _ _=>rfl)))
  (aB (aS (i:=7) vC.nd rfl (Or.inl rfl) (aX lF (pv 0) aE))
  (aF (aW (aX kH (aX pU (aX kH (aX dU (aX dU (aX cI (aX wD aE (pv 7)) (pv 7)) (aX cI (pv 5) (pv 7))) (aX wD aE (aX dU (pv 1) aE))) (pv 6)) aE) (pv 2)))))))),?_⟩
 rw[eo1,eo2];have hf:∀u:Int,0<=u.fmod m/\u.fmod m < m:=fun u=>⟨Int.fmod_nonneg_of_pos u hm,Int.fmod_lt_of_pos u hm⟩
 have m0:m≠0:=by lia
 refine⟨_,rfl,_,_,rfl,rfl,(show (0:Int) < 2 by decide),rfl,_,rfl,qM (fun _=>?_) (fun _=>?_)⟩
 ·refine⟨_,rfl,_,_,rfl,rfl,⟨by decide,by decide⟩,?_⟩;refine⟨_,rfl,t,rfl,by lia,by lia,?_⟩;refine iD (n:=t.toNat) (fun i σ H'=>H'=H/\∃u z,σ=[some (.int c),some (.int t),some (.int m),some (.int u),z,none,none,none]) ⟨rfl,_,none,rfl⟩ ?_ ?_
  ·rintro i σ H' hi ⟨rfl,u,z,rfl⟩;exact⟨_,rfl,_,_,rfl,rfl,⟨by decide,by decide,by decide⟩,_,_,rfl,rfl,⟨by decide,by decide⟩,rfl,_,_,rfl⟩
  ·rintro σ H' ⟨rfl,u,z,rfl⟩;exact⟨_,rfl,_,rfl,_,_,rfl,rfl,m0,q _ _ (hf u).1 (hf u).2 (aZ.refl _)⟩
 ·refine⟨zl9 10,fun l1 hl1=>?_⟩;obtain⟨by_,eb,b1,b2⟩:=qe1 (a0:=48271) (a1:=69621) (a2:=16807) (a3:=40692) (a4:=39373) (a5:=30269) (a6:=27183) (a7:=60013) (a8:=51749) (a9:=35969) (by decide) (by decide) h0 h9;have s1:=aI hl1 (.lst (l48.map V.int));have g1:upd H l1 (.lst (l48.map V.int)) l1=some (.lst (l48.map V.int)):=aD;generalize upd H l1 (.lst (l48.map V.int))=H1 at s1 g1 ⊢;refine⟨_,rfl,l1,_,_,_,rfl,rfl,SqL.of g1,eb,?_⟩;refine⟨zl9 10,fun l2 hl2=>?_⟩;obtain⟨pr,ep,p1,p2⟩:=qe1 (a0:=999983) (a1:=999979) (a2:=999961) (a3:=999959) (a4:=999953) (a5:=999931) (a6:=999917) (a7:=999907) (a8:=999883) (a9:=999863) (by decide) (by decide) h0 h9;have s2:=aI hl2 (.lst (l99.map V.int));have g2:upd H1 l2 (.lst (l99.map V.int)) l2=some (.lst (l99.map V.int)):=aD;generalize upd H1 l2 (.lst (l99.map V.int))=H2 at s2 g2 ⊢;refine⟨_,rfl,l2,_,_,_,rfl,rfl,SqL.of g2,ep,?_⟩;refine⟨_,rfl,_,_,rfl,rfl,(show (0:Int) < 2147483647 by decide),?_⟩;have x1:=Int.emod_nonneg c (show (2147483647:Int)≠0 by decide);have x2:=Int.emod_lt_of_pos c (show (0:Int) < 2147483647 by decide);generalize c % 2147483647=x at x1 x2 ⊢;refine⟨_,rfl,_,_,rfl,rfl,Or.inl ⟨by decide,by decide⟩,_,rfl,cJ (n:=40) (m:=40) (tT (by lia) (by lia)) (tT (by lia) (by lia)) (by lia) (by lia) ?_⟩;refine⟨_,rfl,_,rfl,cJ (n:=40) (m:=40) (tT (by lia) (by lia)) (tT (by lia) (by lia)) (by lia) (by lia) ⟨_,_,rfl,rfl,?_⟩⟩;refine⟨_,rfl,_,_,rfl,rfl,_,_,rfl,rfl,Or.inl ⟨by decide,by decide⟩,_,_,rfl,rfl,_,rfl,_,_,rfl,rfl,by lia,_,_,rfl,rfl,⟨by decide,by decide⟩,_,rfl,_,_,rfl,rfl,m0,?_⟩;exact q _ _ (hf _).1 (hf _).2 (s1.trans s2)
theorem Y76:DZ 1 Z.f76 Z.d76 ["_law_cell","_law_turn"] Rn "_law_far":=by
 refine⟨?_,F76.b2 _ _ (by intros;rfl),F76.kp,m76⟩
 refine F76.ok9 Hm fun _ _ _ s H _ Q E hr h=>?_;obtain⟨c,t,rfl,h0,h9,q⟩:=h;refine⟨_,(aB (cG (bC eV (aX lF (pv 0) aE) aE (bK _)) (aB (aS (i:=2) Hm.nd rfl (Or.inl rfl) (aX pU (pv 0) aE))
  (aB (fC PassesOwn.never rfl (gU rfl n_range (aA aE aC)) (bH (i:=3) Hm.nd rfl (Or.inl rfl))
   (aF (aS (i:=2) Hm.nd rfl (Or.inl rfl) (aX pU (pv 2) (aX lU aE aE)))))
  (aF (aW (aX iN (aX lF (pv 2) (aX dU (aX wD aE (aX lU aE aE)) aE)) (aX lU aE aE)))))) bN)
  (aF (aW (aX iN (aX lF (aX cI (aX lF (pv 0) (aX lU aE aE)) (aX dU (aX wD aE (pv 1)) aE)) (aX dU (aX wD aE (aX lU aE aE)) aE)) (aX lU aE aE))))),?_⟩
 have fin:∀u:Int,Q (.int (u % (2*10 ^ (12:Int).toNat+1) - 10 ^ (12:Int).toNat)) H:=fun u=>by
  rw[p12];have x1:=Int.emod_nonneg u (show (2*1000000000000+1:Int)≠0 by decide);have x2:=Int.emod_lt_of_pos u (show (0:Int) < 2*1000000000000+1 by decide);exact q _ (by lia) (by lia)
 refine⟨_,rfl,_,_,rfl,rfl,(show (0:Int) < 2 by decide),rfl,_,rfl,qM (fun _=>?_) (fun _=>?_)⟩
 ·refine⟨_,rfl,_,_,rfl,rfl,⟨by decide,by decide⟩,?_⟩;refine⟨_,rfl,by lia,by lia,?_⟩;refine iD (n:=10) (fun i σ H'=>H'=H/\∃u z,σ=[some (.int c),some (.int t),some (.int u),z]) ⟨rfl,_,none,rfl⟩ ?_ ?_
  ·rintro i σ H' hi ⟨rfl,u,z,rfl⟩;exact⟨_,rfl,_,_,rfl,rfl,⟨by decide,by decide,by decide⟩,_,_,rfl,rfl,⟨by decide,by decide⟩,rfl,_,_,rfl⟩
  ·rintro σ H' ⟨rfl,u,z,rfl⟩;exact⟨_,rfl,_,_,rfl,rfl,⟨by decide,by decide,by decide⟩,_,_,rfl,rfl,Or.inl ⟨by decide,by decide⟩,_,_,rfl,rfl,_,_,rfl,rfl,(show (0:Int) < 2*10 ^ (12:Int).toNat+1 by decide),_,_,rfl,rfl,⟨by decide,by decide,by decide⟩,_,_,rfl,rfl,fin u⟩
 ·refine⟨_,rfl,_,_,rfl,rfl,⟨by decide,by decide,by decide⟩,_,_,rfl,rfl,(show (0:Int) < 10 ^ (12:Int).toNat by decide),?_⟩;have x1:=Int.emod_nonneg c (show (10 ^ (12:Int).toNat:Int)≠0 by decide);have x2:=Int.emod_lt_of_pos c (show (0:Int) < 10 ^ (12:Int).toNat by decide);rw[p12] at x1 x2;refine⟨_,rfl,_,_,rfl,rfl,Or.inl ⟨by decide,by decide⟩,_,_,rfl,rfl,cJ (n:=40) (m:=40) (tT (by rw[p12];lia) (by rw[p12];lia)) (tT (by lia) (by lia)) (by lia) (by lia) ?_⟩;exact⟨_,_,rfl,rfl,⟨by decide,by decide,by decide⟩,_,_,rfl,rfl,Or.inl ⟨by decide,by decide⟩,_,_,rfl,rfl,_,_,rfl,rfl,(show (0:Int) < 2*10 ^ (12:Int).toNat+1 by decide),_,_,rfl,rfl,⟨by decide,by decide,by decide⟩,_,_,rfl,rfl,fin _⟩
theorem Y77:DZ 1 Z.f77 Z.d77 ["_law_top","_law_bottom"] gP "_law_lowest":=by
 refine⟨?_,F77.b2 _ _ (by intros;rfl),F77.kp,m77⟩
 refine F77.ok9 oM fun _ _ _ s H _ Q E hr h=>?_;obtain⟨t,b',n,rfl,hb,hB,hn,q⟩:=h;refine⟨_,(aB (Mp (i:=2) (j:=3) rfl oM.nd rfl rfl (by decide) rfl rfl (aA (bZ oX rfl bl.abs PyProof.Rows.boot_abs (aA (pv 0) aC)) (aA (bZ oX rfl bl.abs PyProof.Rows.boot_abs (aA (pv 1) aC)) aC)) rfl)
  (aB (vG PassesOwn.never (bC pY (pv 3) aE (bK _)) (aF (Mp (i:=2) (j:=3) rfl oM.nd rfl rfl (by decide) rfl rfl (aA (pv 3) (aA (aX kH (pv 2) (pv 3)) aC)) rfl)))
  (aB (cG (bC tP (pv 1) aE (bK _)) (aF (aS (i:=2) oM.nd rfl (Or.inl rfl) (aX iN aE (pv 2)))) bN)
  (aF (aW (dS (aA (aX jE (pv 0) (pv 2)) (aA (aX jE (pv 1) (pv 2)) aC)))))))),?_⟩
 refine⟨_,rfl,_,rfl,_,rfl,_,rfl,_,_,rfl,?_⟩;have g0:=Mq.Zt t b';have n0:0<=(if t < 0 then -t else t):=by split<;>lia
 have n1:0<=(if b' < 0 then -b' else b'):=by split<;>lia
 generalize (if t < 0 then -t else t)=x' at *
 generalize (if b' < 0 then -b' else b')=y' at *
 have hd:=qY (t:=t) hb;have hdB:Mq.B n (dvr t b'):=hB.le (Es hb);refine vF (fun σ H'=>H'=H/\∃u v,σ=[some (.int t),some (.int b'),some (.int u),some (.int v)]/\gc u v=gc t b'/\0<=u/\0<=v) (fun σ _=>match σ with | [_,_,_,some (.int v)]=>v.natAbs | _=>0) ⟨rfl,x',y',rfl,g0,n0,n1⟩ ?_ ?_
 ·rintro σ H' ⟨rfl,u,v,rfl,e,hu,hv0⟩;refine⟨_,rfl,rfl,_,rfl,?_⟩;refine qM (fun c=>?_) (fun c=>?_)
  ·have hv:v≠0:=by intro q;subst q;simp at c
   refine⟨_,rfl,_,rfl,_,rfl,_,_,rfl,rfl,hv,_,_,rfl,⟨rfl,v,Int.fmod u v,rfl,(Jq u v).trans e,hv0,Int.fmod_nonneg_of_pos u (by lia)⟩,Mq.wT hv⟩
  ·have hv:v=0:=by
    simp at c;exact c
   subst hv;have eu:u=gc t b':=by rw[<- e,Jc,if_neg (by lia)]
   subst eu;refine⟨_,rfl,_,_,rfl,rfl,_,rfl,qM (fun c=>?_) (fun c=>?_)⟩
   ·have hlt:b' < 0:=of_decide_eq_true c;have e:dvr t b'=0 - gc t b':=by unfold dvr;rw[if_pos hlt];lia
    rw[e] at hd hdB;have q':mD H' Q (t.fdiv (0 - gc t b'),b'.fdiv (0 - gc t b')):=by
     have z:=q;unfold red at z;rw[e] at z;exact z
    refine⟨_,rfl,_,_,rfl,rfl,?_⟩;refine⟨_,rfl,_,rfl,gB hd hdB hn ⟨_,rfl,_,rfl,gB hd hdB hn ⟨zl9 2,fun p hp=>?_⟩⟩⟩;exact q' p _ (aI hp _) aD
   ·have hlt:¬b' < 0:=fun z=>c (decide_eq_true z);have e:dvr t b'=gc t b':=by unfold dvr;rw[if_neg hlt]
    rw[e] at hd hdB;have q':mD H' Q (t.fdiv (gc t b'),b'.fdiv (gc t b')):=by
     have z:=q;unfold red at z;rw[e] at z;exact z
    refine⟨_,rfl,_,rfl,gB hd hdB hn ⟨_,rfl,_,rfl,gB hd hdB hn ⟨zl9 2,fun p hp=>?_⟩⟩⟩;exact q' p _ (aI hp _) aD
 ·rintro σ H Q Q' m ⟨v,h1,h2,k,h3,h4⟩;exact⟨v,h1,h2,k,h3,m _ _ h4⟩
theorem Y78:DZ 2 Z.f78 Z.d78 ["_law_one","_law_other"] (gS Z.K Mq.iZ) "_law_plus":=by
 refine⟨?_,F78.b2 _ _ (by intros;rfl),F78.kp,m78⟩
 refine F78.ok9 Uz fun _ _ _ s H _ Q E hr h=>?_;obtain⟨a,b,p,q,n,m,rfl,fa,fb,hp,hq,bp,bq,hnm,z⟩:=h;refine⟨_,(aF (aW (d9 Y77 hr rfl (aA (aX dU (aX cI (aQ aT (pv 0) aE (fun _ _=>rfl)) (aQ aT (pv 1) aE (fun _ _=>rfl))) (aX cI (aQ aT (pv 1) aE (fun _ _=>rfl)) (aQ aT (pv 0) aE (fun _ _=>rfl)))) (aA (aX cI (aQ aT (pv 0) aE (fun _ _=>rfl)) (aQ aT (pv 1) aE (fun _ _=>rfl))) aC))))),?_⟩;refine dQ rfl fa (cK rfl fb (cJ bp.a bq.b (by lia) (by lia) ?_));refine dQ rfl fb (cK rfl fa (cJ bq.a bp.b (by lia) (by lia) ⟨_,_,rfl,rfl,?_⟩));refine cK rfl fa (cK rfl fb (cJ bp.b bq.b (by lia) (by lia) ?_));exact⟨_,_,n+m,rfl,gQ hp hq,bp.b.mul bq.b,by lia,z⟩
theorem Y79:DZ 2 Z.f79 Z.d79 ["_law_one","_law_other"] (gS Z.K Mq.minus) "_law_less":=by
 refine⟨?_,F79.b2 _ _ (by intros;rfl),F79.kp,m79⟩
 refine F79.ok9 Wg fun _ _ _ s H _ Q E hr h=>?_;obtain⟨a,b,p,q,n,m,rfl,fa,fb,hp,hq,bp,bq,hnm,z⟩:=h;refine⟨_,(aF (aW (d9 Y77 hr rfl (aA (aX iN (aX cI (aQ aT (pv 0) aE (fun _ _=>rfl)) (aQ aT (pv 1) aE (fun _ _=>rfl))) (aX cI (aQ aT (pv 1) aE (fun _ _=>rfl)) (aQ aT (pv 0) aE (fun _ _=>rfl)))) (aA (aX cI (aQ aT (pv 0) aE (fun _ _=>rfl)) (aQ aT (pv 1) aE (fun _ _=>rfl))) aC))))),?_⟩;refine dQ rfl fa (cK rfl fb (cJ bp.a bq.b (by lia) (by lia) ?_));refine dQ rfl fb (cK rfl fa (cJ bq.a bp.b (by lia) (by lia) ⟨_,_,rfl,rfl,?_⟩));refine cK rfl fa (cK rfl fb (cJ bp.b bq.b (by lia) (by lia) ?_));exact⟨_,_,n+m,rfl,gQ hp hq,bp.b.mul bq.b,by lia,z⟩
theorem Y80:DZ 2 Z.f80 Z.d80 ["_law_one","_law_other"] (gS Z.K Mq.gC) "_law_times":=by
 refine⟨?_,F80.b2 _ _ (by intros;rfl),F80.kp,m80⟩
 refine F80.ok9 Ql fun _ _ _ s H _ Q E hr h=>?_;obtain⟨a,b,p,q,n,m,rfl,fa,fb,hp,hq,bp,bq,hnm,z⟩:=h;refine⟨_,(aF (aW (d9 Y77 hr rfl (aA (aX cI (aQ aT (pv 0) aE (fun _ _=>rfl)) (aQ aT (pv 1) aE (fun _ _=>rfl))) (aA (aX cI (aQ aT (pv 0) aE (fun _ _=>rfl)) (aQ aT (pv 1) aE (fun _ _=>rfl))) aC))))),?_⟩;refine dQ rfl fa (dQ rfl fb (cJ bp.a bq.a (by lia) (by lia) ?_));refine cK rfl fa (cK rfl fb (cJ bp.b bq.b (by lia) (by lia) ?_));exact⟨_,_,n+m,rfl,gQ hp hq,bp.b.mul bq.b,by lia,z⟩
theorem Y81:DZ 2 Z.f81 Z.d81 ["_law_one","_law_other"] (oB Z.K) "_law_by":=by
 refine⟨?_,F81.b2 _ _ (by intros;rfl),F81.kp,m81⟩
 refine F81.ok9 qg1 fun _ _ _ s H _ Q E hr h=>?_;obtain⟨a,b,p,q,n,m,rfl,fa,fb,hp,hq,h0,bp,bq,hnm,z⟩:=h;refine⟨_,(aF (aW (d9 Y77 hr rfl (aA (aX cI (aQ aT (pv 0) aE (fun _ _=>rfl)) (aQ aT (pv 1) aE (fun _ _=>rfl))) (aA (aX cI (aQ aT (pv 0) aE (fun _ _=>rfl)) (aQ aT (pv 1) aE (fun _ _=>rfl))) aC))))),?_⟩;refine dQ rfl fa (cK rfl fb (cJ bp.a bq.b (by lia) (by lia) ?_));refine cK rfl fa (dQ rfl fb (cJ bp.b bq.a (by lia) (by lia) ?_));exact⟨_,_,n+m,rfl,pK hp (by lia),bp.b.mul bq.a,by lia,z⟩
theorem Y82:DZ 1 Z.f82 Z.d82 ["_law_found","_law_due"] (Gf Z.K) "_law_told":=by
 refine⟨?_,F82.b2 _ _ (by intros;rfl),F82.kp,m82⟩
 refine F82.ok9 Ol fun cdv A outer s H vs Q E hr h=>?_;obtain⟨a,d,p,rfl,fa,fd',q⟩:=h;have hu:=hr.units;refine⟨_,(aB (cG (PW.pt (pJ (gX (fF (iQ (i:=0) rfl (Or.inl rfl) bl.isi n_tuple rfl rfl PyProof.Rows.boot_tuple))) (nY (bC pY (bZ bL rfl n_len PySem.boot_len (aA (pv 0) aC)) aE (bK _))))) (aF (aW jL)) bN)
  (aB (fC PassesOwn.never rfl (qd6 (pv 0)) (bH (i:=2) Ol.nd rfl (Or.inl rfl))
   (aF (cG (PW.pt (pJ (gX (fF (iQ (i:=2) rfl (Or.inl rfl) bl.isi bl.int rfl rfl PyProof.Rows.boot_int))) (nY (fF (iQ (i:=2) rfl (Or.inl rfl) bl.isi bl.bool rfl rfl PyProof.Rows.boot_bool))))) (aF (aW jL)) bN)))
  (aF (aW (jK (vD hu) (pv 0) (pv 1) (bK _)))))),?_⟩
 refine⟨_,_,true,rfl,.tup fa,rfl,_,rfl,gL ⟨_,rfl,a,_,rfl,.inr fa,rfl,_,rfl,gL ?_⟩⟩;refine⟨_,rfl,a,rfl,⟨_,fa⟩,?_⟩;refine Sw (xs:=[.int p.1,.int p.2]) (fun i σ H'=>H'=H/\∃z,σ=[some (.ref a),some (.ref d),z]) ⟨rfl,none,rfl⟩ (fun i σ H' _ h=>by rw[h.1];exact fa) ?_ ?_
 ·rintro i x σ H' hx ⟨rfl,z,rfl⟩;have hint:∃j,x=.int j:=by
   match i,hx with
   |0,h=>exact⟨p.1,by simpa using h.symm⟩
   |1,h=>exact⟨p.2,by simpa using h.symm⟩
   |n+2,h=>simp at h
  obtain⟨j,rfl⟩:=hint;refine⟨_,_,true,rfl,.of (.int j),rfl,_,rfl,gL ⟨_,_,false,rfl,.of (.int j),(by with_unfolding_all rfl),_,rfl,gL ⟨rfl,_,rfl⟩⟩⟩
 ·rintro σ H' ⟨rfl,z,rfl⟩;refine⟨_,rfl,_,rfl,yU fa fd' ?_⟩;show Q (.bl (decide (p=p))) H';rw[decide_eq_true rfl];exact q
theorem Y83:DZ 2 Z.f83 Z.d83 ["_law_cell"] Ey "_law_size":=by
 refine⟨?_,F83.b1 _ (by intros;rfl),F83.kp,m83⟩
 refine F83.ok9 qa9 fun cdv A outer s H vs Q E hr h=>?_;obtain⟨c,rfl,q⟩:=h;refine⟨_,(aF (aW (d9 Y77 hr rfl (aA (aX dU aE (d9 Y75 hr rfl (aA (pv 0) (aA aE (aA aE aC))))) (aA (aX dU aE (d9 Y75 hr rfl (aA (pv 0) (aA aE (aA aE aC))))) aC))))),?_⟩;refine⟨_,rfl,c,3,12,rfl,by decide,by decide,by decide,fun r H1 r1 r2 s1=>⟨_,_,rfl,rfl,?_⟩⟩;refine⟨_,rfl,c,4,6,rfl,by decide,by decide,by decide,fun b H3 b1 b2 s3=>⟨_,_,rfl,rfl,?_⟩⟩;have b0:1+b≠0:=by lia
 have le:=mF (t:=1+r) b0;have bT:Mq.B 4 (1+r):=tT (by lia) (by lia);have bB:Mq.B 4 (1+b):=tT (by lia) (by lia);exact⟨1+r,1+b,4,rfl,b0,bB,by lia,mD.same (s1.trans s3) (q _ ⟨iE b0,Im (by lia) (by lia),⟨bT.le le.1,bB.le le.2⟩⟩)⟩
theorem X11:eI Z.K Z.c_Net "add" Z.f30:=⟨a30_0,i30,F30.kp⟩
theorem Y84:DZ 6 Z.f84 Z.d84 ["_law_many","_law_rows"] (zV Z.c_Net Z.K) "_law_net":=by
 refine⟨?_,F84.b2 _ _ (by intros;rfl),F84.kp,m84⟩
 refine F84.ok9 Ab fun _ _ _ s H _ Q E hr h=>?_;obtain⟨m,r,us,ds,rfl,hm1,hm20,hU,hR,hK,h40,q⟩:=h;have r3:=hr.mono (show 3<=5 by lia);refine⟨_,(aB (aS (i:=2) Ab.nd rfl (Or.inl rfl) (iV MN R27 r3 rfl NTx.mN b27 .nil aK (aA (pv 0) aC)))
  (aB (fC PassesOwn.never rfl (dG (pv 1)) (bH (i:=3) Ab.nd rfl (Or.inl rfl))
   (aF (bY (Ae (pv 2) NTx.cl X11 R30 hr b30 .nil aK (aA (d9 Y18 r3 rfl (aA (pv 3) aC)) aC)))))
  (aF (aW (pv 2))))),?_⟩
 have lus:=hR.length;refine⟨_,rfl,fun n dx h1 h2 ne=>⟨n,dx,m,rfl,aD,hm1,hm20,fun l H2 nl keep hn hl=>⟨rfl,?_⟩⟩⟩;have s2:aZ H H2:=fun b o e=>keep b o (by rw[aY (aU e h1),aY (aU e h2)];exact e) (aU e h1);have hl0:H l=none:=by
  cases o:H l with
  |none=>rfl
  |some o'=>
   have:(upd (upd H dx (.own n)) n (.ins Z.c_Net dx [])) l=some o':=by rw[aY (aU o h1),aY (aU o h2)];exact o
   rw[this] at nl;cases nl
 refine⟨_,rfl,r,rfl,⟨_,s2.seq hU⟩,?_⟩;refine gH (xs:=us) (fun i σ H'=>aZ H H'/\dF Z.c_Net Z.K H' n l m (ds.take i)/\∃z,σ=[some (.int m),some (.ref r),some (.ref n),z]) ⟨s2,⟨⟨dx,hn⟩,[],hl,.nil⟩,none,rfl⟩ (fun i σ H' _ h=>h.1.seq hU) ?_ ?_
 ·rintro i x σ H3 hx ⟨s3,N3,z,rfl⟩;have hi:i < ds.length:=by
   have:=(List.getElem?_eq_some_iff.mp hx).1;lia
  obtain⟨⟨k,u,v,p⟩,hd⟩:∃d,ds[i]?=some d:=⟨_,getElem?_eq_getElem hi⟩
  obtain⟨t,z',et,hT,fz⟩:=hR.at hd;have ex:x=.ref t:=by rw[et] at hx;exact(Option.some.inj hx).symm
  subst ex;obtain⟨dn,hn3⟩:=N3.ob;have lt:(ds.take i).length<=ds.length:=by rw[length_take];lia
  refine⟨_,rfl,n,dn,_,rfl,hn3,dA _ _ (by decide +kernel) (by decide +kernel),_,rfl,t,_,_,_,_,rfl,s3.seqT hT,k,rfl,fun y H4 s4 ny rw=>?_⟩;refine⟨n,l,y,z',m,ds.take i,k,u,v,p,rfl,N3.same s4,rw,(s3.trans s4).fq fz,hK _ (mem_of_getElem? hd),by rw[length_take];lia,fun H5 x5 N5=>?_⟩;refine⟨fun b o e=>x5 _ _ ((s3.trans s4) _ _ e) (aU e hl0),?_,_,rfl⟩;rw[take_add_one,hd];exact N5
 ·rintro σ H3 ⟨s3,N3,z,rfl⟩;rw[lus,take_length] at N3;exact⟨_,rfl,q n l H3 s3 hl0 N3⟩
theorem Y85:DZ 3 Z.f85 Z.d85 ["_law_rows","_law_cell","_law_word","_law_ends"] (Su Z.K) "_law_put":=by
 refine⟨?_,F85.b4 _ _ _ _ (by intros;rfl),F85.kp,m85⟩
 refine F85.ok9 Jw fun _ _ _ s H _ Q E hr h=>?_;obtain⟨r,e,c,k,us,ds,i,j,rfl,er,hR,h60,he,q⟩:=h;have r1:=hr.mono (show 1<=2 by lia);refine⟨_,(aB (aS (i:=4) Jw.nd rfl (Or.inl rfl) (d9 Y83 hr rfl (aA (pv 1) aC)))
  (aB (cG (bC pY (pv 2) cF (bK _)) (aF (aS (i:=4) Jw.nd rfl (Or.inl rfl) (d9 Y77 r1 rfl (aA (aX iN (d9 Y75 r1 rfl (aA (pv 1) (aA aE (aA aE aC)))) aE) (aA (aX dU aE (d9 Y75 r1 rfl (aA (pv 1) (aA aE (aA aE aC))))) aC))))) bN)
  (aB (cG (bC eV (d9 Y75 r1 rfl (aA (pv 1) (aA aE (aA aE aC)))) aE (bK _)) (aF (aS (i:=3) Jw.nd rfl (Or.inl rfl) (dS (aA (aQ aT (pv 3) aE (fun _ _=>rfl)) (aA (aQ aT (pv 3) aE (fun _ _=>rfl)) aC))))) bN)
  (aF (bY (nT PySem.F.plainAttrs_list PySem.F.slot_list_insert PySem.F.type_list_insert Lo (pv 0) (aA (d9 Y75 r1 rfl (aA (pv 1) (aA aE (aA (aX dU (bZ bL rfl n_len PySem.boot_len (aA (pv 0) aC)) aE) aC)))) (aA (dS (aA (pv 2) (aA (aQ aT (pv 3) aE (fun _ _=>rfl)) (aA (aQ aT (pv 3) aE (fun _ _=>rfl)) (aA (pv 4) aC))))) aC)))))))),?_⟩
 have lu:=hR.length
 try dsimp only
 refine Xy (fun σ' H'=>aZ H H'/\∃(z:Addr) (p:Q2),σ'=[some (.ref r),some (.int c),some (.str k.wd),some (.ref e),some (.ref z)]/\Fq Z.K H' z p/\Low p/\Bd 7 p/\(k=.pc->0 < p.1/\Bd 4 p)) (fun X hX=>?_) ?_
 ·refine⟨_,rfl,c,rfl,fun p hp z H1 s1 e1=>?_⟩
  by_cases hk:k=.pc
  ·refine⟨_,rfl,rfl,_,rfl,L2.ifF (by show (!decide (V.str k.wd=V.str "piece"))=false;rw[Jr,decide_eq_true hk];rfl) ?_⟩;exact hX _ _ ⟨s1,z,p,rfl,Fq.of e1,hp.1,hp.2.2.mono (by lia),fun _=>⟨hp.2.1,hp.2.2⟩⟩
  ·refine⟨_,rfl,rfl,_,rfl,L2.ifT (by show (!decide (V.str k.wd=V.str "piece"))=true;rw[Jr,decide_eq_false hk];rfl) ?_⟩;refine⟨_,rfl,c,5,121,rfl,by decide,by decide,by decide,fun a H2 a1 a2 s2=>⟨_,_,rfl,rfl,?_⟩⟩;refine⟨_,rfl,c,6,12,rfl,by decide,by decide,by decide,fun b H3 b1 b2 s3=>⟨_,_,rfl,rfl,?_⟩⟩;have b0:1+b≠0:=by lia
   have le:=mF (t:=a - 60) b0;have bT:Mq.B 7 (a - 60):=tT (by lia) (by lia);have bB:Mq.B 7 (1+b):=tT (by lia) (by lia);exact⟨a - 60,1+b,7,rfl,b0,bB,by lia,fun z2 H4 s4 e4=>hX _ _ ⟨s1.trans (s2.trans (s3.trans s4)),z2,_,rfl,Fq.of e4,iE b0,⟨bT.le le.1,bB.le le.2⟩,fun h=>absurd h hk⟩⟩
 rintro σ1 H1 ⟨s1,z,p,rfl,fz,lp,bp,hpc⟩
 try dsimp only
 refine pX (fun σ' H'=>aZ H1 H'/\∃(e':Addr) (i' j':Int),σ'=[some (.ref r),some (.int c),some (.str k.wd),some (.ref e'),some (.ref z)]/\SqT Z.K H' e' [.int i',.int j']/\((i'=i/\j'=j)\/(i'=j/\j'=i))) (fun X hX=>?_) ?_
 ·refine⟨_,rfl,c,2,2,rfl,by decide,by decide,by decide,fun a H2 a1 a2 s2=>⟨rfl,_,rfl,qM (fun _=>?_) (fun _=>?_)⟩⟩
  ·refine⟨_,rfl,e,_,_,_,rfl,rfl,(s1.trans s2).seqT he,rfl,_,rfl,e,_,_,_,rfl,rfl,(s1.trans s2).seqT he,rfl,zl9 2,fun e2 he2=>?_⟩;have s3:=aI he2 (.tup [.int j,.int i]);exact hX _ _ ⟨s2.trans s3,e2,j,i,rfl,SqT.of aD,.inr ⟨rfl,rfl⟩⟩
  ·exact hX _ _ ⟨s2,e,i,j,rfl,(s1.trans s2).seqT he,.inl ⟨rfl,rfl⟩⟩
 rintro σ2 H2 ⟨s2,e',i',j',rfl,he',hij⟩;have s02:=s1.trans s2;have er2:=s02 _ _ er;refine⟨_,rfl,.inl ⟨rfl,_,SqL.of er2⟩,_,rfl,_,rfl,r,us,rfl,.inl (SqL.of er2),_,_,rfl,rfl,c,8,(us.length:Int)+1,rfl,by decide,by decide,by lia,fun y' H3 y0 y1 s3=>?_⟩;obtain⟨y,rfl⟩:∃y:Nat,y'=(y:Int):=⟨y'.toNat,by lia⟩
 have he3:=s3.seqT he';refine⟨_,rfl,_,rfl,e',_,_,_,rfl,rfl,he3,rfl,_,rfl,e',_,_,_,rfl,rfl,he3,rfl,_,rfl,zl9 4,fun t4 ht4=>?_⟩;have s4:=aI ht4 (.tup [.str k.wd,.int i',.int j',.ref z]);have e4:upd H3 t4 (.tup [.str k.wd,.int i',.int j',.ref z]) t4=some (.tup [.str k.wd,.int i',.int j',.ref z]):=aD;generalize upd H3 t4 (.tup [.str k.wd,.int i',.int j',.ref z])=H4 at s4 e4 ⊢;have s04:=s02.trans (s3.trans s4);have er4:=s04 _ _ er;refine⟨r,us,y,_,.ref t4,rfl,rfl,rfl,by lia,er4,bO (by lia),?_⟩;refine q y t4 (k,i',j',p) H4 _ (by lia) s04 rfl hij lp bp hpc rfl ?_;exact Rts.upd er4 ((Rts.take y (hR.same s04)).app (.cons (SqT.of e4) ((s2.trans (s3.trans s4)).fq fz) (Rts.drop y (hR.same s04))))
theorem Y86:DZ 4 Z.f86 Z.d86 ["_law_script","_law_many","_law_most","_law_words"] (Ev Z.K) "_law_hanging":=by
 refine⟨?_,F86.b4 _ _ _ _ (by intros;rfl),F86.kp,m86⟩
 refine F86.ok9 lD fun cdv A outer s H vs Q E hr h=>?_;obtain⟨a,w,ns,m,ms,ks,rfl,hS,h63,hm1,hm20,hms,hW,hks1,hks,q⟩:=h;have r1:=hr.mono (show 1<=3 by lia);refine⟨_,(aB (aS (i:=4) lD.nd rfl (Or.inl rfl) (cZ aC))
  (aB (aS (i:=5) lD.nd rfl (Or.inl rfl) (d9 Y75 r1 rfl (aA (d9 Y74 r1 rfl (aA (pv 0) (aA aE aC))) (aA aE (aA (pv 1) aC)))))
  (aB (fC PassesOwn.never rfl (xM rfl n_range (aA aE (aA (pv 1) aC))) (bH (i:=6) lD.nd rfl (Or.inl rfl))
   (aB (aS (i:=7) lD.nd rfl (Or.inl rfl) (d9 Y74 r1 rfl (aA (pv 0) (aA (aX dU aE (pv 6)) aC))))
  (aB (aS (i:=8) lD.nd rfl (Or.inl rfl) (dS (aA (aX kH (aX dU (pv 6) (pv 5)) (pv 1)) (aA (aX kH (aX dU (d9 Y75 r1 rfl (aA (pv 7) (aA aE (aA (pv 6) aC)))) (pv 5)) (pv 1)) aC))))
  (aF (bY (d9 Y85 hr rfl (aA (pv 4) (aA (pv 7) (aA (aQ bG (pv 3) (d9 Y75 r1 rfl (aA (pv 7) (aA aE (aA (bZ bL rfl n_len PySem.boot_len (aA (pv 3) aC)) aC)))) (fun _ _=>rfl)) (aA (pv 8) aC))))))))))
  (aB (fC PassesOwn.never rfl (dG (eO gK (pv 0) (dY aE) (dY (aX dU aE (pv 2))))) (bH (i:=7) lD.nd rfl (Or.inl rfl))
   (aB (aS (i:=8) lD.nd rfl (Or.inl rfl) (dS (aA (d9 Y75 r1 rfl (aA (pv 7) (aA aE (aA (pv 1) aC)))) (aA (d9 Y75 r1 rfl (aA (pv 7) (aA aE (aA (pv 1) aC)))) aC))))
  (aF (bY (d9 Y85 hr rfl (aA (pv 4) (aA (pv 7) (aA (aQ bG (cZ (aA cF (aA cF (aA cF aC)))) (d9 Y75 r1 rfl (aA (pv 7) (aA aE (aA aE aC)))) (fun _ _=>rfl)) (aA (pv 8) aC)))))))))
  (aF (aW (pv 4))))))),?_⟩
 refine⟨zl9 0,fun r hr0=>?_⟩;have s1:=aI hr0 (.lst []);have e1:upd H r (.lst []) r=some (.lst []):=aD;generalize upd H r (.lst [])=H1 at s1 e1 ⊢;refine⟨_,rfl,a,ns,2,2,rfl,rfl,s1.seq hS,h63,fun c0 H2 s2=>?_⟩;refine⟨_,rfl,c0,1,(m:Int),rfl,by decide,by decide,by lia,fun t' H3 t0 tm s3=>?_⟩;obtain⟨t,rfl⟩:∃t:Nat,t'=(t:Int):=⟨t'.toNat,by lia⟩
 have s03:=s1.trans (s2.trans s3);have e3:=(s2.trans s3) _ _ e1
 try dsimp only
 refine pX (fun σ' H'=>aZ H H'/\∃(us:List V) (E:List Hn) (z6 z7 z8:Option V),σ'=[some (.ref a),some (.int (m:Int)),some (.int (ms:Int)),some (.ref w),some (.ref r),some (.int (t:Int)),z6,z7,z8]/\H' r=some (.lst us)/\Rts Z.K H' us (rwH E)/\Hng m t m E/\E.length=m - 1) (fun X hX=>?_) ?_
 ·refine⟨_,rfl,1,(m:Int),rfl,by lia,?_⟩;refine iD (lo:=1) (n:=((m:Int) - 1).toNat) (fun i σ H'=>aZ H H'/\∃(us:List V) (E:List Hn) (z6 z7 z8:Option V),σ=[some (.ref a),some (.int (m:Int)),some (.int (ms:Int)),some (.ref w),some (.ref r),some (.int (t:Int)),z6,z7,z8]/\H' r=some (.lst us)/\Rts Z.K H' us (rwH E)/\Hng m t (i+1) E/\E.length=i) ⟨s03,[],[],none,none,none,rfl,e3,.nil,⟨hm1,by lia,(fun e he=>by cases he),nodup_nil,(fun k a b=>by lia),(fun p hp=>by cases hp),rfl⟩,rfl⟩ ?_ ?_
  ·rintro i σ H4 hi ⟨s4,us,E,z6,z7,z8,rfl,er,hR,hg,le⟩;obtain⟨k,hk⟩:∃k:Nat,k=i+1:=⟨_,rfl⟩
   have ek:(1:Int)+(i:Int)=(k:Int):=by lia
   rw[ek];have lE:(rwH E).length=E.length:=length_map ..;refine⟨_,rfl,_,rfl,_,_,rfl,rfl,a,ns,_,2+k,rfl,by lia,s4.seq hS,h63,fun c H5 s5=>?_⟩;have s45:=s4.trans s5;refine⟨_,rfl,_,rfl,_,_,rfl,rfl,_,rfl,_,_,rfl,rfl,(show (m:Int)≠0 by lia),_,rfl,_,rfl,c,1,(k:Int),rfl,by decide,by decide,by lia,fun j' H6 j0 j1 s6=>?_⟩;obtain⟨j,rfl⟩:∃j:Nat,j'=(j:Int):=⟨j'.toNat,by lia⟩
   refine⟨_,rfl,_,_,rfl,rfl,_,rfl,_,_,rfl,rfl,(show (m:Int)≠0 by lia),zl9 2,fun e he=>?_⟩;have s7:=aI he (.tup [.int (Int.fmod ((k:Int)+(t:Int)) (m:Int)),.int (Int.fmod ((j:Int)+(t:Int)) (m:Int))]);have e7:upd H6 e (.tup [.int (Int.fmod ((k:Int)+(t:Int)) (m:Int)),.int (Int.fmod ((j:Int)+(t:Int)) (m:Int))]) e=some (.tup [.int (Int.fmod ((k:Int)+(t:Int)) (m:Int)),.int (Int.fmod ((j:Int)+(t:Int)) (m:Int))]):=aD;generalize upd H6 e (.tup [.int (Int.fmod ((k:Int)+(t:Int)) (m:Int)),.int (Int.fmod ((j:Int)+(t:Int)) (m:Int))])=H7 at s7 e7 ⊢;rw[Dn hm1,Dn hm1] at e7;have s47:=s5.trans (s6.trans s7);have s07:=s4.trans s47;have er7:=s47 _ _ er;refine⟨_,rfl,_,rfl,_,rfl,_,rfl,_,rfl,w,_,rfl,.inl (s07.seq hW),c,0,_,rfl,by decide,by decide,by unfold kws;rw[length_map];lia,fun x H8 x0 x1 s8=>?_⟩;have x1:x < (ks.length:Int):=by unfold kws at x1;rwa [length_map] at x1
   obtain⟨kd,hkd,ekd⟩:=Xp x0 x1;refine⟨w,_,_,_,rfl,rfl,(s07.trans s8).seq hW,ekd,_,rfl,?_⟩;have s48:=s47.trans s8;refine⟨r,e,c,kd,us,rwH E,_,_,rfl,s48 _ _ er,hR.same s48,by lia,SqT.of (s8 _ _ e7),fun y t9 d H9 H10 hy s9 dk hij lp bp hpc e10 R10=>?_⟩;subst e10;have ho:=Um (m:=m) (t:=t) (k:=k) (j:=j) (d:=d) hm1 (by lia) (by lia) (by lia) (by rw[dk];exact hks kd hkd) lp bp (by rw[dk];exact hpc) hij;have hg':=Hng.tree hg ho (j:=j) (by rw[hk]) y;have ee:rwH (E.take y++(some (k,j),d) :: E.drop y)=(rwH E).take y++d :: (rwH E).drop y:=Je ..;rw[<- ee] at R10;exact⟨((s4.trans s48).trans s9).change hr0,us.take y++.ref t9 :: us.drop y,E.take y++(some (k,j),d) :: E.drop y,some (.int (k:Int)),some (.int c),some (.ref e),rfl,aD,R10,hg',by rw[Jd,le]⟩
  ·rintro σ H4 ⟨s4,us,E,z6,z7,z8,rfl,er,hR,hg,le⟩;rw[show ((m:Int) - 1).toNat+1=m by lia] at hg;exact hX _ _ ⟨s4,us,E,z6,z7,z8,rfl,er,hR,hg,by lia⟩
 rintro σ2 H2 ⟨s2,us0,E0',z6,z7,z8,rfl,er0,hR0,hg0,le0⟩;refine⟨_,rfl,8,rfl,_,rfl,_,_,rfl,rfl,8+(ms:Int),rfl,a,_,rfl,s2.seq hS,fun C hC=>?_⟩;have cl:=qk6 (ns.map V.int) ms;obtain⟨cs,em,_⟩:=Bc ns (some 8) (some (8+(ms:Int)));rw[em] at cl ⊢;rw[length_map] at cl;have nCr:C≠r:=Ne.symm (aU er0 hC);have s3:=aI hC (.lst (cs.map V.int));have eC:upd H2 C (.lst (cs.map V.int)) C=some (.lst (cs.map V.int)):=aD;generalize upd H2 C (.lst (cs.map V.int))=H3 at s3 eC ⊢;refine⟨C,rfl,⟨_,SqL.of eC⟩,?_⟩;refine gH (xs:=cs.map V.int) (fun n σ H'=>aZ H H'/\H' C=some (.lst (cs.map V.int))/\∃(us:List V) (E:List Hn) (z7 z8:Option V),σ=[some (.ref a),some (.int (m:Int)),some (.int (ms:Int)),some (.ref w),some (.ref r),some (.int (t:Int)),z6,z7,z8]/\H' r=some (.lst us)/\Rts Z.K H' us (rwH E)/\Hng m t m E/\E.length=m - 1+n) ⟨s2.trans s3,eC,us0,E0',z7,z8,rfl,s3 _ _ er0,hR0.same s3,hg0,le0⟩ (fun n σ H' _ h=>SqL.of h.2.1) ?_ ?_
 ·rintro n x σ H4 hx ⟨s4,eC4,us,E,z7,z8,rfl,er,hR,hg,le⟩;have hn:n < cs.length:=by
   have:=(List.getElem?_eq_some_iff.mp hx).1
   rwa [length_map] at this
  obtain⟨c,rfl⟩:∃c,x=.int c:=by
   rw[getElem?_map] at hx
   cases hm:cs[n]? with
   |none=>rw[hm] at hx;cases hx
   |some c=>rw[hm] at hx;cases hx;exact⟨c,rfl⟩
  have lE:(rwH E).length=E.length:=length_map ..;refine⟨_,rfl,_,rfl,c,1,(m:Int),rfl,by decide,by decide,by lia,fun i H5 i0 i1 s5=>?_⟩;refine⟨_,rfl,_,rfl,c,9,(m:Int),rfl,by decide,by decide,by lia,fun j H6 j0 j1 s6=>?_⟩;refine⟨zl9 2,fun e he=>?_⟩;have s7:=aI he (.tup [.int i,.int j]);have e7:upd H6 e (.tup [.int i,.int j]) e=some (.tup [.int i,.int j]):=aD;generalize upd H6 e (.tup [.int i,.int j])=H7 at s7 e7 ⊢;have s47:=s5.trans (s6.trans s7);refine⟨_,rfl,_,rfl,zl9 3,fun W2 hW2=>?_⟩;have s8:=aI hW2 (.lst [.str "piece",.str "push",.str "piece"]);have e8:upd H7 W2 (.lst [.str "piece",.str "push",.str "piece"]) W2=some (.lst [.str "piece",.str "push",.str "piece"]):=aD;generalize upd H7 W2 (.lst [.str "piece",.str "push",.str "piece"])=H8 at s8 e8 ⊢;refine⟨_,rfl,c,0,3,rfl,by decide,by decide,by decide,fun x H9 x0 x1 s9=>?_⟩;obtain⟨kd,hkd,ekd⟩:∃k:Kd,k≠.ho/\atI [V.str "piece",.str "push",.str "piece"] x=some (.str (Kd.wd k)):=by
   have:x=0\/x=1\/x=2:=by lia
   rcases this with rfl | rfl | rfl
   ·exact⟨.pc,(fun z=>by cases z),rfl⟩
   ·exact⟨.pu,(fun z=>by cases z),rfl⟩
   ·exact⟨.pc,(fun z=>by cases z),rfl⟩
  refine⟨W2,_,_,_,rfl,rfl,SqL.of (s9 _ _ e8),ekd,_,rfl,?_⟩;have s49:=s47.trans (s8.trans s9);refine⟨r,e,c,kd,us,rwH E,_,_,rfl,s49 _ _ er,hR.same s49,by lia,SqT.of ((s8.trans s9) _ _ e7),fun y t9 d HA HB hy sA dk hij lp bp hpc eB RB=>?_⟩;subst eB;have pt:cX (m:Int) d.2.1 d.2.2.1:=by
   rcases hij with ⟨x,y⟩ | ⟨x,y⟩<;>(rw[x,y];exact⟨by lia,by lia,by lia,by lia⟩)
  have ho:=Uk (m:=m) (t:=t) (d:=d) pt (by rw[dk];exact hkd) lp bp (by rw[dk];exact hpc);have hg':=Hng.ins hg ho rfl y;have ee:rwH (E.take y++(none,d) :: E.drop y)=(rwH E).take y++d :: (rwH E).drop y:=Je ..;rw[<- ee] at RB;exact⟨((s4.trans s49).trans sA).change hr0,by rw[aY nCr];exact(s49.trans sA) _ _ eC4,us.take y++.ref t9 :: us.drop y,E.take y++(none,d) :: E.drop y,some (.int c),some (.ref e),rfl,aD,RB,hg',by rw[Jd,le];lia⟩
 ·rintro σ H4 ⟨s4,_,us,E,z7,z8,rfl,er,hR,hg,le⟩;rw[length_map] at le;exact⟨_,rfl,q r us t E H4 s4 hr0 er hR hg (by lia)⟩
theorem Y87:DZ 2 Z.f87 Z.d87 ["_law_cell","_law_word"] (Ft Z.K) "_law_new_size":=by
 refine⟨?_,F87.b2 _ _ (by intros;rfl),F87.kp,m87⟩
 refine F87.ok9 zK fun _ _ _ s H _ Q E hr h=>?_;obtain⟨c,k,rfl,q⟩:=h;have r1:=hr;refine⟨_,(aB (aS (i:=2) zK.nd rfl (Or.inl rfl) (aX iN (d9 Y75 r1 rfl (aA (pv 0) (aA aE (aA aE aC)))) aE))
  (aB (cG (bC eV (pv 1) cF (bK _)) (aF (aS (i:=2) zK.nd rfl (Or.inl rfl) (aX dU aE (bZ oX rfl bl.abs PyProof.Rows.boot_abs (aA (pv 2) aC))))) bN)
  (aB (cG (bC eV (d9 Y75 r1 rfl (aA (pv 0) (aA aE (aA aE aC)))) aE (bK _)) (aF (aS (i:=2) zK.nd rfl (Or.inl rfl) (aX dU aE (aX lF (d9 Y76 r1 rfl (aA (pv 0) (aA aE aC))) (aX lU aE aE))))) bN)
  (aF (aW (d9 Y77 r1 rfl (aA (pv 2) (aA (aX dU aE (d9 Y75 r1 rfl (aA (pv 0) (aA aE (aA aE aC))))) aC)))))))),?_⟩
 refine⟨_,rfl,c,3,121,rfl,by decide,by decide,by decide,fun y H1 y0 y1 s1=>⟨_,_,rfl,rfl,?_⟩⟩
 try dsimp only
 refine pX (fun σ' H'=>H'=H1/\∃t:Int,σ'=[some (.int c),some (.str k.wd),some (.int t)]/\t.natAbs<=61/\(k=.pc->0 < t)) (fun X hX=>?_) ?_
 ·by_cases hk:k=.pc
  ·refine⟨_,rfl,rfl,_,rfl,L2.ifT (by show decide (V.str k.wd=V.str "piece")=true;rw[Jr];exact decide_eq_true hk) ?_⟩;refine⟨_,rfl,_,rfl,_,_,rfl,rfl,?_⟩;refine hX _ _ ⟨rfl,1+(if y - 60 < 0 then -(y - 60) else y - 60),rfl,?_,fun _=>?_⟩
   ·split<;>lia
   ·split<;>lia
  ·refine⟨_,rfl,rfl,_,rfl,L2.ifF (by show decide (V.str k.wd=V.str "piece")=false;rw[Jr];exact decide_eq_false hk) ?_⟩;exact hX _ _ ⟨rfl,y - 60,rfl,by lia,fun z=>absurd z hk⟩
 rintro σ2 H2 ⟨rfl,t,rfl,t61,tp⟩;refine pX (fun σ' H'=>aZ H2 H'/\∃t:Int,σ'=[some (.int c),some (.str k.wd),some (.int t)]/\t.natAbs<=1000000000/\(k=.pc->0 < t)) (fun X hX=>?_) ?_
 ·refine⟨_,rfl,c,7,9,rfl,by decide,by decide,by decide,fun g H3 _ _ s3=>⟨rfl,_,rfl,qM (fun _=>?_) (fun _=>?_)⟩⟩
  ·refine⟨_,rfl,c,1,rfl,by decide,by decide,fun u u1 u2=>?_⟩;clear u1 u2;refine⟨_,_,rfl,rfl,⟨by decide,by decide,by decide⟩,_,_,rfl,rfl,(show (0:Int) < 10 ^ (9:Int).toNat by decide),_,_,rfl,rfl,?_⟩;have p9:(10:Int) ^ (9:Int).toNat=1000000000:=by decide
   have f0:=Int.emod_nonneg u (show (10 ^ (9:Int).toNat:Int)≠0 by decide);have f9:=Int.emod_lt_of_pos u (show (0:Int) < 10 ^ (9:Int).toNat by decide);refine hX _ _ ⟨s3,1+u % 10 ^ (9:Int).toNat,rfl,?_,fun _=>by lia⟩;generalize u % (10 ^ (9:Int).toNat)=v at f0 f9 ⊢;rw[p9] at f9;lia
  ·exact hX _ _ ⟨s3,t,rfl,by lia,tp⟩
 rintro σ3 H3 ⟨s3,t',rfl,t9,tp'⟩;refine⟨_,rfl,_,rfl,c,4,12,rfl,by decide,by decide,by decide,fun b' H4 b0 b1 s4=>⟨_,_,rfl,rfl,?_⟩⟩;have bn:1+b'≠0:=by lia
 have le:=mF (t:=t') bn;have bT:Mq.B 31 t':=Nat.lt_of_le_of_lt t9 (by decide);have bB:Mq.B 31 (1+b'):=tT (by lia) (by lia);have l2:=le.2;refine⟨t',1+b',31,rfl,bn,bB,by lia,mD.same (s1.trans (s3.trans s4)) (q _ (iE bn) ⟨bT.le le.1,bB.le le.2⟩ (by lia) fun hk=>Im (tp' hk) (by lia))⟩
theorem Y88:DZ 3 Z.f88 Z.d88 ["_law_row","_law_size_here","_law_ahead","_law_shape"] (Nv Z.K) "_law_factor":=by
 refine⟨?_,F88.b4 _ _ _ _ (by intros;rfl),F88.kp,m88⟩
 refine F88.ok9 Ia fun _ _ _ s H _ Q E hr h=>?_;obtain⟨r,s0,z,la,sa,m,⟨kd,u,v,w0⟩,p,lv,hp,rfl,hT,f0,fz,hL,hS,⟨u0,u1,v0,v1⟩,l0,lp,b0,bp,hk,hpc,q⟩:=h;refine⟨_,(aB (cG (bC eV (aQ aT (pv 0) aE (fun _ _=>rfl)) cF (bK _)) (aF (aW (d9 Y79 hr rfl (aA (pv 1) (aA (aQ aT (pv 0) aE (fun _ _=>rfl)) aC))))) bN)
  (aB (aS (i:=4) Ia.nd rfl (Or.inl rfl) (d9 Y79 hr rfl (aA (d9 Y81 hr rfl (aA (dS (aA aE (aA aE aC))) (aA (pv 1) aC))) (aA (d9 Y81 hr rfl (aA (dS (aA aE (aA aE aC))) (aA (aQ aT (pv 0) aE (fun _ _=>rfl)) aC))) aC))))
  (aB (aS (i:=5) Ia.nd rfl (Or.inl rfl) (d9 Y79 hr rfl (aA (aQ bG (pv 2) (aQ aT (pv 0) aE (fun _ _=>rfl)) (fun _ _=>rfl)) (aA (aQ bG (pv 2) (aQ aT (pv 0) aE (fun _ _=>rfl)) (fun _ _=>rfl)) aC))))
  (aB (aS (i:=6) Ia.nd rfl (Or.inl rfl) (d9 Y79 hr rfl (aA (aQ bG (pv 3) (aQ aT (pv 0) aE (fun _ _=>rfl)) (fun _ _=>rfl)) (aA (aQ bG (pv 3) (aQ aT (pv 0) aE (fun _ _=>rfl)) (fun _ _=>rfl)) aC))))
  (aF (aW (d9 Y81 hr rfl (aA (d9 Y79 hr rfl (aA (dS (aA aE (aA aE aC))) (aA (d9 Y80 hr rfl (aA (pv 4) (aA (pv 5) aC))) aC))) (aA (d9 Y78 hr rfl (aA (dS (aA aE (aA aE aC))) (aA (d9 Y80 hr rfl (aA (pv 4) (aA (pv 6) aC))) aC))) aC))))))))),?_⟩
 refine⟨_,rfl,r,_,0,_,rfl,rfl,hT,rfl,rfl,_,rfl,?_⟩
 by_cases hh:kd=.ho
 ·refine L2.ifT (by show decide (V.str kd.wd=V.str Kd.ho.wd)=true;rw[cP];exact decide_eq_true hh) ?_;refine⟨_,rfl,_,rfl,r,_,3,_,rfl,rfl,hT,rfl,z,s0,p,w0,31,31,rfl,fz,f0,lp.pos,l0.pos,bp,b0,by lia,?_⟩;have e:Kc lv hp (kd,u,v,w0) p=Mq.minus p w0:=by unfold Kc;rw[if_pos hh]
  rw[e] at q;exact q
 refine L2.ifF (by show decide (V.str kd.wd=V.str Kd.ho.wd)=false;rw[cP];exact decide_eq_false hh) ?_;have hc:kd=.pc:=by cases kd<;>first | rfl | exact absurd rfl hk | exact absurd rfl hh
 subst hc;obtain⟨t0,tp,vt4⟩:0 < w0.1/\0 < p.1/\_:=hpc rfl;have l11:(1:Int)<=((1,1):Q2).2:=by show (1:Int)<=1;decide
 have l01:(1:Int)<=((0,1):Q2).2:=by show (1:Int)<=1;decide
 refine⟨zl9 2,fun o1 ho1=>?_⟩;have s1:=aI ho1 (.tup [.int 1,.int 1]);have e1:upd H o1 (.tup [.int 1,.int 1]) o1=some (.tup [.int 1,.int 1]):=aD;generalize upd H o1 (.tup [.int 1,.int 1])=H1 at s1 e1 ⊢;refine⟨_,rfl,o1,z,(1,1),p,1,31,rfl,Fq.of (p:=(1,1)) e1,s1.fq fz,l11,lp.pos,tp,rQ,bp,by lia,fun w1 H2 s2 e2=>?_⟩;refine⟨zl9 2,fun o2 ho2=>?_⟩;have s3:=aI ho2 (.tup [.int 1,.int 1]);have e3:upd H2 o2 (.tup [.int 1,.int 1]) o2=some (.tup [.int 1,.int 1]):=aD;generalize upd H2 o2 (.tup [.int 1,.int 1])=H3 at s3 e3 ⊢;have s03:=s1.trans (s2.trans s3);refine⟨_,rfl,r,_,3,_,rfl,rfl,s03.seqT hT,rfl,o2,s0,(1,1),w0,1,31,rfl,Fq.of (p:=(1,1)) e3,s03.fq f0,l11,l0.pos,t0,rQ,b0,by lia,fun w2 H4 s4 e4=>?_⟩;have lo1:=iH (p:=(1,1)) (q:=p) l11 (by lia);have lo2:=iH (p:=(1,1)) (q:=w0) l11 (by lia);have bo1:=oS (n:=1) (m:=31) (p:=(1,1)) (q:=p) rQ bp l11 (by lia);have bo2:=oS (n:=1) (m:=31) (p:=(1,1)) (q:=w0) rQ b0 l11 (by lia);have fw1:Fq Z.K H2 w1 (fI (1,1) p):=Fq.of e2;have fw2:Fq Z.K H4 w2 (fI (1,1) w0):=Fq.of e4;have ev:Kc lv hp (.pc,u,v,w0) p=Sf lv hp (.pc,u,v,w0) p:=if_neg (fun z=>by cases z);rw[ev] at q;unfold Sf at q;have q:mD H Q (fI (Mq.minus (0,1) (gC (Mq.minus (fI (1,1) p) (fI (1,1) w0)) (flF lv (.pc,u,v,w0)))) (iZ (1,1) (gC (Mq.minus (fI (1,1) p) (fI (1,1) w0)) (flF hp (.pc,u,v,w0))))):=q;have vt4:0 < (iZ (1,1) (gC (Mq.minus (fI (1,1) p) (fI (1,1) w0)) (flF hp (.pc,u,v,w0)))).1:=vt4;generalize fI (1,1) p=O1 at lo1 bo1 fw1 q vt4;generalize fI (1,1) w0=O2 at lo2 bo2 fw2 q vt4;refine⟨w1,w2,O1,O2,32,32,rfl,(s3.trans s4).fq fw1,fw2,lo1.pos,lo2.pos,bo1,bo2,by lia,fun w3 H5 s5 e5=>?_⟩;have lM:=dD lo1.pos lo2.pos;have bM:=iI bo1 bo2 lo1.pos lo2.pos;have fM:Fq Z.K H5 w3 (Mq.minus O1 O2):=Fq.of e5;generalize Mq.minus O1 O2=M at lM bM fM q vt4;have s05:=s03.trans (s4.trans s5);have hL5:=hL.same s05;have hS5:=hS.same s05;have hT5:=s05.seqT hT;clear hL hS hT fz f0 fw1 fw2 e1 e3 s03;obtain⟨xs,ta,hx,eu,fu,lu,bu⟩:=hL5.at u0 u1;obtain⟨_,tb,hx',ew,fw,lw,bw⟩:=hL5.at v0 v1;refine⟨_,rfl,_,rfl,r,_,1,_,rfl,rfl,hT5,rfl,la,_,_,_,rfl,rfl,hx,eu,?_⟩;refine⟨_,rfl,_,rfl,r,_,2,_,rfl,rfl,hT5,rfl,la,_,_,_,rfl,rfl,hx',ew,?_⟩;refine⟨ta,tb,_,_,1763,1763,rfl,fu,fw,lu.pos,lw.pos,bu,bw,by lia,fun w4 H6 s6 e6=>?_⟩;have lf1:=dD lu.pos lw.pos;have bf1:=iI bu bw lu.pos lw.pos;have ff1:Fq Z.K H6 w4 (flF lv (.pc,u,v,w0)):=Fq.of e6;have lf1:Low (flF lv (.pc,u,v,w0)):=lf1;have bf1:Bd (1763+1763+1) (flF lv (.pc,u,v,w0)):=bf1;generalize flF lv (.pc,u,v,w0)=f1q at lf1 bf1 ff1 q;have hS6:=hS5.same s6;have hT6:=s6.seqT hT5;clear hx hx' eu ew fu fw lu lw bu bw;obtain⟨ys,tc,hy,eu,fu,lu,bu⟩:=hS6.at u0 u1;obtain⟨_,td,hy',ew,fw,lw,bw⟩:=hS6.at v0 v1;refine⟨_,rfl,_,rfl,r,_,1,_,rfl,rfl,hT6,rfl,sa,_,_,_,rfl,rfl,hy,eu,?_⟩;refine⟨_,rfl,_,rfl,r,_,2,_,rfl,rfl,hT6,rfl,sa,_,_,_,rfl,rfl,hy',ew,?_⟩;refine⟨tc,td,_,_,1763,1763,rfl,fu,fw,lu.pos,lw.pos,bu,bw,by lia,fun w5 H7 s7 e7=>?_⟩;have lf2:=dD lu.pos lw.pos;have bf2:=iI bu bw lu.pos lw.pos;have ff2:Fq Z.K H7 w5 (flF hp (.pc,u,v,w0)):=Fq.of e7;have lf2:Low (flF hp (.pc,u,v,w0)):=lf2;have bf2:Bd (1763+1763+1) (flF hp (.pc,u,v,w0)):=bf2;generalize flF hp (.pc,u,v,w0)=f2q at lf2 bf2 ff2 q vt4;clear hy hy' eu ew fu fw lu lw bu bw;have s57:=s6.trans s7;have s07:=s05.trans s57;refine⟨zl9 2,fun o3 ho3=>?_⟩;have s8:=aI ho3 (.tup [.int 0,.int 1]);have e8:upd H7 o3 (.tup [.int 0,.int 1]) o3=some (.tup [.int 0,.int 1]):=aD;generalize upd H7 o3 (.tup [.int 0,.int 1])=H8 at s8 e8 ⊢;refine⟨_,rfl,_,rfl,w3,w4,M,f1q,65,3527,rfl,(s57.trans s8).fq fM,(s7.trans s8).fq ff1,lM.pos,lf1.pos,bM,bf1,by lia,fun g1a H9 s9 e9=>?_⟩;have lt1:=jX lM.pos lf1.pos;have bt1:=oT bM bf1 lM.pos lf1.pos;have fg1:Fq Z.K H9 g1a (gC M f1q):=Fq.of e9;generalize gC M f1q=t1q at lt1 bt1 fg1 q;have b01:Bd 1 (0,1):=Ya (n:=0);refine⟨o3,g1a,(0,1),t1q,1,3592,rfl,Fq.of (p:=(0,1)) (s9 _ _ e8),fg1,l01,lt1.pos,b01,bt1,by lia,fun g2a HA sA eA=>?_⟩;have lt2:=dD (p:=(0,1)) (q:=t1q) l01 lt1.pos;have bt2:=iI (n:=1) (m:=3592) (p:=(0,1)) (q:=t1q) b01 bt1 l01 lt1.pos;have fg2:Fq Z.K HA g2a (Mq.minus (0,1) t1q):=Fq.of eA;generalize Mq.minus (0,1) t1q=t2q at lt2 bt2 fg2 q;refine⟨zl9 2,fun o4 ho4=>?_⟩;have sB:=aI ho4 (.tup [.int 1,.int 1]);have eB:upd HA o4 (.tup [.int 1,.int 1]) o4=some (.tup [.int 1,.int 1]):=aD;generalize upd HA o4 (.tup [.int 1,.int 1])=HB at sB eB ⊢;have s7B:=s8.trans (s9.trans (sA.trans sB));refine⟨_,rfl,_,rfl,w3,w5,M,f2q,65,3527,rfl,(s57.trans s7B).fq fM,s7B.fq ff2,lM.pos,lf2.pos,bM,bf2,by lia,fun g3a HC sC eC=>?_⟩;have lt3:=jX lM.pos lf2.pos;have bt3:=oT bM bf2 lM.pos lf2.pos;have fg3:Fq Z.K HC g3a (gC M f2q):=Fq.of eC;generalize gC M f2q=t3q at lt3 bt3 fg3 q vt4;refine⟨o4,g3a,(1,1),t3q,1,3592,rfl,Fq.of (p:=(1,1)) (sC _ _ eB),fg3,l11,lt3.pos,rQ,bt3,by lia,fun g4a HD sD eD=>?_⟩;have lt4:=lW (p:=(1,1)) (q:=t3q) l11 lt3.pos;have bt4:=sU (n:=1) (m:=3592) (p:=(1,1)) (q:=t3q) rQ bt3 l11 lt3.pos;have fg4:Fq Z.K HD g4a (iZ (1,1) t3q):=Fq.of eD;generalize iZ (1,1) t3q=t4q at lt4 bt4 fg4 q vt4;refine⟨g2a,g4a,t2q,t4q,3594,3594,rfl,(sB.trans (sC.trans sD)).fq fg2,fg4,lt2.pos,lt4.pos,vt4,bt2,bt4,by lia,fun a HE sE eE=>?_⟩;exact q a HE (s07.trans (s7B.trans (sC.trans (sD.trans sE)))) eE
theorem Y89:DZ 3 Z.f89 Z.d89 ["_law_rows","_law_block","_law_ahead","_law_behind"] (Pa Z.K) "_law_stays":=by
 refine⟨?_,F89.b4 _ _ _ _ (by intros;rfl),F89.kp,m89⟩
 refine F89.ok9 Hl fun _ _ _ s H _ Q E hr h=>?_;obtain⟨r,b,ta,tb,us,m,ds,blk,lv,fl,lw,gl,rfl,hU,hR,hB,hA,hC,pt,l1000,stay,q⟩:=h;have hu:=hr.units;refine⟨_,(aB (fC PassesOwn.never rfl (gU rfl n_range (aA (bZ bL rfl n_len PySem.boot_len (aA (pv 0) aC)) aC)) (bH (i:=4) Hl.nd rfl (Or.inl rfl))
   (aB (cG (PW.pt (pJ (bC qZ (pv 4) (pv 1) rfl) (nY (bC eV (aQ aT (aQ bG (pv 0) (pv 4) (fun _ _=>rfl)) aE (fun _ _=>rfl)) cF (bK _))))) (aF rF) bN)
  (aB (kW (eO Rx (aQ bG (pv 0) (pv 4) (fun _ _=>rfl)) (dY aE) (dY aE)) (kF rfl (dB (bH (i:=5) Hl.nd rfl (Or.inl rfl)) (dB (bH (i:=6) Hl.nd rfl (Or.inl rfl)) iT))))
  (aB (cG (bC (Fj hu) (aQ bG (aQ aT (pv 2) aE (fun _ _=>rfl)) (pv 4) (fun _ _=>rfl)) (aQ bG (aQ aT (pv 3) aE (fun _ _=>rfl)) (pv 4) (fun _ _=>rfl)) (bK _)) (aF (aW jL)) bN)
  (aF (cG (bC (Fj hu) (d9 Y79 hr rfl (aA (aQ bG (aQ aT (pv 2) aE (fun _ _=>rfl)) (pv 5) (fun _ _=>rfl)) (aA (aQ bG (aQ aT (pv 2) aE (fun _ _=>rfl)) (pv 6) (fun _ _=>rfl)) aC))) (d9 Y79 hr rfl (aA (aQ bG (aQ aT (pv 3) aE (fun _ _=>rfl)) (pv 5) (fun _ _=>rfl)) (aA (aQ bG (aQ aT (pv 3) aE (fun _ _=>rfl)) (pv 6) (fun _ _=>rfl)) aC))) (bK _)) (aF (aW jL)) bN))))))
  (aF (aW jL))),?_⟩
 have lu:=hR.length;refine⟨_,rfl,r,us,rfl,.inl hU,ds.length,by rw[lu],by lia,by lia,?_⟩;refine iD (fun i σ H'=>aZ H H'/\∃z5 z6 z7,σ=[some (.ref r),some (.ref b),some (.ref ta),some (.ref tb),z5,z6,z7]) ⟨aZ.refl _,none,none,none,rfl⟩ ?_ ?_
 rotate_left
 ·rintro σ H1 ⟨s1,z5,z6,z7,rfl⟩;exact q H1 s1
 rintro i σ H1 hi ⟨s1,z5,z6,z7,rfl⟩;have hi:i < ds.length:=by lia
 rw[Int.zero_add];obtain⟨d,hd⟩:∃d,ds[i]?=some d:=⟨_,getElem?_eq_getElem hi⟩
 obtain⟨t,s0,et,hT,f0⟩:=(hR.same s1).at hd;have PT:=pt _ (mem_of_getElem? hd);have st':=stay i d hd;obtain⟨kd,u,v,w0⟩:=d;obtain⟨u0,u1,v0,v1⟩:cX (m:Int) u v:=PT;have ix:=bX et;refine⟨_,rfl,_,rfl,b,_,rfl,.inl (s1.seq hB),rfl,xR _,_,rfl,?_⟩
 by_cases hb:i∈blk
 ·exact L2.ifT (by show inV _ _=true;rw[Df];exact decide_eq_true hb) (L2.ifT rfl ⟨s1,_,_,_,rfl⟩)
 refine L2.ifF (by show inV _ _=false;rw[Df];exact decide_eq_false hb) ?_;refine⟨_,rfl,_,rfl,r,us,_,_,rfl,rfl,s1.seq hU,ix,t,_,0,_,rfl,rfl,hT,rfl,rfl,_,rfl,?_⟩
 by_cases hp:kd=.pu
 ·exact L2.ifT (by show decide (V.str kd.wd=V.str Kd.pu.wd)=true;rw[cP];exact decide_eq_true hp) ⟨s1,_,_,_,rfl⟩
 refine L2.ifF (by show decide (V.str kd.wd=V.str Kd.pu.wd)=false;rw[cP];exact decide_eq_false hp) ?_;obtain⟨e1,e2⟩:=st' hb hp;refine⟨_,rfl,_,rfl,r,us,_,_,rfl,rfl,s1.seq hU,ix,1,rfl,3,rfl,t,_,rfl,hT,by show ¬(HT.sIx 4 0 (some 1)=0/\HT.sIx 4 4 (some 3)=4);decide,fun p hp'=>?_⟩;have s2:=aI hp' (.tup [.int u,.int v]);have ep:upd H1 p (.tup [.int u,.int v]) p=some (.tup [.int u,.int v]):=aD;have ec:iR [V.str kd.wd,.int u,.int v,.ref s0] (some 1) (some 3)=[.int u,.int v]:=rfl;rw[ec];generalize upd H1 p (.tup [.int u,.int v])=H2 at s2 ep ⊢;refine⟨p,_,rfl,SqT.of ep,rfl,_,_,rfl,_,_,rfl,rfl,?_⟩;have s02:=s1.trans s2;have lC:=hC.len;have lA:=hA.len;obtain⟨fa,ha,xa,ta1,ta2,ta3,ta4⟩:=(hA.same s02).e;obtain⟨fb,hb',xb,tb1,tb2,tb3,tb4⟩:=(hC.same s02).e;obtain⟨ya,ya1,ya2⟩:=Hf ta3 (j:=i) (by lia);obtain⟨yb,yb1,yb2⟩:=Hf tb3 (j:=i) (by lia);rw[<- e1] at yb2;refine⟨_,rfl,ta,_,0,_,rfl,rfl,ta1,rfl,_,rfl,fa,xa,_,_,rfl,rfl,ta2,bX ya1,_,rfl,tb,_,0,_,rfl,rfl,tb1,rfl,_,rfl,fb,xb,_,_,rfl,rfl,tb2,bX yb1,yU ya2 yb2 ⟨_,rfl,L2.ifF (by simp) ?_⟩⟩;obtain⟨za,pa1,za1,za2,za3,za4,za5⟩:=ta4.at u0 u1;obtain⟨_,pa2,za6,za7,za8,za9,zaA⟩:=ta4.at v0 v1;refine⟨_,rfl,ta,_,1,_,rfl,rfl,ta1,rfl,_,rfl,ha,_,_,_,rfl,rfl,za1,za2,_,rfl,ta,_,1,_,rfl,rfl,ta1,rfl,_,rfl,ha,_,_,_,rfl,rfl,za6,za7,?_⟩;refine⟨pa1,pa2,_,_,1763,1763,rfl,za3,za8,za4.pos,za9.pos,za5,zaA,by lia,fun g2a H3 s3 e3=>?_⟩;have f3:Fq Z.K H3 g2a (flF lv (kd,u,v,w0)):=Fq.of e3;clear za1 za2 za3 za4 za5 za6 za7 za8 za9 zaA;have tb4:=tb4.same s3;have tb1:=s3.seqT tb1;obtain⟨zb,pb1,zb1,zb2,zb3,zb4,zb5⟩:=tb4.at u0 u1;obtain⟨_,pb2,zb6,zb7,zb8,zb9,zbA⟩:=tb4.at v0 v1;refine⟨_,rfl,tb,_,1,_,rfl,rfl,tb1,rfl,_,rfl,hb',_,_,_,rfl,rfl,zb1,zb2,_,rfl,tb,_,1,_,rfl,rfl,tb1,rfl,_,rfl,hb',_,_,_,rfl,rfl,zb6,zb7,?_⟩;refine⟨pb1,pb2,_,_,1763,1763,rfl,zb3,zb8,zb4.pos,zb9.pos,zb5,zbA,by lia,fun g4a H4 s4 e4=>?_⟩;have f4:Fq Z.K H4 g4a (flF lw (kd,u,v,w0)):=Fq.of e4;rw[<- e2] at f4;exact yU (s4.fq f3) f4 ⟨_,rfl,L2.ifF (by simp) ⟨s02.trans (s3.trans s4),_,_,_,rfl⟩⟩
theorem X12:eI Z.K Z.c_Watch "heights" Z.f66:=⟨a66_0,i66,F66.kp⟩
theorem X13:eI Z.K Z.c_Watch "streams" Z.f67:=⟨a67_0,i67,F67.kp⟩
theorem X14:eI Z.K Z.c_Watch "paper" Z.f73:=⟨a73_0,i73,F73.kp⟩
theorem X15:eI Z.K Z.c_Watch "change" Z.f65:=⟨a65_0,i65,F65.kp⟩
theorem Rlaw:FZ CX0 12 Z.f90 (W.fnOf ("law") ("law") (fA zQ) (cV zQ) (aH zQ) .none Z.kV90 Z.dc90 Z.pm90 Z.an90 Z.cd90 Z.ct90) ["_law_script"] (Cb Z.K):=by
 refine F90.ok9 jT fun _ _ _ s H _ Q E hr h=>?_;obtain⟨a,ns,rfl,hS,h63,q⟩:=h;have hu:=hr.units;have r1:=hr.mono (show 1<=11 by lia);have r2:=hr.mono (show 2<=11 by lia);have r3:=hr.mono (show 3<=11 by lia);have r4:=hr.mono (show 4<=11 by lia);have r6:=hr.mono (show 6<=11 by lia);have r9:=hr.mono (show 9<=11 by lia);have r11:=hr;refine⟨_,(aB (aS (i:=1) jT.nd rfl (Or.inl rfl) (aQ bG (cZ (aA aE (aA aE (aA aE (aA aE (aA aE (aA aE (aA aE aC)))))))) (aX lF (aG Y74.G r1 rfl m74 F74.kp Y74.b .nil aK (aA (pv 0) (aA aE aC))) aE) (fun _ _=>rfl)))
  (aB (aS (i:=2) jT.nd rfl (Or.inr rfl) (aG Y86.G r4 rfl m86 F86.kp Y86.b .nil aK (aA (pv 0) (aA (pv 1) (aA aE (aA (cZ (aA cF (aA cF (aA cF (aA cF aC))))) aC))))))
  (aB (aS (i:=3) jT.nd rfl (Or.inl rfl) (iV MWa R64 r11 rfl WBx.mW b64 .nil aK (aA (aG Y84.G r6 rfl m84 F84.kp Y84.b .nil aK (aA (pv 1) (aA (pv 2) aC))) aC)))
  (aB (tJ (i:=4) (nl:=1) (fr:=[2]) (Nc:=["_law_k","_law_rows"]) (cl:=[("_law_rows",s.heap.objs.size+1)]) jT.nd rfl rfl rfl ⟨rfl,rfl,by decide +kernel,by decide +kernel,fun x c h=>h,fG rfl,rfl,fun i n h=>match i,h with | 0,h=>by cases h;exact⟨2,rfl,rfl,rfl,rfl,.inl rfl⟩ | k+1,h=>by rw[show 1+(k+1)=k+2 by lia] at h;cases h⟩
    (gU rfl n_range (aA (bZ bL rfl n_len PySem.boot_len (aA (pv 2) aC)) aC)) (fun _ _ _ _ _=>(bH (i:=0) Lq rfl (Or.inl rfl))) (fun _ _ _ _ _=>(pS (bC pY (aQ (pE (K:=Z.K) rfl) (aQ (jQ (K:=Z.K) rfl) (pv 1) (pv 0) (fun _ _=>rfl)) aE (fun _ _=>rfl)) cF (bK _))))
    (fun _ _ _ _ _=>(pv 0)) rfl)
  (aB (cG (bC (vD hu) (pv 4) (cZ aC) (bK _)) (aF (aW (qD (jK (vD hu) (cA (pv 3) WBx.cl X12 R66 r2 b66 .nil aK) (cZ (aA (dS (aA aE (aA aE aC))) aC)) (bK _)) (tS (jK (vD hu) (cA (pv 3) WBx.cl X14 R73 r6 b73 .nil aK) (cZ aC) (bK _)))))) bN)
  (aB (fC PassesOwn.never rfl (dG (eO gK (pv 0) (dY aE) (dY aE))) (bH (i:=5) jT.nd rfl (Or.inl rfl))
   (aB (aS (i:=6) jT.nd rfl (Or.inl rfl) (aQ bG (pv 4) (aG Y75.G r1 rfl m75 F75.kp Y75.b .nil aK (aA (pv 5) (aA aE (aA (bZ bL rfl n_len PySem.boot_len (aA (pv 4) aC)) aC)))) (fun _ _=>rfl)))
  (aB (aS (i:=7) jT.nd rfl (Or.inl rfl) (aG Y87.G r2 rfl m87 F87.kp Y87.b .nil aK (aA (pv 5) (aA (aQ aT (aQ bG (pv 2) (pv 6) (fun _ _=>rfl)) aE (fun _ _=>rfl)) aC))))
  (aB (aS (i:=8) jT.nd rfl (Or.inl rfl) (aG Y84.G r6 rfl m84 F84.kp Y84.b .nil aK (aA (pv 1) (aA (pv 2) aC))))
  (aB (aS (i:=9) jT.nd rfl (Or.inl rfl) (dS (aA (cA (pv 3) WBx.cl X13 R67 r2 b67 .nil aK) (aA (cA (pv 3) WBx.cl X12 R66 r2 b66 .nil aK) aC))))
  (aB (aS (i:=10) jT.nd rfl (Or.inl rfl) (Ae (pv 3) WBx.cl X15 R65 hr b65 .nil aK (aA (pv 6) (aA (pv 7) aC))))
  (aB (cG (gX (fF (aG Y82.G r1 rfl m82 F82.kp Y82.b .nil aK (aA (pv 10) (aA (aG Y88.G r3 rfl m88 F88.kp Y88.b .nil aK (aA (aQ bG (pv 2) (pv 6) (fun _ _=>rfl)) (aA (pv 7) (aA (aQ aT (pv 9) aE (fun _ _=>rfl)) (aA (aG Y62.G r9 rfl m62 F62.kp Y62.b .nil aK (aA (pv 8) (aA (pv 6) aC))) aC))))) aC))))) (aF (aW jL)) bN)
  (aB (aS (i:=11) jT.nd rfl (Or.inl rfl) (dS (aA (cA (pv 3) WBx.cl X13 R67 r2 b67 .nil aK) (aA (cA (pv 3) WBx.cl X12 R66 r2 b66 .nil aK) aC))))
  (aB (cG (gX (fF (aG Y89.G r3 rfl m89 F89.kp Y89.b .nil aK (aA (pv 2) (aA (aG Y68.G r6 rfl m68 F68.kp Y68.b .nil aK (aA (pv 8) (aA (pv 6) aC))) (aA (pv 9) (aA (pv 11) aC))))))) (aF (aW jL)) bN)
  (aB (fC PassesOwn.never rfl (gU rfl n_range (aA (bZ bL rfl n_len PySem.boot_len (aA (pv 2) aC)) aC)) (bH (i:=12) jT.nd rfl (Or.inl rfl))
   (aF (cG (PW.pt (vY (bC eV (aQ aT (aQ bG (pv 2) (pv 12) (fun _ _=>rfl)) aE (fun _ _=>rfl)) cF (bK _)) (oW (bC (Fj hu) (aQ bG (aQ aT (pv 11) aE (fun _ _=>rfl)) (pv 12) (fun _ _=>rfl)) (aQ aT (aQ bG (pv 2) (pv 12) (fun _ _=>rfl)) aE (fun _ _=>rfl)) (bK _))))) (aF (aW jL)) bN)))
  (aF (kW (aX Wl (eO Rx (aQ bG (pv 2) (pv 6) (fun _ _=>rfl)) iF (dY aE)) (dS (aA (pv 7) aC))) (oF (pv 2) (pv 6) jC)))))))))))))
  (aF (aW jL)))))))),?_⟩
 refine pX (fun σ' H'=>aZ H H'/\∃m:Nat,1<=m/\m<=5/\σ'=[some (.ref a),some (.int (m:Int)),none,none,none,none,none,none,none,none,none,none,none]) (fun X hX=>?_) ?_
 ·refine⟨zl9 7,fun L hL=>?_⟩;have s1:=aI hL (.lst [V.int 1,.int 2,.int 3,.int 4,.int 4,.int 3,.int 5]);have e1:upd H L (.lst [V.int 1,.int 2,.int 3,.int 4,.int 4,.int 3,.int 5]) L=some (.lst [V.int 1,.int 2,.int 3,.int 4,.int 4,.int 3,.int 5]):=aD;generalize upd H L (.lst [V.int 1,.int 2,.int 3,.int 4,.int 4,.int 3,.int 5])=H1 at s1 e1 ⊢;refine⟨_,rfl,a,ns,0,0,rfl,rfl,s1.seq hS,h63,fun c H2 s2=>?_⟩;have c0:=Int.emod_nonneg c (show (7:Int)≠0 by decide);have c1:=Int.emod_lt_of_pos c (show (0:Int) < 7 by decide);refine⟨_,_,rfl,rfl,(show (0:Int) < 7 by decide),?_⟩;obtain⟨m,em,m74,m87⟩:∃m:Nat,atI [V.int 1,.int 2,.int 3,.int 4,.int 4,.int 3,.int 5] (c % 7)=some (.int (m:Int))/\1<=m/\m<=5:=by
   generalize c % 7=x at c0 c1;have:x=0\/x=1\/x=2\/x=3\/x=4\/x=5\/x=6:=by lia
   rcases this with rfl | rfl | rfl | rfl | rfl | rfl | rfl
   ·exact⟨1,rfl,by decide,by decide⟩
   ·exact⟨2,rfl,by decide,by decide⟩
   ·exact⟨3,rfl,by decide,by decide⟩
   ·exact⟨4,rfl,by decide,by decide⟩
   ·exact⟨4,rfl,by decide,by decide⟩
   ·exact⟨3,rfl,by decide,by decide⟩
   ·exact⟨5,rfl,by decide,by decide⟩
  exact⟨L,_,_,_,rfl,rfl,SqL.of (s2 _ _ e1),em,hX _ _ ⟨s1.trans s2,m,m74,m87,rfl⟩⟩
 rintro σ1 H1 ⟨s1,m,m74,m87,rfl⟩;refine pX (fun σ' H'=>aZ H1 H'/\∃(ds:List RD) (r:Addr) (us:List V),σ'=[some (.ref a),some (.int (m:Int)),some (.ref r),none,none,none,none,none,none,none,none,none,none]/\Chd m 70 ds/\ds.length<=10/\(H1 r=none)/\H' r=some (.lst us)/\Rts Z.K H' us ds) (fun X hX=>?_) ?_
 ·refine⟨_,rfl,_,rfl,zl9 4,fun w hw=>?_⟩;have s2:=aI hw (.lst [.str "piece",.str "hold",.str "piece",.str "piece"]);have e2:upd H1 w (.lst [.str "piece",.str "hold",.str "piece",.str "piece"]) w=some (.lst [.str "piece",.str "hold",.str "piece",.str "piece"]):=aD;generalize upd H1 w (.lst [.str "piece",.str "hold",.str "piece",.str "piece"])=H2 at s2 e2 ⊢;refine⟨a,w,ns,m,6,[.pc,.ho,.pc,.pc],rfl,(s1.trans s2).seq hS,h63,m74,by lia,by lia,SqL.of e2,by decide,by decide,fun r us tt E H3 s3 nr er hR hg le=>?_⟩;obtain⟨C,l10⟩:=Us hg m87 le;exact hX _ _ ⟨s2.trans s3,rwH E,r,us,rfl,C,l10,s2.free nr,er,hR⟩
 rintro σ3 H3 ⟨s13,ds,r,us,rfl,C0,l10,nr,er,hR⟩;obtain⟨L0,D0,_⟩:=C0.dw (by lia) Zs;have o:=D0.o;have s3:=s1.trans s13;have lus:=hR.length;refine pX (fun σ' H'=>aZ H3 H'/\∃wt:Addr,σ'=[some (.ref a),some (.int (m:Int)),some (.ref r),some (.ref wt),none,none,none,none,none,none,none,none,none]/\jN [r] Z.c_Net Z.c_Answer Z.c_Watch Z.K H' wt m ds/\(wd m ds=0->∃dx a n,H' wt=some (.ins Z.c_Watch dx (fD a n))/\Ce Z.c_Answer H' a)) (fun X hX=>?_) ?_
 ·refine⟨_,rfl,_,rfl,(m:Int),r,us,ds,rfl,by lia,by lia,SqL.of er,hR,fun d hd=>(D0.ok d hd).1,by lia,fun n l H4 s4 nl nt=>?_⟩;refine fun x dx hx0 hdx nxd=>?_;have sm:=oU (C:=Z.c_Watch) hx0 hdx;refine⟨x,dx,n,l,m,L0,ds,rfl,aD,nt.same sm,D0,fun H5 sx5 wat LE=>⟨rfl,?_⟩⟩;refine hX _ _ ⟨s4.trans (uO hx0 hdx sx5),x,rfl,wat [r] (fun y hy=>?_),LE⟩;rw[mem_singleton.mp hy];exact⟨_,sm _ _ (s4 _ _ er)⟩
 rintro σ4 H4 ⟨s34,wt,rfl,WA,LE⟩;have er4:=s34 _ _ er;have hR4:=hR.same s34;have kw:∀(j:Nat) (d:RD),ds[j]?=some d->∃t s0,us[j]?=some (.ref t)/\SqT Z.K H4 t [.str d.1.wd,.int d.2.1,.int d.2.2.1,.ref s0]/\Fq Z.K H4 s0 d.2.2.2:=fun j d hd=>hR4.at hd;refine pX (fun σ' H'=>aZ H4 H'/\∃jl:Addr,σ'=[some (.ref a),some (.int (m:Int)),some (.ref r),some (.ref wt),some (.ref jl),none,none,none,none,none,none,none,none]/\H4 jl=none/\H' jl=some (.lst ((jnF ds).map fun (j:Nat)=>V.int (j:Int)))) (fun X hX=>?_) ?_
 ·refine⟨_,rfl,r,us,rfl,.inl (SqL.of er4),us.length,rfl,by lia,by lia,fun D hD=>?_⟩;have sD:=aI hD (.lst []);refine uX (n:=us.length) (fun i zs H'=>aZ H4 H'/\H' D=some (.lst zs)/\zs=(((List.range i).filter fun j=>decide ((rA ds j).1≠.pu)).map fun (j:Nat)=>V.int (j:Int))) ⟨sD,aD,rfl⟩ (fun i zs H' h=>h.2.1) ?_ ?_
  ·rintro i zs H5 hi ⟨s5,e5,rfl⟩ C hC;rw[Int.zero_add];have hi':i < ds.length:=by lia
   obtain⟨t,s0,et,hT,_⟩:=kw i _ (gN hi');have ll:=length_filter_le (fun j=>decide ((rA ds j).1≠.pu)) (List.range i);rw[length_range] at ll;refine⟨gF.1,gF.2,_,rfl,_,rfl,r,us,_,_,rfl,rfl,SqL.of (s5 _ _ er4),bX et,t,_,0,_,rfl,rfl,s5.seqT hT,rfl,rfl,_,rfl,?_⟩
   by_cases c:(rA ds i).1=.pu
   ·refine L2.ifF (by show (!decide (V.str (rA ds i).1.wd=V.str Kd.pu.wd))=false;rw[cP,decide_eq_true c];rfl) (hC _ _ ⟨s5,e5,?_⟩);have e0:[i].filter (fun j=>decide ((rA ds j).1≠.pu))=[]:=by rw[filter_cons,decide_eq_false (fun z=>z c)];rfl
    rw[range_succ,filter_append,e0,append_nil]
   ·refine L2.ifT (by show (!decide (V.str (rA ds i).1.wd=V.str Kd.pu.wd))=true;rw[cP,decide_eq_false c];rfl) ⟨_,rfl,e5,bO (by rw[length_map];lia),hC _ _ ⟨s5.change hD,aD,?_⟩⟩;have e0:[i].filter (fun j=>decide ((rA ds j).1≠.pu))=[i]:=by rw[filter_cons,decide_eq_true c];rfl
    rw[range_succ,filter_append,e0,map_append];rfl
  ·rintro zs H5 ⟨s5,e5,rfl⟩;refine hX _ _ ⟨s5,D,rfl,hD,?_⟩;rw[e5,lus];rfl
 rintro σ5 H5 ⟨s45,jl,rfl,njl,ejl⟩;have er5:=s45 _ _ er4;have hR5:=hR4.same s45;have WA5:=WA.same s45;have jr:jl≠r:=fun z=>by rw[z,er4] at njl;cases njl
 refine⟨_,rfl,zl9 0,fun e he=>?_⟩;have s6:=aI he (.lst []);have e6:upd H5 e (.lst []) e=some (.lst []):=aD;generalize upd H5 e (.lst [])=H6 at s6 e6 ⊢;have ejl6:=s6 _ _ ejl;have en:((jnF ds).map fun (j:Nat)=>V.int (j:Int))=((jnF ds).map fun (j:Nat)=>(j:Int)).map V.int:=by rw[map_map];rfl
 refine Bz (ns:=(jnF ds).map fun (j:Nat)=>(j:Int)) (by rw[<- en];exact SqL.of ejl6) (SqL.of e6) ⟨_,rfl,?_⟩
 by_cases hj:jnF ds=[]
 ·refine L2.ifT (by rw[hj];rfl) ?_;have nop:∀d∈ds,d.1=.pu:=fun d hd=>by
   obtain⟨j,hjd⟩:=getElem?_of_mem hd;have hl:=(List.getElem?_eq_some_iff.mp hjd).1;refine Decidable.byContradiction fun c=>?_;have:j∈jnF ds:=mem_filter.mpr ⟨mem_range.mpr hl,decide_eq_true (by rw[nQ hjd];exact c)⟩;rw[hj] at this;cases this
  have mo:m=1:=by
   refine Decidable.byContradiction fun c=>?_;have cn:=o.cn 1 (by lia);have:=Cn.ind (R:=fun p q=>p=q) (fun _=>rfl) (fun _ _=>Eq.symm) (fun _ _ _=>Eq.trans) (fun d hd k=>absurd (nop d hd) k) cn;lia
  have h0:bA ds=0:=by
   unfold bA iU;rw[filter_eq_nil_iff.mpr fun d hd=>by rw[nop d hd];decide];rfl
  have w0:wd m ds=0:=by show m - 1+bA ds=0;lia
  obtain⟨dx,an,nn,hw,LEa⟩:=LE w0;have s46:=s45.trans s6;have hw6:=s46 _ _ hw;have WA6:=WA5.same s6;refine⟨_,rfl,wt,dx,_,rfl,hw6,jD _ _ (by decide +kernel) (by decide +kernel),wt,m,ds,rfl,WA6.less (fun y hy=>by cases hy),fun lv fl AV l xs H7 s7 nl el Fl=>?_⟩;refine⟨zl9 2,fun t1 ht1=>?_⟩;have s8:=aI ht1 (.tup [.int 0,.int 1]);have e8:upd H7 t1 (.tup [.int 0,.int 1]) t1=some (.tup [.int 0,.int 1]):=aD;generalize upd H7 t1 (.tup [.int 0,.int 1])=H8 at s8 e8 ⊢;refine⟨zl9 1,fun l1 hl1=>?_⟩;have s9:=aI hl1 (.lst [.ref t1]);have e9:upd H8 l1 (.lst [.ref t1]) l1=some (.lst [.ref t1]):=aD;generalize upd H8 l1 (.lst [.ref t1])=H9 at s9 e9 ⊢;have elv:lv=[(0,1)]:=by
   obtain⟨ps,e1,_,lps,_⟩:=AV.e;have:ps=[]:=eq_nil_of_length_eq_zero (by lia);rw[e1,this];unfold lvS;simp
  rw[elv] at Fl;refine qa2 (ps:=[(0,1)]) (SqL.of ((s8.trans s9) _ _ el)) (SqL.of e9) (Fl.same (s8.trans s9)) (.cons (Fq.of (p:=(0,1)) (s9 _ _ e8)) .nil) ⟨_,rfl,hJ ?_⟩;have s79:=s8.trans s9;have s69:=s7.trans s79;refine⟨_,rfl,wt,dx,_,rfl,s69 _ _ hw6,jD _ _ (by decide +kernel) (by decide +kernel),wt,rfl,⟨dx,an,nn,s69 _ _ hw6,(LEa.same s46).same s69⟩,fun l2 HA sA nl2 el2=>?_⟩;refine⟨zl9 0,fun l3 hl3=>?_⟩;have sB:=aI hl3 (.lst []);have eB:upd HA l3 (.lst []) l3=some (.lst []):=aD;generalize upd HA l3 (.lst [])=HB at sB eB ⊢;exact Xz (d:=.list []) (.lst (SqL.of (sB _ _ el2)) .nil) (.lst (SqL.of eB) .nil) rfl (by decide) (q HB)
 refine L2.ifF (by cases h:jnF ds with | nil=>exact absurd h hj | cons y ys=>rfl) ?_;have er6:=s6 _ _ er5;have LS:LwS Z.c_Net Z.c_Answer Z.c_Watch Z.K H6 m 70 ds r wt us:=⟨C0,er6,hR5.same s6,WA5.same s6⟩
 have jlr:H6 jl=some (.lst ((jnF ds).map fun (j:Nat)=>V.int (j:Int))):=ejl6;have S06:=s3.trans (s34.trans (s45.trans s6));refine⟨_,rfl,20,rfl,23,rfl,a,_,rfl,S06.seq hS,fun C hC=>?_⟩;have c3:=qb1 (ns.map V.int) 20 23;obtain⟨cs,em⟩:=Lh ns (some 20) (some 23);have c3:(iR (ns.map V.int) (some 20) (some 23)).length<=3:=c3;rw[em] at c3 ⊢;rw[length_map] at c3;have s7:=aI hC (.lst (cs.map V.int));have eC:upd H6 C (.lst (cs.map V.int)) C=some (.lst (cs.map V.int)):=aD;generalize upd H6 C (.lst (cs.map V.int))=H7 at s7 eC ⊢;have LS7:=LS.same s7;have ej7:=s7 _ _ ejl6;have Cr:C≠r:=Ne.symm (aU er6 hC);clear LS jlr ejl6 e6 er6 er5 WA5 WA LE hR5 hR4 hR er er4 kw;refine⟨C,rfl,⟨_,SqL.of eC⟩,?_⟩;refine gH (xs:=cs.map V.int) (fun i σ H'=>H' C=some (.lst (cs.map V.int))/\H' jl=some (.lst ((jnF ds).map fun (j:Nat)=>V.int (j:Int)))/\∃ds1 us1 z5 z6 z7 z8 z9 zA zB zC,σ=[some (.ref a),some (.int (m:Int)),some (.ref r),some (.ref wt),some (.ref jl),z5,z6,z7,z8,z9,zA,zB,zC]/\LwS Z.c_Net Z.c_Answer Z.c_Watch Z.K H' m (70+24*i) ds1 r wt us1/\ds.map sk3=ds1.map sk3) ⟨eC,ej7,ds,us,none,none,none,none,none,none,none,none,rfl,LS7,rfl⟩ (fun i σ H' _ h=>SqL.of h.1) ?_ ?_
 rotate_left
 ·rintro σ H8 _;exact q H8
 rintro i x σ H8 hx ⟨eC8,ej8,ds1,us1,z5,z6,z7,z8,z9,zA,zB,zC,rfl,LS1,sk⟩;have hi:i < 3:=by
  have:=(List.getElem?_eq_some_iff.mp hx).1;rw[length_map] at this;lia
 obtain⟨c,rfl⟩:∃c,x=.int c:=by
  rw[getElem?_map] at hx
  cases h:cs[i]? with
  |none=>rw[h] at hx;cases hx
  |some c=>rw[h] at hx;cases hx;exact⟨c,rfl⟩
 have l1:ds1.length=ds.length:=by have:=congrArg List.length sk;rw[length_map,length_map] at this;exact this.symm
 have lj:0 < (jnF ds).length:=length_pos_iff.mpr hj;have lj9:(jnF ds).length<=ds.length:=by
  have:=length_filter_le (fun j=>decide ((rA ds j).1≠.pu)) (List.range ds.length);rw[length_range] at this;exact this
 have n118:70+24*i<=118:=by lia
 have o1:=LS1.ch.o;have lu1:=LS1.hR.length;obtain⟨dxw,aw,nw,hw8⟩:=Iw LS1.wa;have Cw:C≠wt:=dL eC8 hw8 (fun z=>by cases z);have jw:jl≠wt:=dL ej8 hw8 (fun z=>by cases z);have rw':r≠wt:=dL LS1.er hw8 (fun z=>by cases z);clear hx s7 s6 S06 eC ej7 LS7 hS h63
 try dsimp only
 refine qf4 (fun σ' H'=>aZ H8 H'/\∃(kk:Nat) (d:RD) (z n l:Addr) (p:Q2),σ'=[some (.ref a),some (.int (m:Int)),some (.ref r),some (.ref wt),some (.ref jl),some (.int c),some (.int (kk:Int)),some (.ref z),some (.ref n),z9,zA,zB,zC]/\ds1[kk]?=some d/\d.1≠.pu/\Fq Z.K H' z p/\NwS d.1 p/\dF Z.c_Net Z.K H' n l (m:Int) ds1) (fun X hX=>?_) ?_
 ·refine⟨_,rfl,_,rfl,_,rfl,jl,_,rfl,.inl (SqL.of ej8),c,1,(((jnF ds).map fun (j:Nat)=>V.int (j:Int)).length:Int),rfl,by lia,by lia,by rw[length_map];lia,fun j H9 j0 jl9 s9=>?_⟩;rw[length_map] at jl9;obtain⟨kk,ek⟩:∃kk,(jnF ds)[j.toNat]?=some kk:=⟨_,getElem?_eq_getElem (show j.toNat < (jnF ds).length by lia)⟩
  have hkk:=mem_filter.mp (mem_of_getElem? ek);have kl:kk < ds.length:=mem_range.mp hkk.1;have kp:(rA ds kk).1≠.pu:=of_decide_eq_true hkk.2;have ea:atI ((jnF ds).map fun (j:Nat)=>V.int (j:Int)) j=some (.int (kk:Int)):=by
   rw[show j=((j.toNat:Nat):Int) by lia];exact bX (by rw[getElem?_map,ek];rfl)
  refine⟨jl,_,_,_,rfl,rfl,SqL.of (s9 _ _ ej8),ea,?_⟩;obtain⟨d,hd⟩:∃d,ds1[kk]?=some d:=⟨_,getElem?_eq_getElem (by lia)⟩
  have dk:d.1≠.pu:=by
   have e:=congrArg (·.1) (L2.Bo sk kl);have e:(rA ds1 kk).1=(rA ds kk).1:=e;rw[nQ hd] at e;rw[e];exact kp
  obtain⟨t,s0,et,hT,f0⟩:=(LS1.hR.same s9).at hd;refine⟨_,rfl,_,rfl,_,rfl,r,us1,_,_,rfl,rfl,SqL.of (s9 _ _ LS1.er),bX et,t,_,0,_,rfl,rfl,hT,rfl,c,d.1,rfl,fun p lp bp b12 pp z H10 s10 e10=>?_⟩;have s810:=s9.trans s10;refine⟨_,rfl,_,rfl,(m:Int),r,us1,ds1,rfl,by lia,by lia,SqL.of (s810 _ _ LS1.er),LS1.hR.same s810,fun d hd=>(LS1.ch.ok d hd).1,by have:=LS1.ch.len;lia,fun n l H11 s11 nl nt=>?_⟩;exact hX _ _ ⟨s810.trans s11,kk,d,z,n,l,p,rfl,hd,dk,s11.fq (Fq.of e10),⟨lp,bp,b12,pp⟩,nt⟩
 rintro σ9 H9 ⟨s9,kk,d,z,n,l,p,rfl,hd,dk,fz,nws,nt⟩;obtain⟨L1,D1,szw⟩:=LS1.ch.dw n118 nws;have hw9:=s9 _ _ hw8;have WA9:=LS1.wa.same s9;have WA90:jN [] Z.c_Net Z.c_Answer Z.c_Watch Z.K H9 wt m ds1:=WA9.less (fun y hy=>by cases hy)
 try dsimp only
 refine Xy (fun σ' H'=>∃(t9 rq:Addr) (lv fl:List Q2) (qq:Q2),σ'=[some (.ref a),some (.int (m:Int)),some (.ref r),some (.ref wt),some (.ref jl),some (.int c),some (.int (kk:Int)),some (.ref z),some (.ref n),some (.ref t9),some (.ref rq),zB,zC]/\bQ wt H9 H'/\AhA Z.K H' t9 m ds1.length lv fl/\jR m ds1 lv fl/\Fq Z.K H' rq qq/\Xk m ds1 kk d lv p qq/\jN [r] Z.c_Net Z.c_Answer Z.c_Watch Z.K H' wt m (szS ds1 kk p)) (fun X hX=>?_) ?_
 ·refine⟨_,rfl,wt,dxw,_,rfl,hw9,jD _ _ (by decide +kernel) (by decide +kernel),wt,m,ds1,rfl,WA90,fun lv fl AV fa xa H10 s10 nfa efa Ffa=>?_⟩;refine⟨_,rfl,wt,dxw,_,rfl,s10 _ _ hw9,jD _ _ (by decide +kernel) (by decide +kernel),wt,m,ds1,rfl,WA90.same s10,fun lv2 fl2 AV2 ha xh H11 s11 nha eha Fha=>?_⟩;obtain⟨e1,e2⟩:=jR.uni o1 AV AV2;subst e1;subst e2;refine⟨zl9 2,fun t9 ht9=>?_⟩;have s12:=aI ht9 (.tup [.ref fa,.ref ha]);have e12:upd H11 t9 (.tup [.ref fa,.ref ha]) t9=some (.tup [.ref fa,.ref ha]):=aD;generalize upd H11 t9 (.tup [.ref fa,.ref ha])=H12 at s12 e12 ⊢;have s1012:=s11.trans s12;have s912:=s10.trans s1012;have hw12:=s912 _ _ hw9;obtain⟨HW,flen⟩:=Qh (K:=Z.K) (H:=H12) D1 AV (SqL.of (s12 _ _ eha)) (Fha.same s12);have AH:AhA Z.K H12 t9 m ds1.length lv fl:=⟨⟨fa,ha,xa,SqT.of e12,SqL.of (s1012 _ _ efa),Ffa.same s1012,HW⟩,flen⟩
  refine⟨_,rfl,wt,dxw,_,rfl,hw12,jD _ _ (by decide +kernel) (by decide +kernel),_,rfl,_,rfl,wt,z,m,kk,L1,ds1,d,p,rfl,WA90.same s912,D1,hd,s912.fq fz,szw,fun rq qq H13 sx13 frq ⟨lv3,fl3,AV3,fac⟩ wat=>?_⟩;obtain⟨e3,_⟩:=jR.uni o1 AV AV3;subst e3;exact hX _ _ ⟨t9,rq,lv,fl,qq,rfl,fun b ob h nb=>sx13 _ _ (s912 _ _ h) nb,AH.x hw12 sx13,AV,frq,fac,wat [r] (fun y hy=>by rw[mem_singleton.mp hy];exact⟨_,s912 _ _ (s9 _ _ LS1.er)⟩)⟩
 rintro σ10 H10 ⟨t9,rq,lv,fl,qq,rfl,sx,AH,AV,frq,fac,WA10⟩;have s8X:∀b ob,H8 b=some ob->b≠wt->H10 b=some ob:=fun b ob h nb=>sx _ _ (s9 _ _ h) nb;have er10:H10 r=some (.lst us1):=s8X _ _ LS1.er rw';have eC10:=s8X _ _ eC8 Cw;have ej10:=s8X _ _ ej8 jw;have hR10:Rts Z.K H10 us1 ds1:=Am hw9 sx (LS1.hR.same s9);have fz10:Fq Z.K H10 z p:=bQ.seqTI hw9 sx fz;obtain⟨dn,hn9⟩:=nt.ob;have nt10:dF Z.c_Net Z.K H10 n l (m:Int) ds1:=dF.xI hw9 sx (Tv hn9 hw9) nt;clear sx fz nt WA9 WA90 hw9 hn9 s9;have D2:=D1.set hd szw;have o2:=D2.o;have kl:=(List.getElem?_eq_some_iff.mp hd).1;have len1:=LS1.ch.len;obtain⟨t,s0,et,hT,f0⟩:=hR10.at hd;have ro:=(D1.ok d (mem_of_getElem? hd)).1;have sz1:=(D1.ok d (mem_of_getElem? hd)).2
 try dsimp only
 refine pX (fun σ' H'=>aZ H10 H'/\σ'=[some (.ref a),some (.int (m:Int)),some (.ref r),some (.ref wt),some (.ref jl),some (.int c),some (.int (kk:Int)),some (.ref z),some (.ref n),some (.ref t9),some (.ref rq),zB,zC]) (fun X hX=>?_) ?_
 ·obtain⟨fa,ha,xa,ta1,ta2,ta3,ta4⟩:=AH.e;refine⟨_,rfl,_,rfl,_,rfl,r,us1,_,_,rfl,rfl,SqL.of er10,bX et,_,rfl,_,rfl,t9,_,1,_,rfl,rfl,ta1,rfl,_,rfl,_,rfl,n,l,m,190,_,L1,ds1,kk,d,rfl,D1.net nt10,hd,fun sa zs hp vv H11 nsa s11 esa Fsa lhp lohp OVhp SVhp vhp=>?_⟩;have S:Ga m ds1 kk d hp:=⟨lhp,lohp,vv,SVhp,vhp⟩
  have e:qq=Kc lv hp d p:=by
   unfold Kc
   by_cases dh:d.1=.ho
   ·rw[if_pos dh];exact fac.ho dh
   ·rw[if_neg dh];have dc:d.1=.pc:=by cases h:d.1 with
     |pc=>rfl
     |pu=>exact absurd h dk
     |ho=>exact absurd h dh
    obtain⟨hq,S2,e⟩:=fac.pc dc;rw[Ga.uni o1 S S2];exact e
  refine⟨t,s0,z,ha,sa,m,d,p,lv,hp,rfl,s11.seqT hT,s11.fq f0,s11.fq fz10,ta4.same s11,Yw D1 lhp lohp OVhp (SqL.of esa) Fsa,o1.pt _ (mem_of_getElem? hd),sz1.lo,nws.lo,sz1.bd,nws.bd,dk,fun dc=>⟨(sz1.pc dc).1,nws.pc dc,Uu D1 hd dc S nws.lo (nws.pc dc)⟩,fun rf H12 s12 e12=>?_⟩;refine⟨rq,rf,qq,rfl,(s11.trans s12).fq frq,by rw[e];exact Fq.of e12,_,rfl,L2.ifF rfl (hX _ _ ⟨s11.trans s12,rfl⟩)⟩
 rintro σ11 H11 ⟨s11,rfl⟩;have WA11:=WA10.same s11;obtain⟨dxv,av,nv,hw11⟩:=Iw WA11;have WA110:jN [] Z.c_Net Z.c_Answer Z.c_Watch Z.K H11 wt m (szS ds1 kk p):=WA11.less (fun y hy=>by cases hy)
 try dsimp only
 refine pX (fun σ' H'=>aZ H11 H'/\∃(tb:Addr) (lw gl:List Q2),σ'=[some (.ref a),some (.int (m:Int)),some (.ref r),some (.ref wt),some (.ref jl),some (.int c),some (.int (kk:Int)),some (.ref z),some (.ref n),some (.ref t9),some (.ref rq),some (.ref tb),zC]/\AhA Z.K H' tb m ds1.length lw gl/\jR m (szS ds1 kk p) lw gl) (fun X hX=>?_) ?_
 ·refine⟨_,rfl,wt,dxv,_,rfl,hw11,jD _ _ (by decide +kernel) (by decide +kernel),wt,m,_,rfl,WA110,fun lv5 fl5 AV5 fa xa H12 s12 nfa efa Ffa=>?_⟩;refine⟨_,rfl,wt,dxv,_,rfl,s12 _ _ hw11,jD _ _ (by decide +kernel) (by decide +kernel),wt,m,_,rfl,WA110.same s12,fun lv6 fl6 AV6 ha xh H13 s13 nha eha Fha=>?_⟩;obtain⟨e1,e2⟩:=jR.uni o2 AV5 AV6;subst e1;subst e2;refine⟨zl9 2,fun tb htb=>?_⟩;have s14:=aI htb (.tup [.ref fa,.ref ha]);have e14:upd H13 tb (.tup [.ref fa,.ref ha]) tb=some (.tup [.ref fa,.ref ha]):=aD;generalize upd H13 tb (.tup [.ref fa,.ref ha])=H14 at s14 e14 ⊢;have s1214:=s13.trans s14;obtain⟨HW,flen⟩:=Qh (K:=Z.K) (H:=H14) D2 AV5 (SqL.of (s14 _ _ eha)) (Fha.same s14);rw[Aa] at flen;exact hX _ _ ⟨s12.trans s1214,tb,lv5,fl5,rfl,⟨⟨fa,ha,xa,SqT.of e14,SqL.of (s1214 _ _ efa),Ffa.same s1214,HW⟩,flen⟩,AV5⟩
 rintro σ12 H12 ⟨s12,tb,lw,gl,rfl,AB12,AV12⟩;have s1012:=s11.trans s12;have er12:=s1012 _ _ er10;have hR12:=hR10.same s1012
 try dsimp only
 refine pX (fun σ' H'=>aZ H12 H'/\σ'=[some (.ref a),some (.int (m:Int)),some (.ref r),some (.ref wt),some (.ref jl),some (.int c),some (.int (kk:Int)),some (.ref z),some (.ref n),some (.ref t9),some (.ref rq),some (.ref tb),zC]) (fun X hX=>?_) ?_
 ·refine⟨_,rfl,_,rfl,_,rfl,n,l,m,kk,ds1,rfl,nt10.same s1012,o1.pt,by lia,by lia,kl,fun bl H13 s13 nbl ebl=>?_⟩;refine⟨_,rfl,_,rfl,r,bl,t9,tb,us1,m,ds1,qh9 ds1 kk,lv,fl,lw,gl,rfl,SqL.of (s13 _ _ er12),hR12.same s13,SqL.of ebl,(AH.same s1012).same s13,AB12.same s13,o1.pt,by lia,fun j e he nb ek=>?_,fun H14 s14=>⟨_,rfl,L2.ifF rfl (hX _ _ ⟨s13.trans s14,rfl⟩)⟩⟩;refine No D1 szw hd dk AV AV12 j e he (fun eq=>nb ?_) ek;exact mem_filter.mpr ⟨mem_range.mpr (List.getElem?_eq_some_iff.mp he).1,decide_eq_true eq⟩
 rintro σ13 H13 ⟨s13,rfl⟩;have s1013:=s1012.trans s13;have er13:=s1013 _ _ er10;have hR13:=hR10.same s1013;have AB13:=AB12.same s13;obtain⟨fb,hb',xb,tb1,tb2,tb3,tb4⟩:=AB13.e;have lgl:=AB13.len
 try dsimp only
 refine pX (fun σ' H'=>aZ H13 H'/\∃zC',σ'=[some (.ref a),some (.int (m:Int)),some (.ref r),some (.ref wt),some (.ref jl),some (.int c),some (.int (kk:Int)),some (.ref z),some (.ref n),some (.ref t9),some (.ref rq),some (.ref tb),zC']) (fun X hX=>?_) ?_
 ·refine⟨_,rfl,r,us1,rfl,.inl (SqL.of er13),us1.length,rfl,by lia,by lia,?_⟩;refine iD (fun i σ H'=>aZ H13 H'/\∃zC',σ=[some (.ref a),some (.int (m:Int)),some (.ref r),some (.ref wt),some (.ref jl),some (.int c),some (.int (kk:Int)),some (.ref z),some (.ref n),some (.ref t9),some (.ref rq),some (.ref tb),zC']) ⟨aZ.refl _,_,rfl⟩ ?_ ?_
  rotate_left
  ·rintro σ H14 ⟨s14,zC',rfl⟩;exact hX _ _ ⟨s14,zC',rfl⟩
  rintro j σ H14 hj' ⟨s14,zC',rfl⟩;rw[Int.zero_add];have hjl:j < ds1.length:=by lia
  obtain⟨t2,s2,et2,hT2,f2⟩:=(hR13.same s14).at (gN hjl);refine⟨_,rfl,_,rfl,r,us1,_,_,rfl,rfl,SqL.of (s14 _ _ er13),bX et2,t2,_,0,_,rfl,rfl,hT2,rfl,rfl,_,rfl,?_⟩
  by_cases cp:(rA ds1 j).1=.pu
  ·refine L2.ifT (by show decide (V.str (rA ds1 j).1.wd=V.str Kd.pu.wd)=true;rw[cP];exact decide_eq_true cp) ?_;obtain⟨y,ey,fy⟩:=Hf (tb3.same s14) (j:=j) (by lia);have jk:j≠kk:=fun z=>by rw[z,nQ hd] at cp;exact dk cp
   have he2:(szS ds1 kk p)[j]?=some (rA ds1 j):=by rw[yQ hd,if_neg (Ne.symm jk)];exact gN hjl
   obtain⟨_,_,_,_,_,pw⟩:=AV12.str o2 (fun d hd=>(D2.ok d hd).1) he2;rw[pw cp] at fy;exact⟨_,rfl,tb,_,0,_,rfl,rfl,s14.seqT tb1,rfl,_,rfl,fb,xb,_,_,rfl,rfl,s14.seq tb2,bX ey,_,rfl,_,rfl,r,us1,_,_,rfl,rfl,SqL.of (s14 _ _ er13),bX et2,t2,_,3,_,rfl,rfl,hT2,rfl,yU fy f2 ⟨_,rfl,L2.ifF (by simp) ⟨s14,_,rfl⟩⟩⟩
  ·exact L2.ifF (by show decide (V.str (rA ds1 j).1.wd=V.str Kd.pu.wd)=false;rw[cP];exact decide_eq_false cp) (L2.ifF rfl ⟨s14,_,rfl⟩)
 rintro σ14 H14 ⟨s14,zC',rfl⟩;have s1014:=s1013.trans s14;have er14:=s1014 _ _ er10;have hR14:=hR10.same s1014;have hT14:=s1014.seqT hT;have fz14:=s1014.fq fz10;have WA14:=WA10.same s1014;have eC14:=s1014 _ _ eC10;have ej14:=s1014 _ _ ej10;clear AB12 AB13 tb1 tb2 tb3 tb4 AV12 AV AH nt10 fac WA11 WA110 hR12 hR13 hR10;obtain⟨kd,u,v,w0⟩:=d;refine⟨_,rfl,_,rfl,r,us1,_,_,rfl,rfl,SqL.of er14,bX et,3,rfl,t,_,rfl,hT14,(by show ¬(_/\3=4);lia),fun A2 hA2=>?_⟩;have sG:=aI hA2 (.tup [.str kd.wd,.int u,.int v]);have eG:upd H14 A2 (.tup [.str kd.wd,.int u,.int v]) A2=some (.tup [.str kd.wd,.int u,.int v]):=aD;show qe7 _ _ (upd H14 A2 (.tup [.str kd.wd,.int u,.int v])) _;generalize upd H14 A2 (.tup [.str kd.wd,.int u,.int v])=HG at sG eG ⊢;refine⟨_,rfl,zl9 1,fun oN hoN=>?_⟩;have sK:=aI hoN (.tup [.ref z]);have eK:upd HG oN (.tup [.ref z]) oN=some (.tup [.ref z]):=aD;generalize upd HG oN (.tup [.ref z])=HK at sK eK ⊢;refine⟨A2,oN,_,_,rfl,rfl,SqT.of (sK _ _ eG),SqT.of eK,(by simp),(zl9 4),(fun z=>by cases z),fun _ A5 hA5=>?_⟩;have sL:=aI hA5 (.tup ([.str kd.wd,.int u,.int v]++[.ref z]));have eL:upd HK A5 (.tup ([.str kd.wd,.int u,.int v]++[.ref z])) A5=some (.tup ([.str kd.wd,.int u,.int v]++[.ref z])):=aD;generalize upd HK A5 (.tup ([.str kd.wd,.int u,.int v]++[.ref z]))=HL at sL eL ⊢;have s3L:=sG.trans (sK.trans sL);have erL:=s3L _ _ er14;have fL:=s3L.fq fz14;have ixk:ixN us1.length (kk:Int)=some kk:=kD (by lia);refine⟨_,rfl,_,rfl,r,us1,_,kk,rfl,rfl,erL,ixk,?_⟩;have hRn:Rts Z.K HL (us1.set kk (.ref A5)) (ds1.set kk (kd,u,v,p)):=Rts.set (k:=kd) (SqT.of eL) fL kk (hR14.same s3L);have hRM:=Rts.upd (o:=.lst (us1.set kk (.ref A5))) erL hRn;have sxr:bQ r HL (upd HL r (.lst (us1.set kk (.ref A5)))):=fun b o h nb=>by rw[aY nb];exact h
 have Cn:=LS1.ch.set n118 hd nws;have WAn:=(WA14.same s3L).x erL sxr (by simp);have esk:=oC ds1 kk p;rw[qW hd] at Cn WAn esk;exact⟨sxr _ _ (s3L _ _ eC14) Cr,sxr _ _ (s3L _ _ ej14) jr,_,_,_,_,_,_,_,_,_,_,rfl,⟨Cn,aD,hRM,WAn⟩,sk.trans esk⟩
end
theorem Zm (c:CZ){fa:Addr}(hfa:c.mg "law"=some (.ref fa))(h:GZ c):
  ∃fd:FuncData,(∀(s:Shared) (v:Value),BindsTo s fd ⟨[v],[]⟩ [("_law_script",v)])/\∀base:Heap,c.K.In base->base.Ns mainGlobals c.mg->aL c.P c.w c.K c.mg base CX0 12 fa fd ["_law_script"] (Cb c.K):=by
 have e:=hfa.symm.trans h.m90
 cases e
 refine⟨W.fnOf "law" "law" (fA zQ) (cV zQ) (aH zQ) .none c.kV90 c.dc90 c.pm90 c.an90 c.cd90 c.ct90,fun s v=>.of_eq rfl,fun base _ _=>?_⟩
 refine Classical.byContradiction fun n=>?_
 have e:=Classical.epsilon_spec (p:=fun x:CZ×Heap=>GZ x.1/\¬OZ x.1 x.2) ⟨(c,base),h,n⟩
 have i:GZ Z:=by unfold Z;exact e.1
 have j:=@Rlaw i
 unfold FZ Z ZB at j;exact e.2 j
theorem qk8 {l:W.OpenLaw}{K:Params->Frag}(hn:l.most=some 63)(hdf:d.params.defaults=[])(hY:∀(w:World) (h:Heap),YP w h->(K w.params).In h)(F:∀(w:World) (mg:Str->Option Value) (fa:Addr) (h:Heap),(K w.params).In h->h.Ns mainGlobals mg->mg d.name=some (.ref fa)->
   ∃fd:FuncData,(∀(s:Shared) (u:Value),BindsTo s fd ⟨[u],[]⟩ [("_law_script",u)])/\∀base:Heap,(K w.params).In base->base.Ns mainGlobals mg->aL l.prog w (K w.params) mg base CX0 12 fa fd ["_law_script"] (Cb (K w.params))):
  W.WalkO q loose XP YP l.row.toRowW d [] (fun f vs=>PySem.call f vs):=
 L2.Wa (n:=63) (k:=12) (x:="_law_script") (CX:=fun _=>CX0) (sp:=fun w=>Cb (K w.params)) hn (by decide) hdf ⟨rfl,by decide,by decide⟩ hY F (fun _ _ a ns hl _ hS=>⟨a,ns,rfl,hS,hl,fun _=>rfl⟩) fun _ _ _ _ _ z=>z
end K74
local macro_rules | `(tactic| walk_at "F9")=>`(tactic| (refine' L2.rV ?l9 ?c9 ?kk9;(case l9=>k_is);(case c9=>k_is);(case kk9=>show _=_;k_is)))
namespace PySem.W.Fast
noncomputable section
def Q:=Nat
def tw16485584986334303832:=Q
def tw3445920137197826795:=Q
def tw12948428377229701904:=Q
def tw2446021407833454737:=Q
def tw329178610858771977:=Q
def tw7729842524075689738:=Q
def tw11374739393097745964:=Q
def tw8877090931600553233:=Q
def tw8796363981035380645:=Q
def tw4227796240824935716:=Q
def tw16917936210741636303:=Q
def tw17696127917065338295:=Q
def tw12008296125482894588:=Q
def tw8516392764602713809:=Q
def tw16768171382002714359:=Q
def tw10890391309437685666:=Q
def tw9642340706377428067:=Q
def tw15733385012624378281:=Q
def tw982626207285279028:=Q
def tw9076604931633182678:=Q
def tw9299760145821056807:=Q
def tw6282693066807331618:=Q
def tw1423653271515137783:=Q
def tw17418401851538721919:=Q
def tw195243518488555839:=Q
def tw17288457951504987410:=Q
def tw5151691966457418876:=Q
def tw17544762155443526946:=Q
def tw2597565500744984204:=Q
def tw15918341217414163088:=Q
def tw2696210147762970581:=Q
def tw16645969868946722700:=Q
def tw8425961509934661350:=Q
def tw1754825301117423055:=Q
def tw907614878939722128:=Q
def tw886505916289725303:=Q
def tw1329704064174285728:=Q
def tw94276908596294350:=Q
def tw6309849901373431190:=Q
def tw14483096409405454094:=Q
def tw8972885530940348761:=Q
def tw10046679316380212726:=Q
def tw14897089648909831001:=Q
def tw7808246049619216521:=Q
def tw4896250707450881725:=Q
def tw2988160527929298830:=Q
def tw14809449884109641268:=Q
def tw3428251463548592586:=Q
def tw11855149410338861086:=Q
def tw12320066311583173956:=Q
def tw14222608577095152174:=Q
def tw15183223407664931707:=Q
def tw16808190146516582101:=Q
def tw10421960179616129570:=Q
def tw11001645765495427430:=Q
def tw9207377352411533781:=Q
def tw16601357260624744241:=Q
def tw16493369056979569985:=Q
def tw4860455987866923945:=Q
def tw9930670632522225551:=Q
def tw5023632219722833966:=Q
def tw16807520837358303357:=Q
def tw17419096849238530911:=Q
def tw10629794810290758825:=Q
def tw13563222386256774567:=Q
def tw645343262043999372:=Q
def tw14704248537916848547:=Q
def tw16531400515574935946:=Q
def tw9785918308861404100:=Q
def tw11790457524464849897:=Q
def tw199009501796741055:=Q
def tw3257089790426216495:=Q
def tw824399832564711479:=Q
def tw88277548966205077:=Q
def tw17929458058673891750:=Q
def tw4704999410816125579:=Q
def tw15817626155268705211:=Q
def tw16499090268079960059:=Q
def tw14527630354848530894:=Q
def tw8290360436981106358:=Q
def tw5929830050296487489:=Q
def tw17167878948421209460:=Q
def tw14976032334085096638:=Q
def tw5080785404833443434:=Q
def tw14978707598865499068:=Q
def tw13709705948283970397:=Q
def tw11158162747281019289:=Q
def tw11429735667811426965:=Q
def tw2255122436373425995:=Q
def tw2134682341884256808:=Q
def tw12777703719427187108:=Q
def tw11781354694252025087:=Q
def tw13631217333713949109:=Q
def tw12947118018530130714:=Q
def tw13846324845747818987:=Q
def tw17683554544461837107:=Q
def tw10422544688297842296:=Q
def tw12106297257914209735:=Q
def tw306917867478883194:=Q
def tw14506118422807234649:=Q
def tw14135222150355297427:=Q
def tw16386794496485635354:=Q
def tw10433188761964892462:=Q
def tw15606153432884135067:=Q
def tw18284058384463863153:=Q
def tw9561279085874579175:=Q
def tw17468155506628660901:=Q
def tw4067801687257352739:=Q
def tw5111828401483960899:=Q
def tw3569998541549108333:=Q
def tw11366242108012691968:=Q
def tw1409033347610990924:=Q
def tw17377811806137994457:=Q
def tw1267975612489504961:=Q
def tw16170243115160623550:=Q
def tw5873459081138798847:=Q
def tw13631822298141577839:=Q
def tw2046343965317707682:=Q
def tw10356581019443357757:=Q
def tw6015307096695560769:=Q
def tw11209992984241773577:=Q
def tw11781792274915021113:=Q
def tw17588178433348414463:=Q
def tw1384263685327814138:=Q
def tw16850654367945711638:=Q
def tw5719633746281527830:=Q
def tw9046125286896635558:=Q
def tw18009004161904749757:=Q
def tw16038176498762113326:=Q
def tw4829596981936915846:=Q
def tw6198093996296541737:=Q
def tw6211282226081777853:=Q
def tw1667379615292948410:=Q
def tw10004370994079264648:=Q
def tw10739091080715047335:=Q
def tw15903403625303754898:=Q
def tw176105171904016149:=Q
def tw11771451006584631432:=Q
def tw5059932910003421449:=Q
def tw6202091119070934520:=Q
def tw17710782952062987560:=Q
def tw12864844834173420094:=Q
def tw14103793350305949242:=Q
def tw5308158149284184853:=Q
def tw10384953806850043817:=Q
def tw4509758422318681106:=Q
def tw2206241482395407433:=Q
def tw12066548102335934256:=Q
def tw14239103552756339283:=Q
def tw2810569454156091497:=Q
def tw1227822666055453837:=Q
def tw1370169833858933940:=Q
def tw7551288590938481221:=Q
def tw2226528502685497862:=Q
def tw6774787765846060806:=Q
def tw16230549694979633151:=Q
def tw14885294060658730943:=Q
def tw13635037119331278658:=Q
def tw1141823663954088655:=Q
def tw13417259962875193660:=Q
def tw17142788427225589413:=Q
def tw1393608625206579500:=Q
def tw552840484957973716:=Q
def tw16496512179608752138:=Q
def tw11052087144898591993:=Q
def tw13539015281041852491:=Q
def tw8826441243455670812:=Q
def tw9023113237129437748:=Q
def tw6508054761382062605:=Q
def tw9745980526005359627:=Q
def tw15541807065553525766:=Q
def tw16980408032229597579:=Q
def tw5085074754949146650:=Q
def tw16536183768773469297:=Q
def tw12509519800391382316:=Q
def tw14531307376971988722:=Q
def tw6358307721499097870:=Q
def tw14272367765209114471:=Q
def tw14015414618928789807:=Q
def tw11180551074453251247:=Q
def tw4830884530350219322:=Q
def tw12774812770070207413:=Q
def tw6195805030252416063:=Q
def tw12117214567721241411:=Q
def tw12083675362407708233:=Q
def tw5337755492738659936:=Q
def tw15160225178726621497:=Q
def tw6940351443224369293:=Q
def tw2298302139520483094:=Q
def tw11994292138193391048:=Q
def tw14444406476548733888:=Q
def tw10872693973788322566:=Q
def tw97902528191108452:=Q
def tw459763292804365577:=Q
def tw13609088822298217295:=Q
def tw5627303574289889912:=Q
def tw8643649162912556982:=Q
def tw10124329750898869838:=Q
def tw15291953614564626588:=Q
def tw14121674942511643018:=Q
def tw1985955640721412102:=Q
def tw17714690805990164191:=Q
def tw4395198442891430085:=Q
def tw4221737217574718144:=Q
def tw7319034007785725740:=Q
def tw1669397128197753575:=Q
def tw933838087077102708:=Q
def tw17064974278433164039:=Q
def tw2212936040697885274:=Q
def tw8783450108577131700:=Q
def tw6577235801530966010:=Q
def tw10554163342974968034:=Q
def tw399504093983089465:=Q
def tw18252874259954922412:=Q
def tw1679888922831445576:=Q
def tw15545728479205779978:=Q
def tw16985916020169468041:=Q
def tw11092052306698597388:=Q
def tw16807047231296137843:=Q
def tw12819513607549035605:=Q
def tw7177625044546062285:=Q
def tw13912556198091386281:=Q
def tw1087547187082596208:=Q
def tw5632098715342534728:=Q
def tw12668345593559762548:=Q
def tw18254560754262760711:=Q
def tw2704179239936926679:=Q
def tw6526658367791578257:=Q
def tw10702605822987365263:=Q
def tw2718499866040002986:=Q
def tw12894640352787756592:=Q
def tw14976050155448052608:=Q
def tw15518195093015372109:=Q
def tw13201258898397003523:=Q
def tw13066576977897918677:=Q
def tw15079760966806830172:=Q
def tw14792906248788217255:=Q
def tw12369602283181780951:=Q
def tw15756952164274638483:=Q
def tw14087084297461616484:=Q
def tw3964458009269482996:=Q
def tw10280358397342801845:=Q
def tw17324921538207327604:=Q
def tw17523826170737310276:=Q
def tw11394564680140221206:=Q
def tw17324343898237348613:=Q
def tw17887521704941213343:=Q
def tw7248848614674147070:=Q
def tw13029361644320042533:=Q
def tw18363464164571963693:=Q
def tw13771541064552158454:=Q
def tw11283877171708941700:=Q
def tw16129618388495799635:=Q
def tw14483187559797082019:=Q
def tw14980081381781234098:=Q
def tw1822175171803977622:=Q
def tw13646746841755787874:=Q
def tw11085046271473130600:=Q
def tw13124269178025381059:=Q
def tw17746858401226323721:=Q
def tw13570053592111200276:=Q
def tw8142061808906908204:=Q
def tw18148960539207257969:=Q
def tw14010804376948922956:=Q
def tw2858580104179948939:=Q
def tw219076624344446434:=Q
def tw14275241954887428042:=Q
def tw3989203623747504400:=Q
def tw8850122561977030354:=Q
def tw12538715401001403296:=Q
def tw12654101319630914269:=Q
def tw17085644690259750084:=Q
def tw11050688443648310790:=Q
def tw3107394849863132674:=Q
def tw1845646348093543851:=Q
def tw720296003302357582:=Q
def tw9950704391769711828:=Q
def tw1595387771414372293:=Q
def tw5230469115019254356:=Q
def tw12443431569033415291:=Q
def tw10941741099116702654:=Q
def tw873046033083419076:=Q
def tw13817680901256237394:=Q
def tw8414532250597320969:=Q
def tw145865617762315055:=Q
def tw12378362753035777195:=Q
def tw12655458773119589053:=Q
def tw4557767252943911360:=Q
def tw715797279348446128:=Q
def tw17315880201431859284:=Q
def tw6966385831163619081:=Q
def tw9192801412997756005:=Q
def tw16215103842075459711:=Q
def tw7819833421149080752:=Q
def tw590150057830933335:=Q
def tw6438661999839521824:=Q
def tw17401860926323045978:=Q
def tw3685584760774694301:=Q
def tw10667792099799638065:=Q
def tw9348416750710394909:=Q
def tw15412434619536058134:=Q
def tw7333540245502936192:=Q
def tw18254955538322055184:=Q
def tw15984741751997864829:=Q
def tw1213933197619759987:=Q
def tw5437724174276946673:=Q
def tw17389885301001180742:=Q
def tw15579050296295808030:=Q
def tw11250191926235199194:=Q
def tw11767847626287593488:=Q
def tw903235394409559225:=Q
def tw3047138262472031713:=Q
def tw9076731587285230290:=Q
def tw10423958995882272518:=Q
def tw15133696413604007627:=Q
def tw18075558773149240326:=Q
def tw14938522126146712096:=Q
def tw17682914094908621451:=Q
def tw9125354471029571608:=Q
def tw650664873000958172:=Q
def tw15500671477469805506:=Q
def tw4598567497375053006:=Q
def tw61126313590718725:=Q
def tw14178202850423705666:=Q
def tw1138548777058133614:=Q
def tw2297718067979531854:=Q
def tw2944159307553546031:=Q
def tw5680111599663910000:=Q
def tw13556391521990285287:=Q
def tw7430333812923551958:=Q
def tw5799992724822584094:=Q
def tw12165427349927018855:=Q
def tw8593137707986948219:=Q
def tw2593458031874669195:=Q
def tw17910044364843430200:=Q
def tw12264750767934619666:=Q
def tw9410974325972460314:=Q
def tw6646851659648810088:=Q
def tw14445328984574484737:=Q
def tw7286151695939941755:=Q
def tw11230740962455564909:=Q
def tw7865133947076148759:=Q
def tw2083765854618315172:=Q
def tw9619561251110818867:=Q
def tw11130944196646883711:=Q
def tw18108236632200585403:=Q
def tw3282403528228558918:=Q
def tw12186353850226328398:=Q
def tw14582127871538793965:=Q
def tw15683677147932798291:=Q
def tw5556195141968295143:=Q
def tw12063376244680158271:=Q
def tw16345513115909920103:=Q
def tw10064445729412386183:=Q
def tw14816850713436425051:=Q
def tw13052435086450633473:=Q
def tw12443017862611197185:=Q
def tw11510353209467984901:=Q
def tw10479285462584617787:=Q
def tw4409810512575480918:=Q
def tw4539874175794416234:=Q
def tw7966807510673227406:=Q
def tw17758639216435656984:=Q
def tw17975691475595834491:=Q
def tw11853807929347931328:=Q
def tw9298189324811971351:=Q
def tw12273291277312533314:=Q
def tw5800386200440999528:=Q
def tw2753743321815067500:=Q
def tw17125738333482966620:=Q
def tw18130407582562774231:=Q
def tw5035642862659063049:=Q
def tw17142448866127364620:=Q
def tw12508959088598549247:=Q
def tw10242440445531349270:=Q
def tw14002030702796189215:=Q
def tw14392826082450034207:=Q
def tw6483148513526243181:=Q
def tw4607175073284626960:=Q
def tw97357577263404058:=Q
def tw17687711988536774027:=Q
def tw6732769431138597767:=Q
def tw3218352090199024250:=Q
def tw11138388097042287535:=Q
def tw10337842444046331621:=Q
def tw6069919754122469244:=Q
def tw17137101011009355580:=Q
def tw8479675168350355917:=Q
def tw14728472860369851629:=Q
def tw471296197647819918:=Q
def tw3703528475419783648:=Q
def tw14402107822471499963:=Q
def tw18312267167647772279:=Q
def tw17609807355030494210:=Q
def tw2891429493896754090:=Q
def tw17916884118366205868:=Q
def tw13935508461854794553:=Q
def tw11556947932667505218:=Q
def tw9007444494437406170:=Q
def tw447840192352919017:=Q
def tw13014695927957024738:=Q
def tw1878499196219245343:=Q
def tw17679886205655186960:=Q
def tw12246422887244690:=Q
def tw16086331240187649758:=Q
def tw14191683152370685996:=Q
def tw18363498857022840659:=Q
def tw10126773744001508451:=Q
def tw6509408109776620165:=Q
def tw2648346266282191662:=Q
def tw17554223076247737848:=Q
def tw18135135864820943162:=Q
def tw13431100500821185849:=Q
def tw8624324494335954039:=Q
def tw10080447950562433133:=Q
def tw6647518720901537278:=Q
def tw18378392512996303851:=Q
def tw9081059385781952790:=Q
def tw11415864465276218134:=Q
def tw7542129379461744433:=Q
def tw11611254213800067336:=Q
def tw13166548632669466467:=Q
def tw7938484968971658507:=Q
def tw9773663277043107372:=Q
def tw3576905068795286938:=Q
def tw8713952569486297596:=Q
def tw10810140019328601819:=Q
def tw16001643605643826669:=Q
def tw5400479182662806772:=Q
def tw7314102884518675510:=Q
def tw12178451343100636686:=Q
def tw5596329737207321333:=Q
def tw17293358145588620104:=Q
def tw13148001905157242167:=Q
def tw8177473184784431907:=Q
def tw10880328416477925137:=Q
def tw2135455160402012570:=Q
def tw17105791562821095732:=Q
def tw327117412072028208:=Q
def tw16673073036961188390:=Q
def tw9709312815550895621:=Q
def tw2407386261641380055:=Q
def tw5996617878172272530:=Q
def tw763004854033058701:=Q
def tw8219914742593261212:=Q
def tw14800983022753603535:=Q
def tw7549717087459686501:=Q
def tw12367579742520786368:=Q
def tw17687144015130153825:=Q
def tw9691659965145335677:=Q
def tw17495290439959710467:=Q
def tw778734529545755326:=Q
def tw10617078794549400559:=Q
def tw13079809236918757947:=Q
def tw13896378295166618216:=Q
def tw15612409788711933660:=Q
def tw15005159716044782382:=Q
def tw10709694526746970408:=Q
def tw3119448999631196078:=Q
def tw4521755764051319611:=Q
def tw5268423676741495359:=Q
def tw17092666132418009691:=Q
def tw3515654114738073447:=Q
def tw5907548984366624911:=Q
def tw8204237947243578701:=Q
def tw4794793809367015846:=Q
def tw14285173211009630099:=Q
def tw9038092133241676531:=Q
def tw10684068173234235432:=Q
def tw5036373043994702204:=Q
def tw17451681498155893323:=Q
def tw4582795150380269526:=Q
def tw1660371613460588341:=Q
def tw13808467277244526854:=Q
def tw11053023943758065900:=Q
def tw12844929986378447081:=Q
def tw771251611851307660:=Q
def tw4342680545637381320:=Q
def tw2140154502726682007:=Q
def tw3355074884620786839:=Q
def tw11436316133811934180:=Q
def tw13909684353084754402:=Q
def tw11141497079784630003:=Q
def tw15668151022330335163:=Q
def tw11770415056425957690:=Q
def tw2765209977678200603:=Q
def tw984342009857658271:=Q
def tw3433487191330015526:=Q
def tw3048148121460556610:=Q
def tw3777960309617574261:=Q
def tw17032208787009717287:=Q
def tw17797099118328182664:=Q
def tw10310907433212495194:=Q
def tw16265352806026229310:=Q
def tw8493649632132747647:=Q
def tw3153391404918230121:=Q
def tw18188835665691371396:=Q
def tw16949712650469833748:=Q
def tw1490207554771457342:=Q
def tw5836374523089817543:=Q
def tw1148735304327292704:=Q
def tw17301699488939196025:=Q
def tw3663742449731719748:=Q
def tw5460716511053397811:=Q
def tw12900610972486787859:=Q
def tw13152280607887135571:=Q
def tw11761171305478429969:=Q
def tw15433129630694439921:=Q
def tw4303847579969593496:=Q
def tw10639967861751011858:=Q
def tw13691990277727315502:=Q
def tw5973102441998670591:=Q
def tw1811835055109730895:=Q
def tw1553819021641213860:=Q
def tw16965525630177385745:=Q
def tw3253459351542222615:=Q
def tw6836064462577648020:=Q
def tw5511095147331097163:=Q
def tw13987592077107628019:=Q
def tw2973849854872153578:=Q
def tw10583184001518345294:=Q
def tw6191243661284669385:=Q
def tw17071716148883258061:=Q
def tw12120045953905954241:=Q
def tw8632195764768611534:=Q
def tw3190492877422143040:=Q
def tw6651717901955389108:=Q
def tw3103540055773291740:=Q
def tw405988989413736000:=Q
def tw12361281480685296866:=Q
def tw11071124780027817316:=Q
def tw15539710786254967812:=Q
def tw5375807266183362870:=Q
def tw15421580388156349285:=Q
def tw11487009793261485497:=Q
def tw2331385486004725312:=Q
def tw11373688713631662391:=Q
def tw14694276674276187497:=Q
def tw6422405461236595826:=Q
def tw3329332327848468403:=Q
def tw5414461664917681714:=Q
def tw6014966437290845981:=Q
def tw8205148771470638127:=Q
def tw5675898042785769062:=Q
def tw14379093239874399127:=Q
def tw14148609409915459087:=Q
def tw3416883048970288719:=Q
def tw13704721762580101865:=Q
def tw5504234178511198571:=Q
def tw7686162163866435154:=Q
def tw12142861066227771275:=Q
def tw11137206488105977507:=Q
def tw56598638065390415:=Q
def tw1027288892153727097:=Q
def tw13567252543503088552:=Q
def tw13209901629227171293:=Q
def tw16813071994604211037:=Q
def tw14326539933848536651:=Q
def tw15365439415875007312:=Q
def tw4875831468285858596:=Q
def tw4051761975315879770:=Q
def tw10875847923702941137:=Q
def tw7677866841989343615:=Q
def tw4796725099305477096:=Q
def tw18192204446673323608:=Q
def tw14759952914351447511:=Q
def tw14876364816521793544:=Q
def tw6944701767137771797:=Q
def tw6924991733269662358:=Q
def tw10002903016507996483:=Q
def tw1552320848297826141:=Q
def tw7474190090191974086:=Q
def tw8630094042770937594:=Q
def tw15449894792694264915:=Q
def tw13210560597086581117:=Q
def tw14876375311489385569:=Q
def tw847754546293104359:=Q
def tw1132099165581277532:=Q
def tw10706468837771079565:=Q
def tw15601158519836176718:=Q
def tw207624612285507990:=Q
def tw9254031901900409569:=Q
def tw3084944311289764593:=Q
def tw17024562546288936866:=Q
def tw3662955773441836231:=Q
def tw4202566314124161503:=Q
def tw1397077410423331245:=Q
def tw14636527890510967358:=Q
def tw16650904333128385891:=Q
def tw788050938808140654:=Q
def tw15369243550918185129:=Q
def tw17969625175167045333:=Q
def tw13726691049456339887:=Q
def tw894038330523949742:=Q
def tw17661528875148757571:=Q
def tw14080270367409819807:=Q
def tw7182721716408681385:=Q
def tw11623123862636297016:=Q
def tw10803366614230019967:=Q
def tw13902209935035313813:=Q
def tw12789946712239047074:=Q
def tw6773647367616047213:=Q
def tw13541431315362087301:=Q
def tw6607908191219562582:=Q
def tw3773091793117237194:=Q
end
end PySem.W.Fast
open PySem PySem.W PyProof.Rows
set_option maxRecDepth 100000 in
set_option maxHeartbeats 0 in
theorem PySem.Challenge.cw_ohmyard_k74_whole_the_rest_stays_holds : PySem.Challenge.rw_ohmyard_k74_whole_the_rest_stays.Holds := by
  w_on; o_law; z_head; (case hw => w_witness2)
  k_fill
  refine L2.Sn (fun _ => by kernel_rfl) (K74.qk8 (l := PySem.Challenge.rw_ohmyard_k74_whole_the_rest_stays) rfl rfl (fun w h Y => Y) ?F)
  case F =>
    intro w mg fa h KX G hmg
    refine' K74.Zm {P:=PySem.Challenge.rw_ohmyard_k74_whole_the_rest_stays.prog,w:=w,mg:=mg,K:=PySem.Challenge.cw_ohmyard_k74_whole_the_rest_stays_holds.heap_818 w.params,..} hmg (.mk ?_ ?_ ?_ ?_ ?_ ?_ ?_ ?_ ?_ ?_ ?_ ?_ ?_ ?_ ?_ ?_ ?_ ?_ ?_ ?_ ?_ ?_ ?_ ?_ ?_ ?_ ?_ ?_ ?_ ?_ ?_ ?_ ?_ ?_ ?_ ?_ ?_ ?_ ?_ ?_ ?_ ?_ ?_ ?_ ?_ ?_ ?_ ?_ ?_ ?_ ?_ ?_ ?_ ?_ ?_ ?_ ?_ ?_ ?_ ?_ ?_ ?_ ?_ ?_ ?_ ?_ ?_ ?_ ?_ ?_ ?_ ?_ ?_ ?_ ?_ ?_ ?_ ?_ ?_ ?_ ?_ ?_ ?_ ?_ ?_ ?_ ?_ ?_ ?_ ?_ ?_ ?_ ?_ ?_ ?_ ?_ ?_ ?_ ?_ ?_ ?_ ?_ ?_ ?_ ?_ ?_ ?_ ?_ ?_ ?_ ?_ ?_ ?_ ?_ ?_ ?_ ?_ ?_ ?_ ?_ ?_ ?_ ?_ ?_ ?_ ?_ ?_ ?_ ?_ ?_ ?_ ?_ ?_ ?_ ?_ ?_ ?_ ?_ ?_ ?_ ?_ ?_ ?_ ?_ ?_ ?_ ?_ ?_ ?_ ?_ ?_ ?_ ?_ ?_ ?_ ?_ ?_ ?_ ?_ ?_ ?_ ?_ ?_ ?_ ?_ ?_ ?_ ?_ ?_ ?_ ?_ ?_ ?_ ?_ ?_ ?_ ?_ ?_ ?_ ?_ ?_ ?_ ?_ ?_ ?_ ?_ ?_ ?_ ?_ ?_ ?_ ?_ ?_ ?_ ?_ ?_ ?_ ?_ ?_ ?_ ?_ ?_ ?_ ?_ ?_ ?_ ?_ ?_ ?_ ?_ ?_ ?_ ?_ ?_ ?_ ?_ ?_ ?_ ?_ ?_ ?_ ?_ ?_ ⟨(mg_none_of KX G ?_),(mg_none_of KX G ?_),(mg_none_of KX G ?_),(mg_none_of KX G ?_)⟩ ⟨L2.jG ⟨?_,?_,?_,?_⟩ ⟨?_,?_,?_,?_⟩ ⟨?_,?_,?_,?_⟩,L2.jG ?_ ?_ ?_,L2.jG ?_ ?_ ?_,L2.jG ?_ ?_ ?_,L2.jG ?_ ?_ ?_,?_,?_,L2.jG ?_ ?_ ?_,L2.jG ?_ ?_ ?_,L2.jG (L2.jG (L2.uJ _ _) ?_ ?_) (L2.jG ?_ (L2.uJ _ _) ?_) (L2.jG ?_ ?_ (L2.uJ _ _)),(mg_of KX G ?_),L2.jG (mg_of KX G ?_) (mg_of KX G ?_) (mg_of KX G ?_)⟩ (L2.Fq.mod ?_) (L2.Fq.mod ?_) ⟨⟨?_,?_,?_,?_⟩,?_,?_,?_,?_,?_,?_,(mg_of KX G ?_)⟩ ⟨⟨?_,?_,?_,?_⟩,?_,?_,?_,(mg_of KX G ?_)⟩ ⟨⟨?_,?_,?_,?_⟩,?_,?_,(mg_of KX G ?_)⟩ (L2.jG (⟨?_,?_,?_,?_⟩) (⟨?_,?_,?_,?_⟩) (⟨?_,?_,?_,?_⟩)) ⟨?_,?_,?_,?_⟩ ⟨?_,?_,?_,?_⟩ ⟨?_,?_,?_,?_⟩)
    any_goals first|(refine mg_of KX G ?_;k_is)|(refine mg_none_of KX G ?_;k_is)
    all_goals try dsimp only
    any_goals first|k_is|walk_at "F9"|kit_is|kts_exm|k_exc|(show _=_;k_is)|rfl|decide
    any_goals first|k_is|walk_at "F9"|kit_is|kts_exm|k_exc|(show _=_;k_is)|rfl|decide
